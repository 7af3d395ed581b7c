/-
  The laws of disk: the space is kept.
  The laws of disk: a second crash changes nothing.
-/
import Derived.Test.YtfkdkdkdpenblaaVZ
namespace Go.Proofs.Ytfkdkdkdpenblaa
open Go.RowKit
/-- A script whose steps are as they come in. -/
def Dk.Steps (L : List Dk.Step) : Prop := ∀ x ∈ L, x.Ok ∧ Ty.I64 x.n
theorem Dk.Steps.take {L : List Dk.Step} (h : Dk.Steps L) (k : Nat) : Dk.Steps (L.take k) := fun x hx => h x (List.mem_of_mem_take hx)
/-- A step of the program's disk, its blocks from B on. -/
theorem Dk.does_PL {B : Nat} {w : World} {p : Nat} {d : Dk.D} {k : Nat} (h : Dk.PL B w p d) (hg : Dk.Good k d) (hk : k ≤ 100000) {x : Dk.Step} (hx : x.Ok ∧ Ty.I64 x.n) {vK : Value} (hK : Ig.At B w vK x.keep) :
    Calls Try.prog 15 #[.pointer (some ⟨p, 0, none⟩), .agg #[.int .i64 x.k, .string (Ty.S x.a), .string (Ty.S x.b), .int .i64 x.n, vK]] w fun e w' => e = .returned (.int .i64 (((Dk.step d x.op).2 : Nat) : Int)) ∧ Dk.PL B w' p (Dk.step d x.op).1 ∧ Below B w w' := by
  obtain ⟨_, _, _, _, hB, _⟩ := hK.is
  exact h.call hB fun S h' hS => Dk.does_c h' (hg.fit hk) x hx.1 hx.2 B vK hK hS
theorem Dk.Good.op {k : Nat} {d : Dk.D} (h : Dk.Good k d) {x : Dk.Step} (hx : x.Ok ∧ Ty.I64 x.n) : Dk.Good (k + 1) (Dk.step d x.op).1 := h.step x.op hx.1.a hx.1.b hx.2.2
set_option maxHeartbeats 4000000 in
set_option maxRecDepth 100000 in
theorem Dk.lawSpace_w (n : Int) (v : Value) (L : List Dk.Step) (w : World) (hn : Ty.I64 n) (hv : Dk.Ops w.heap.size w v L) (hl : L.length ≤ 1048576) (hok : Dk.Steps L) :
    Calls Try.prog 7 #[.int .i64 n, v] w fun e w' => e = .returned (.bool true) ∧ Below w.heap.size w w' := by
  have cl := Dk.lives_c w
  have CE : Hid (∀ W, Below w.heap.size w W → Calls Try.prog 12 #[v] W fun e w' => ∃ u, e = .returned u ∧ Dk.Ops w.heap.size W u (L.take 300) ∧ w' = W) := Lib.hid fun W g => Dk.early_c (hv.below g) hl
  have CN : Hid (∀ W, Below w.heap.size w W → Calls Try.prog 13 #[.int .i64 n] W fun e w' => ∃ p, e = .returned (.pointer (some ⟨p, 0, none⟩)) ∧ Dk.PL w.heap.size w' p (Dk.new n) ∧ Below w.heap.size W w') := Lib.hid fun W g => Dk.new_PL hn _ g.size
  have HG0 := Lib.hid (Dk.Good.new n hn.2)
  have HM : Hid (Dk.Steps (L.take 300) ∧ (L.take 300).length ≤ 300) := Lib.hid ⟨hok.take 300, List.length_take_le _ _⟩
  generalize L.take 300 = M at CE HM
  clear hv hl hok hn
  rcases (by omega : n < 0 ∨ ¬ n < 0) with hneg | hneg
  · obtain ⟨room, hroom⟩ : ∃ room, room = max n 0 := ⟨_, rfl⟩
    have HROOM := Lib.hid hroom
    clear hroom
    go_enter Try.func7, Try.ntmps7
    go_wp2_with fail
    with_reducible refine cl.mono ?_
    rintro e w1 ⟨rfl, g1⟩
    have ce := CE.out w1 g1
    have cn := CN.out w1 g1
    have HB1 := Lib.hid g1
    clear cl g1 CE CN
    go_wp2_with fail
    with_reducible refine ce.mono ?_
    rintro e w2 ⟨u, rfl, hu, h2⟩
    subst w2
    have HU := Lib.hid hu
    obtain ⟨aU, cU, hvU, _⟩ := hu.is
    subst hvU
    clear ce hu
    go_wp2_with fail
    with_reducible refine cn.mono ?_
    rintro e w3 ⟨p, rfl, hp, g3⟩
    have HU3 := Lib.hid (HU.out.below g3)
    have HP3 := Lib.hid hp
    have HB3 := Lib.hid (HB1.out.trans g3)
    have hml := HM.out.2
    clear cn hp g3
    go_wp2
    go_loopw [6, 7] (fun i _ wr => ∃ (q : Nat) (d : Dk.D), q ≤ M.length ∧ i = .int .i64 q ∧ Dk.Good q d ∧ Dk.PL w.heap.size wr p d ∧ Below w.heap.size w wr ∧ Dk.Ops w.heap.size wr (.slice aU M.length cU) M ∧ d.room = room ∧ (Dk.held d : Int) ≤ room) (fun i _ _ => M.length - (intOf i).toNat)
    case atStart => exact ⟨0, Dk.new n, by omega, rfl, HG0.out, HP3.out, HB3.out, HU3.out, HROOM.out.symm, by rw [HROOM.out]; show (0 : Int) ≤ _; omega⟩
    case round =>
      obtain ⟨q, d, hq, rfl, hG, hP, hB, hU, hr, hh⟩ := hrel
      have HG := Lib.hid hG
      have HP := Lib.hid hP
      have HB := Lib.hid hB
      have HUU := Lib.hid hU
      have HR := Lib.hid hr
      have HHD := Lib.hid hh
      have hq0 : (0 : Int) ≤ (q : Int) := by omega
      by_cases hql : q < M.length
      · obtain ⟨x, hx⟩ : ∃ x, M[q]? = some x := ⟨_, List.getElem?_eq_getElem hql⟩
        have hxo := HM.out.1 x (List.mem_of_getElem? hx)
        obtain ⟨a', c', he, _, hbB, hh2⟩ := hU.is
        simp only [Value.slice.injEq, true_and] at he
        obtain ⟨rfl, rfl⟩ := he
        rcases hh2 with ⟨h0, _⟩ | ⟨b, o, rfl, hbl, hh2⟩
        · rw [h0] at hql; simp at hql
        · obtain ⟨e0, e1, e2, e3, vK, e4, hK⟩ := hh2 q x hx
          have hKF := hK.is
          obtain ⟨aK, cK, hvK, _⟩ := hKF
          have ck := Dk.kind_c x vK
          have cd := fun W (gW : Below w.heap.size wr W) (hPW : Dk.PL w.heap.size W p d) => Dk.does_PL hPW HG.out (by have := HM.out.2; omega) hxo (hK.below gW)
          have HSP := Lib.hid fun h6 h9 => Dk.space_step HG.out.inv (by rw [HR.out]; exact HHD.out) x.op h6 h9
          have HGN := Lib.hid (HG.out.op hxo)
          have HRM := Lib.hid (Dk.room_step d x.op)
          have hkl := Dk.kind_lt x.k
          have HKO : Hid (x.op.kind = Dk.kindOf x.k) := Lib.hid rfl
          unfold Dk.Step.val at ck
          rw [hvK] at ck cd e4
          generalize hxop : x.op = op at cd HSP HGN HRM HKO
          generalize Ty.S x.a = sa at ck cd e1
          generalize Ty.S x.b = sb at ck cd e2
          generalize x.n = xn at ck cd e3
          generalize Dk.kindOf x.k = K at ck hkl HKO
          generalize x.k = xk at ck cd e0
          have HC := Lib.hid (fun (a : Addr) (y : Value) (W : World) (g : Below w.heap.size wr W) (ha : a.block < w.heap.size) (h : wr.cell? a = some y) => (g.cell ha).trans h)
          have HE := Lib.hid (And.intro e0 (And.intro e1 (And.intro e2 (And.intro e3 e4))))
          have hqi : (q : Int) < (M.length : Int) := by omega
          clear hx hxo hh2 hK hvK hG hP hB hU hr hh hxop hql
          have HBW := Lib.hid HB.out
          have HCE : Hid (∀ W, Below w.heap.size wr W → W.cell? ⟨b, o + q * 5, none⟩ = some (.int .i64 xk) ∧ W.cell? ⟨b, o + q * 5 + 1, none⟩ = some (.string sa) ∧ W.cell? ⟨b, o + q * 5 + 2, none⟩ = some (.string sb) ∧ W.cell? ⟨b, o + q * 5 + 3, none⟩ = some (.int .i64 xn) ∧ W.cell? ⟨b, o + q * 5 + 4, none⟩ = some (.slice aK x.keep.length cK)) := Lib.hid fun W g =>
            ⟨(g.cell (p := ⟨b, o + q * 5, none⟩) hbl).trans HE.out.1, (g.cell (p := ⟨b, o + q * 5 + 1, none⟩) hbl).trans HE.out.2.1, (g.cell (p := ⟨b, o + q * 5 + 2, none⟩) hbl).trans HE.out.2.2.1, (g.cell (p := ⟨b, o + q * 5 + 3, none⟩) hbl).trans HE.out.2.2.2.1, (g.cell (p := ⟨b, o + q * 5 + 4, none⟩) hbl).trans HE.out.2.2.2.2⟩
          have HB0 : Hid (Below w.heap.size wr wr) := Lib.hid (Below.refl _ _)
          have HWS0 : Hid (w.heap.size ≤ wr.heap.size) := Lib.hid hbB
          have HP0 := Lib.hid HP.out
          have CD := Lib.hid cd
          have HKL := Lib.hid hkl
          obtain ⟨r, hr⟩ : ∃ r, r = Dk.step d op := ⟨_, rfl⟩
          rw [← hr] at CD HGN HRM HSP
          have HRS := Lib.hid hr
          obtain ⟨D, E⟩ := r
          simp only at CD HGN HRM HSP
          have CHD : Hid (∀ W, Dk.PL w.heap.size W p D → Calls Try.prog 17 #[.pointer (some ⟨p, 0, none⟩)] W fun e w' => e = .returned (.int .i64 ((Dk.held D : Nat) : Int)) ∧ Below W.heap.size W w') := Lib.hid fun W h => h.read fun S h' => Dk.pheld_c h' (HGN.out.fit (by have := HM.out.2; omega))
          generalize hhd : Dk.held D = hd at CHD HSP
          have HHDD := Lib.hid hhd
          clear hbl hbB cd hkl hr hhd
          by_cases hK6 : K = 6
          · subst hK6
            go_wp2_with fail
            with_reducible refine (ck _).mono ?_
            rintro e wk ⟨rfl, gk⟩
            have HBwk := Lib.hid (HB0.out.trans (gk.mono HWS0.out))
            have HWSwk := Lib.hid (Nat.le_trans HWS0.out gk.size)
            have HPwk := Lib.hid (HP0.out.kept gk)
            obtain ⟨e0, e1, e2, e3, e4⟩ := HCE.out wk HBwk.out
            clear gk
            clear ck
            clear e0 e1 e2 e3 e4
            go_wp2
            go_roundw
            case rel => exact ⟨q + 1, d, by omega, by simp, HG.out.mono (by omega), HPwk.out, HBW.out.trans HBwk.out, HUU.out.below HBwk.out, HR.out, HHD.out⟩
            case measure => simp [intOf]; omega
          · have hK6i : ((K : Nat) : Int) ≠ 6 := by omega
            have hK6b : (((K : Nat) : Int) == 6) = false := by rw [beq_eq_false_iff_ne]; exact hK6i
            have HK6 := Lib.hid hK6
            clear hK6 hK6i
            go_wp2_with fail
            with_reducible refine (ck _).mono ?_
            rintro e wk ⟨rfl, gk⟩
            have HBwk := Lib.hid (HB0.out.trans (gk.mono HWS0.out))
            have HWSwk := Lib.hid (Nat.le_trans HWS0.out gk.size)
            have HPwk := Lib.hid (HP0.out.kept gk)
            obtain ⟨e0, e1, e2, e3, e4⟩ := HCE.out wk HBwk.out
            clear gk
            have cdd := CD.out wk HBwk.out HPwk.out
            go_wp2_with fail
            with_reducible refine cdd.mono ?_
            rintro e wd ⟨rfl, hPd, gd⟩
            have HBwd := Lib.hid (HBwk.out.trans gd)
            have HWSwd := Lib.hid (Nat.le_trans HWSwk.out gd.size)
            have HPwd := Lib.hid hPd
            obtain ⟨e0, e1, e2, e3, e4⟩ := HCE.out wd HBwd.out
            clear cdd hPd gd hK6b
            by_cases hK9 : K = 9
            · subst hK9
              have hE0 : E = 0 := by
                have h1 := HRS.out
                unfold Dk.step at h1
                have hk := HKO.out
                rw [hk] at h1
                simp only [Nat.reduceEqDiff, if_false] at h1
                exact congrArg Prod.snd h1
              subst hE0
              have hr9 : D.room = room := by rw [HRM.out, HKO.out, if_neg (by decide)]; exact HR.out
              have HR9 := Lib.hid hr9
              clear hr9
              go_wp2_with fail
              with_reducible refine (ck _).mono ?_
              rintro e we ⟨rfl, gk⟩
              have HBwe := Lib.hid (HBwd.out.trans (gk.mono HWSwd.out))
              have HWSwe := Lib.hid (Nat.le_trans HWSwd.out gk.size)
              have HPwe := Lib.hid (HPwd.out.kept gk)
              obtain ⟨e0, e1, e2, e3, e4⟩ := HCE.out we HBwe.out
              clear gk
              go_wp2_with fail
              with_reducible refine (ck _).mono ?_
              rintro e wf ⟨rfl, gk⟩
              have HBwf := Lib.hid (HBwe.out.trans (gk.mono HWSwe.out))
              have HWSwf := Lib.hid (Nat.le_trans HWSwe.out gk.size)
              have HPwf := Lib.hid (HPwe.out.kept gk)
              obtain ⟨e0, e1, e2, e3, e4⟩ := HCE.out wf HBwf.out
              clear gk
              by_cases hgt : room < (hd : Int)
              · have hgt2 : (hd : Int) > 0 := by have := HROOM.out; omega
                go_wp2_with fail
                with_reducible refine (CHD.out _ HPwf.out).mono ?_
                rintro e wg ⟨rfl, gk⟩
                have HBwg := Lib.hid (HBwf.out.trans (gk.mono HWSwf.out))
                have HWSwg := Lib.hid (Nat.le_trans HWSwf.out gk.size)
                have HPwg := Lib.hid (HPwf.out.kept gk)
                obtain ⟨e0, e1, e2, e3, e4⟩ := HCE.out wg HBwg.out
                clear gk
                clear e0 e1 e2 e3 e4 ck
                go_wp2
                go_ret
                exact ⟨rfl, HBW.out.trans HBwg.out⟩
              · have hgt2 : ¬ (hd : Int) > 0 := by have := HROOM.out; omega
                have HGT := Lib.hid hgt
                clear hgt
                go_wp2_with fail
                with_reducible refine (CHD.out _ HPwf.out).mono ?_
                rintro e wg ⟨rfl, gk⟩
                have HBwg := Lib.hid (HBwf.out.trans (gk.mono HWSwf.out))
                have HWSwg := Lib.hid (Nat.le_trans HWSwf.out gk.size)
                have HPwg := Lib.hid (HPwf.out.kept gk)
                obtain ⟨e0, e1, e2, e3, e4⟩ := HCE.out wg HBwg.out
                clear gk
                clear ck
                clear e0 e1 e2 e3 e4
                go_wp2
                go_roundw
                case rel => exact ⟨q + 1, D, by omega, by simp, HGN.out, HPwg.out, HBW.out.trans HBwg.out, HUU.out.below HBwg.out, HR9.out, by rw [HHDD.out]; have := HGT.out; omega⟩
                case measure => simp [intOf]; omega
            · have hK9b : (((K : Nat) : Int) != 9) = true := by rw [bne_iff_ne]; omega
              have hK9c : (((K : Nat) : Int) == 9) = false := by rw [beq_eq_false_iff_ne]; omega
              have hsp := HSP.out (by rw [HKO.out]; exact HK6.out) (by rw [HKO.out]; have := HKL.out; omega)
              obtain ⟨hs1, hs2, hs3⟩ := hsp
              have HS1 := Lib.hid hs1
              have HS2 : Hid (D.room = room) := Lib.hid (hs2.trans HR.out)
              have hgt2 : ¬ (hd : Int) > 0 := by have := HROOM.out; have := HR.out; omega
              rw [HKO.out] at hs3
              have HS3 := Lib.hid hs3
              clear hK9 hs1 hs2 hs3
              by_cases hE : E = 10
              · subst hE
                obtain rfl : K = 1 := HS3.out (by trivial)
                clear hK9b hK9c
                go_wp2_with fail
                with_reducible refine (ck _).mono ?_
                rintro e we ⟨rfl, gk⟩
                have HBwe := Lib.hid (HBwd.out.trans (gk.mono HWSwd.out))
                have HWSwe := Lib.hid (Nat.le_trans HWSwd.out gk.size)
                have HPwe := Lib.hid (HPwd.out.kept gk)
                obtain ⟨e0, e1, e2, e3, e4⟩ := HCE.out we HBwe.out
                clear gk
                go_wp2_with fail
                with_reducible refine (CHD.out _ HPwe.out).mono ?_
                rintro e wf ⟨rfl, gk⟩
                have HBwf := Lib.hid (HBwe.out.trans (gk.mono HWSwe.out))
                have HWSwf := Lib.hid (Nat.le_trans HWSwe.out gk.size)
                have HPwf := Lib.hid (HPwe.out.kept gk)
                obtain ⟨e0, e1, e2, e3, e4⟩ := HCE.out wf HBwf.out
                clear gk
                go_wp2_with fail
                with_reducible refine (ck _).mono ?_
                rintro e wg ⟨rfl, gk⟩
                have HBwg := Lib.hid (HBwf.out.trans (gk.mono HWSwf.out))
                have HWSwg := Lib.hid (Nat.le_trans HWSwf.out gk.size)
                have HPwg := Lib.hid (HPwf.out.kept gk)
                obtain ⟨e0, e1, e2, e3, e4⟩ := HCE.out wg HBwg.out
                clear gk
                go_wp2_with fail
                with_reducible refine (ck _).mono ?_
                rintro e wh ⟨rfl, gk⟩
                have HBwh := Lib.hid (HBwg.out.trans (gk.mono HWSwg.out))
                have HWSwh := Lib.hid (Nat.le_trans HWSwg.out gk.size)
                have HPwh := Lib.hid (HPwg.out.kept gk)
                obtain ⟨e0, e1, e2, e3, e4⟩ := HCE.out wh HBwh.out
                clear gk
                clear ck
                clear e0 e1 e2 e3 e4
                go_wp2
                go_roundw
                case rel => exact ⟨q + 1, D, by omega, by simp, HGN.out, HPwh.out, HBW.out.trans HBwh.out, HUU.out.below HBwh.out, HS2.out, by rw [HHDD.out]; have := HS1.out; have := HR.out; omega⟩
                case measure => simp [intOf]; omega
              · have hEb : (((E : Nat) : Int) == 10) = false := by rw [beq_eq_false_iff_ne]; omega
                clear hE
                go_wp2_with fail
                with_reducible refine (ck _).mono ?_
                rintro e we ⟨rfl, gk⟩
                have HBwe := Lib.hid (HBwd.out.trans (gk.mono HWSwd.out))
                have HWSwe := Lib.hid (Nat.le_trans HWSwd.out gk.size)
                have HPwe := Lib.hid (HPwd.out.kept gk)
                obtain ⟨e0, e1, e2, e3, e4⟩ := HCE.out we HBwe.out
                clear gk
                go_wp2_with fail
                with_reducible refine (CHD.out _ HPwe.out).mono ?_
                rintro e wf ⟨rfl, gk⟩
                have HBwf := Lib.hid (HBwe.out.trans (gk.mono HWSwe.out))
                have HWSwf := Lib.hid (Nat.le_trans HWSwe.out gk.size)
                have HPwf := Lib.hid (HPwe.out.kept gk)
                obtain ⟨e0, e1, e2, e3, e4⟩ := HCE.out wf HBwf.out
                clear gk
                go_wp2_with fail
                with_reducible refine (ck _).mono ?_
                rintro e wg ⟨rfl, gk⟩
                have HBwg := Lib.hid (HBwf.out.trans (gk.mono HWSwf.out))
                have HWSwg := Lib.hid (Nat.le_trans HWSwf.out gk.size)
                have HPwg := Lib.hid (HPwf.out.kept gk)
                obtain ⟨e0, e1, e2, e3, e4⟩ := HCE.out wg HBwg.out
                clear gk
                clear ck
                clear e0 e1 e2 e3 e4
                go_wp2
                go_roundw
                case rel => exact ⟨q + 1, D, by omega, by simp, HGN.out, HPwg.out, HBW.out.trans HBwg.out, HUU.out.below HBwg.out, HS2.out, by rw [HHDD.out]; have := HS1.out; have := HR.out; omega⟩
                case measure => simp [intOf]; omega
      · obtain rfl : q = M.length := by omega
        have hqi : ¬ (M.length : Int) < (M.length : Int) := by omega
        clear hG hP hB hU hr hh
        go_wp2
        go_ret
        exact ⟨rfl, HB.out⟩
  · obtain ⟨room, hroom⟩ : ∃ room, room = max n 0 := ⟨_, rfl⟩
    have HROOM := Lib.hid hroom
    clear hroom
    go_enter Try.func7, Try.ntmps7
    go_wp2_with fail
    with_reducible refine cl.mono ?_
    rintro e w1 ⟨rfl, g1⟩
    have ce := CE.out w1 g1
    have cn := CN.out w1 g1
    have HB1 := Lib.hid g1
    clear cl g1 CE CN
    go_wp2_with fail
    with_reducible refine ce.mono ?_
    rintro e w2 ⟨u, rfl, hu, h2⟩
    subst w2
    have HU := Lib.hid hu
    obtain ⟨aU, cU, hvU, _⟩ := hu.is
    subst hvU
    clear ce hu
    go_wp2_with fail
    with_reducible refine cn.mono ?_
    rintro e w3 ⟨p, rfl, hp, g3⟩
    have HU3 := Lib.hid (HU.out.below g3)
    have HP3 := Lib.hid hp
    have HB3 := Lib.hid (HB1.out.trans g3)
    have hml := HM.out.2
    clear cn hp g3
    go_wp2
    go_loopw [6, 7] (fun i _ wr => ∃ (q : Nat) (d : Dk.D), q ≤ M.length ∧ i = .int .i64 q ∧ Dk.Good q d ∧ Dk.PL w.heap.size wr p d ∧ Below w.heap.size w wr ∧ Dk.Ops w.heap.size wr (.slice aU M.length cU) M ∧ d.room = room ∧ (Dk.held d : Int) ≤ room) (fun i _ _ => M.length - (intOf i).toNat)
    case atStart => exact ⟨0, Dk.new n, by omega, rfl, HG0.out, HP3.out, HB3.out, HU3.out, HROOM.out.symm, by rw [HROOM.out]; show (0 : Int) ≤ _; omega⟩
    case round =>
      obtain ⟨q, d, hq, rfl, hG, hP, hB, hU, hr, hh⟩ := hrel
      have HG := Lib.hid hG
      have HP := Lib.hid hP
      have HB := Lib.hid hB
      have HUU := Lib.hid hU
      have HR := Lib.hid hr
      have HHD := Lib.hid hh
      have hq0 : (0 : Int) ≤ (q : Int) := by omega
      by_cases hql : q < M.length
      · obtain ⟨x, hx⟩ : ∃ x, M[q]? = some x := ⟨_, List.getElem?_eq_getElem hql⟩
        have hxo := HM.out.1 x (List.mem_of_getElem? hx)
        obtain ⟨a', c', he, _, hbB, hh2⟩ := hU.is
        simp only [Value.slice.injEq, true_and] at he
        obtain ⟨rfl, rfl⟩ := he
        rcases hh2 with ⟨h0, _⟩ | ⟨b, o, rfl, hbl, hh2⟩
        · rw [h0] at hql; simp at hql
        · obtain ⟨e0, e1, e2, e3, vK, e4, hK⟩ := hh2 q x hx
          have hKF := hK.is
          obtain ⟨aK, cK, hvK, _⟩ := hKF
          have ck := Dk.kind_c x vK
          have cd := fun W (gW : Below w.heap.size wr W) (hPW : Dk.PL w.heap.size W p d) => Dk.does_PL hPW HG.out (by have := HM.out.2; omega) hxo (hK.below gW)
          have HSP := Lib.hid fun h6 h9 => Dk.space_step HG.out.inv (by rw [HR.out]; exact HHD.out) x.op h6 h9
          have HGN := Lib.hid (HG.out.op hxo)
          have HRM := Lib.hid (Dk.room_step d x.op)
          have hkl := Dk.kind_lt x.k
          have HKO : Hid (x.op.kind = Dk.kindOf x.k) := Lib.hid rfl
          unfold Dk.Step.val at ck
          rw [hvK] at ck cd e4
          generalize hxop : x.op = op at cd HSP HGN HRM HKO
          generalize Ty.S x.a = sa at ck cd e1
          generalize Ty.S x.b = sb at ck cd e2
          generalize x.n = xn at ck cd e3
          generalize Dk.kindOf x.k = K at ck hkl HKO
          generalize x.k = xk at ck cd e0
          have HC := Lib.hid (fun (a : Addr) (y : Value) (W : World) (g : Below w.heap.size wr W) (ha : a.block < w.heap.size) (h : wr.cell? a = some y) => (g.cell ha).trans h)
          have HE := Lib.hid (And.intro e0 (And.intro e1 (And.intro e2 (And.intro e3 e4))))
          have hqi : (q : Int) < (M.length : Int) := by omega
          clear hx hxo hh2 hK hvK hG hP hB hU hr hh hxop hql
          have HBW := Lib.hid HB.out
          have HCE : Hid (∀ W, Below w.heap.size wr W → W.cell? ⟨b, o + q * 5, none⟩ = some (.int .i64 xk) ∧ W.cell? ⟨b, o + q * 5 + 1, none⟩ = some (.string sa) ∧ W.cell? ⟨b, o + q * 5 + 2, none⟩ = some (.string sb) ∧ W.cell? ⟨b, o + q * 5 + 3, none⟩ = some (.int .i64 xn) ∧ W.cell? ⟨b, o + q * 5 + 4, none⟩ = some (.slice aK x.keep.length cK)) := Lib.hid fun W g =>
            ⟨(g.cell (p := ⟨b, o + q * 5, none⟩) hbl).trans HE.out.1, (g.cell (p := ⟨b, o + q * 5 + 1, none⟩) hbl).trans HE.out.2.1, (g.cell (p := ⟨b, o + q * 5 + 2, none⟩) hbl).trans HE.out.2.2.1, (g.cell (p := ⟨b, o + q * 5 + 3, none⟩) hbl).trans HE.out.2.2.2.1, (g.cell (p := ⟨b, o + q * 5 + 4, none⟩) hbl).trans HE.out.2.2.2.2⟩
          have HB0 : Hid (Below w.heap.size wr wr) := Lib.hid (Below.refl _ _)
          have HWS0 : Hid (w.heap.size ≤ wr.heap.size) := Lib.hid hbB
          have HP0 := Lib.hid HP.out
          have CD := Lib.hid cd
          have HKL := Lib.hid hkl
          obtain ⟨r, hr⟩ : ∃ r, r = Dk.step d op := ⟨_, rfl⟩
          rw [← hr] at CD HGN HRM HSP
          have HRS := Lib.hid hr
          obtain ⟨D, E⟩ := r
          simp only at CD HGN HRM HSP
          have CHD : Hid (∀ W, Dk.PL w.heap.size W p D → Calls Try.prog 17 #[.pointer (some ⟨p, 0, none⟩)] W fun e w' => e = .returned (.int .i64 ((Dk.held D : Nat) : Int)) ∧ Below W.heap.size W w') := Lib.hid fun W h => h.read fun S h' => Dk.pheld_c h' (HGN.out.fit (by have := HM.out.2; omega))
          generalize hhd : Dk.held D = hd at CHD HSP
          have HHDD := Lib.hid hhd
          clear hbl hbB cd hkl hr hhd
          by_cases hK6 : K = 6
          · subst hK6
            go_wp2_with fail
            with_reducible refine (ck _).mono ?_
            rintro e wk ⟨rfl, gk⟩
            have HBwk := Lib.hid (HB0.out.trans (gk.mono HWS0.out))
            have HWSwk := Lib.hid (Nat.le_trans HWS0.out gk.size)
            have HPwk := Lib.hid (HP0.out.kept gk)
            obtain ⟨e0, e1, e2, e3, e4⟩ := HCE.out wk HBwk.out
            clear gk
            clear ck
            clear e0 e1 e2 e3 e4
            go_wp2
            go_roundw
            case rel => exact ⟨q + 1, d, by omega, by simp, HG.out.mono (by omega), HPwk.out, HBW.out.trans HBwk.out, HUU.out.below HBwk.out, HR.out, HHD.out⟩
            case measure => simp [intOf]; omega
          · have hK6i : ((K : Nat) : Int) ≠ 6 := by omega
            have hK6b : (((K : Nat) : Int) == 6) = false := by rw [beq_eq_false_iff_ne]; exact hK6i
            have HK6 := Lib.hid hK6
            clear hK6 hK6i
            go_wp2_with fail
            with_reducible refine (ck _).mono ?_
            rintro e wk ⟨rfl, gk⟩
            have HBwk := Lib.hid (HB0.out.trans (gk.mono HWS0.out))
            have HWSwk := Lib.hid (Nat.le_trans HWS0.out gk.size)
            have HPwk := Lib.hid (HP0.out.kept gk)
            obtain ⟨e0, e1, e2, e3, e4⟩ := HCE.out wk HBwk.out
            clear gk
            have cdd := CD.out wk HBwk.out HPwk.out
            go_wp2_with fail
            with_reducible refine cdd.mono ?_
            rintro e wd ⟨rfl, hPd, gd⟩
            have HBwd := Lib.hid (HBwk.out.trans gd)
            have HWSwd := Lib.hid (Nat.le_trans HWSwk.out gd.size)
            have HPwd := Lib.hid hPd
            obtain ⟨e0, e1, e2, e3, e4⟩ := HCE.out wd HBwd.out
            clear cdd hPd gd hK6b
            by_cases hK9 : K = 9
            · subst hK9
              have hE0 : E = 0 := by
                have h1 := HRS.out
                unfold Dk.step at h1
                have hk := HKO.out
                rw [hk] at h1
                simp only [Nat.reduceEqDiff, if_false] at h1
                exact congrArg Prod.snd h1
              subst hE0
              have hr9 : D.room = room := by rw [HRM.out, HKO.out, if_neg (by decide)]; exact HR.out
              have HR9 := Lib.hid hr9
              clear hr9
              go_wp2_with fail
              with_reducible refine (ck _).mono ?_
              rintro e we ⟨rfl, gk⟩
              have HBwe := Lib.hid (HBwd.out.trans (gk.mono HWSwd.out))
              have HWSwe := Lib.hid (Nat.le_trans HWSwd.out gk.size)
              have HPwe := Lib.hid (HPwd.out.kept gk)
              obtain ⟨e0, e1, e2, e3, e4⟩ := HCE.out we HBwe.out
              clear gk
              go_wp2_with fail
              with_reducible refine (ck _).mono ?_
              rintro e wf ⟨rfl, gk⟩
              have HBwf := Lib.hid (HBwe.out.trans (gk.mono HWSwe.out))
              have HWSwf := Lib.hid (Nat.le_trans HWSwe.out gk.size)
              have HPwf := Lib.hid (HPwe.out.kept gk)
              obtain ⟨e0, e1, e2, e3, e4⟩ := HCE.out wf HBwf.out
              clear gk
              by_cases hgt : room < (hd : Int)
              · have hgt2 : (hd : Int) > n := by have := HROOM.out; omega
                go_wp2_with fail
                with_reducible refine (CHD.out _ HPwf.out).mono ?_
                rintro e wg ⟨rfl, gk⟩
                have HBwg := Lib.hid (HBwf.out.trans (gk.mono HWSwf.out))
                have HWSwg := Lib.hid (Nat.le_trans HWSwf.out gk.size)
                have HPwg := Lib.hid (HPwf.out.kept gk)
                obtain ⟨e0, e1, e2, e3, e4⟩ := HCE.out wg HBwg.out
                clear gk
                clear e0 e1 e2 e3 e4 ck
                go_wp2
                go_ret
                exact ⟨rfl, HBW.out.trans HBwg.out⟩
              · have hgt2 : ¬ (hd : Int) > n := by have := HROOM.out; omega
                have HGT := Lib.hid hgt
                clear hgt
                go_wp2_with fail
                with_reducible refine (CHD.out _ HPwf.out).mono ?_
                rintro e wg ⟨rfl, gk⟩
                have HBwg := Lib.hid (HBwf.out.trans (gk.mono HWSwf.out))
                have HWSwg := Lib.hid (Nat.le_trans HWSwf.out gk.size)
                have HPwg := Lib.hid (HPwf.out.kept gk)
                obtain ⟨e0, e1, e2, e3, e4⟩ := HCE.out wg HBwg.out
                clear gk
                clear ck
                clear e0 e1 e2 e3 e4
                go_wp2
                go_roundw
                case rel => exact ⟨q + 1, D, by omega, by simp, HGN.out, HPwg.out, HBW.out.trans HBwg.out, HUU.out.below HBwg.out, HR9.out, by rw [HHDD.out]; have := HGT.out; omega⟩
                case measure => simp [intOf]; omega
            · have hK9b : (((K : Nat) : Int) != 9) = true := by rw [bne_iff_ne]; omega
              have hK9c : (((K : Nat) : Int) == 9) = false := by rw [beq_eq_false_iff_ne]; omega
              have hsp := HSP.out (by rw [HKO.out]; exact HK6.out) (by rw [HKO.out]; have := HKL.out; omega)
              obtain ⟨hs1, hs2, hs3⟩ := hsp
              have HS1 := Lib.hid hs1
              have HS2 : Hid (D.room = room) := Lib.hid (hs2.trans HR.out)
              have hgt2 : ¬ (hd : Int) > n := by have := HROOM.out; have := HR.out; omega
              rw [HKO.out] at hs3
              have HS3 := Lib.hid hs3
              clear hK9 hs1 hs2 hs3
              by_cases hE : E = 10
              · subst hE
                obtain rfl : K = 1 := HS3.out (by trivial)
                clear hK9b hK9c
                go_wp2_with fail
                with_reducible refine (ck _).mono ?_
                rintro e we ⟨rfl, gk⟩
                have HBwe := Lib.hid (HBwd.out.trans (gk.mono HWSwd.out))
                have HWSwe := Lib.hid (Nat.le_trans HWSwd.out gk.size)
                have HPwe := Lib.hid (HPwd.out.kept gk)
                obtain ⟨e0, e1, e2, e3, e4⟩ := HCE.out we HBwe.out
                clear gk
                go_wp2_with fail
                with_reducible refine (CHD.out _ HPwe.out).mono ?_
                rintro e wf ⟨rfl, gk⟩
                have HBwf := Lib.hid (HBwe.out.trans (gk.mono HWSwe.out))
                have HWSwf := Lib.hid (Nat.le_trans HWSwe.out gk.size)
                have HPwf := Lib.hid (HPwe.out.kept gk)
                obtain ⟨e0, e1, e2, e3, e4⟩ := HCE.out wf HBwf.out
                clear gk
                go_wp2_with fail
                with_reducible refine (ck _).mono ?_
                rintro e wg ⟨rfl, gk⟩
                have HBwg := Lib.hid (HBwf.out.trans (gk.mono HWSwf.out))
                have HWSwg := Lib.hid (Nat.le_trans HWSwf.out gk.size)
                have HPwg := Lib.hid (HPwf.out.kept gk)
                obtain ⟨e0, e1, e2, e3, e4⟩ := HCE.out wg HBwg.out
                clear gk
                go_wp2_with fail
                with_reducible refine (ck _).mono ?_
                rintro e wh ⟨rfl, gk⟩
                have HBwh := Lib.hid (HBwg.out.trans (gk.mono HWSwg.out))
                have HWSwh := Lib.hid (Nat.le_trans HWSwg.out gk.size)
                have HPwh := Lib.hid (HPwg.out.kept gk)
                obtain ⟨e0, e1, e2, e3, e4⟩ := HCE.out wh HBwh.out
                clear gk
                clear ck
                clear e0 e1 e2 e3 e4
                go_wp2
                go_roundw
                case rel => exact ⟨q + 1, D, by omega, by simp, HGN.out, HPwh.out, HBW.out.trans HBwh.out, HUU.out.below HBwh.out, HS2.out, by rw [HHDD.out]; have := HS1.out; have := HR.out; omega⟩
                case measure => simp [intOf]; omega
              · have hEb : (((E : Nat) : Int) == 10) = false := by rw [beq_eq_false_iff_ne]; omega
                clear hE
                go_wp2_with fail
                with_reducible refine (ck _).mono ?_
                rintro e we ⟨rfl, gk⟩
                have HBwe := Lib.hid (HBwd.out.trans (gk.mono HWSwd.out))
                have HWSwe := Lib.hid (Nat.le_trans HWSwd.out gk.size)
                have HPwe := Lib.hid (HPwd.out.kept gk)
                obtain ⟨e0, e1, e2, e3, e4⟩ := HCE.out we HBwe.out
                clear gk
                go_wp2_with fail
                with_reducible refine (CHD.out _ HPwe.out).mono ?_
                rintro e wf ⟨rfl, gk⟩
                have HBwf := Lib.hid (HBwe.out.trans (gk.mono HWSwe.out))
                have HWSwf := Lib.hid (Nat.le_trans HWSwe.out gk.size)
                have HPwf := Lib.hid (HPwe.out.kept gk)
                obtain ⟨e0, e1, e2, e3, e4⟩ := HCE.out wf HBwf.out
                clear gk
                go_wp2_with fail
                with_reducible refine (ck _).mono ?_
                rintro e wg ⟨rfl, gk⟩
                have HBwg := Lib.hid (HBwf.out.trans (gk.mono HWSwf.out))
                have HWSwg := Lib.hid (Nat.le_trans HWSwf.out gk.size)
                have HPwg := Lib.hid (HPwf.out.kept gk)
                obtain ⟨e0, e1, e2, e3, e4⟩ := HCE.out wg HBwg.out
                clear gk
                clear ck
                clear e0 e1 e2 e3 e4
                go_wp2
                go_roundw
                case rel => exact ⟨q + 1, D, by omega, by simp, HGN.out, HPwg.out, HBW.out.trans HBwg.out, HUU.out.below HBwg.out, HS2.out, by rw [HHDD.out]; have := HS1.out; have := HR.out; omega⟩
                case measure => simp [intOf]; omega
      · obtain rfl : q = M.length := by omega
        have hqi : ¬ (M.length : Int) < (M.length : Int) := by omega
        clear hG hP hB hU hr hh
        go_wp2
        go_ret
        exact ⟨rfl, HB.out⟩
end Go.Proofs.Ytfkdkdkdpenblaa

namespace Go.Proofs.Ytfkdkdkdpenblaa
open Go.RowKit
theorem Dk.own_off {S : Nat → Prop} {w w' : World} {base : Nat} {v : Value} {L : List Tx.Str} (h : Tx.Own base w v L) (g : Dk.Off S w w') (hn : ∀ b, v.ownBlock = some b → ¬ S b) : Tx.Own base w' v L := by
  refine ⟨h.1, ?_⟩
  rcases h.2 with h0 | ⟨b, cap, cur, rfl, hbb, hgg, rest⟩
  · exact .inl h0
  · exact .inr ⟨b, cap, cur, rfl, hbb, by rw [g.block b (Array.getElem?_eq_some_iff.1 hgg).1 (hn b rfl)]; exact hgg, rest⟩
theorem Dk.read_names {d : Dk.D} (h : Dk.Inv d) {i : Nat} (hi : i < (Dk.names d).length) : (Dk.read d ((Dk.names d).getD i [])).2 = 0 := by
  unfold Dk.names at hi ⊢
  rw [List.length_map] at hi
  have e : (d.dir.map (·.1)).getD i [] = d.dir[i].1 := by
    rw [List.getD, List.getElem?_map, List.getElem?_eq_getElem hi]
    rfl
  have hm : (d.dir[i].1, d.dir[i].2) ∈ d.dir := List.getElem_mem hi
  have hl := (Dk.look_some h.dir.asc).2 hm
  rw [e]
  unfold Dk.read
  rw [hl]
theorem Dk.Good.crash {k : Nat} {d : Dk.D} (h : Dk.Good k d) (n : Int) (hn : Ty.I64 n) (keep : List Int) : Dk.Good (k + 1) (Dk.crash d n keep) := h.step ⟨9, [], [], n, keep⟩ (Nat.zero_le _) (Nat.zero_le _) hn.2
theorem Dk.names_len {k : Nat} {d : Dk.D} (h : Dk.Good k d) : (Dk.names d).length ≤ k := by
  unfold Dk.names
  rw [List.length_map]
  exact h.sz.dir h.inv
theorem Dk.name_short {k : Nat} {d : Dk.D} (h : Dk.Good k d) (i : Nat) : ((Dk.names d).getD i []).length ≤ 1048576 := by
  unfold Dk.names
  rw [List.getD, List.getElem?_map]
  cases hx : d.dir[i]? with
  | none => exact Nat.zero_le _
  | some y => exact h.dir y (List.mem_of_getElem? hx)
/-- A string of a list that a call owns. -/
theorem Dk.own_at {base : Nat} {w : World} {v : Value} {L : List Tx.Str} (h : Tx.Own base w v L) {i : Nat} (hi : i < L.length) : ∃ g c, v = .slice (some ⟨g, 0, none⟩) L.length c ∧ w.cell? ⟨g, i, none⟩ = some (.string (Ty.S (L.getD i []))) := by
  rcases h.form with ⟨_, h0⟩ | ⟨g, c, hv, _, _, hc⟩
  · rw [h0] at hi; simp at hi
  · exact ⟨g, c, hv, hc i hi⟩
theorem Dk.own_slice {base : Nat} {w : World} {v : Value} {L : List Tx.Str} (h : Tx.Own base w v L) : ∃ a c, v = .slice a L.length c := by
  rcases h.form with ⟨hv, h0⟩ | ⟨g, c, hv, _⟩
  · exact ⟨none, 0, by rw [hv, h0]; rfl⟩
  · exact ⟨_, c, hv⟩
set_option maxHeartbeats 8000000 in
set_option maxRecDepth 100000 in
theorem Dk.lawTwice_w (v : Value) (L : List Dk.Step) (x y : Dk.Step) (vx vy : Value) (w : World) (hv : Dk.Ops w.heap.size w v L) (hl : L.length ≤ 1048576) (hok : Dk.Steps L) (hx : x.Ok ∧ Ty.I64 x.n) (hy : y.Ok ∧ Ty.I64 y.n) (hvx : Ig.At w.heap.size w vx x.keep) (hvy : Ig.At w.heap.size w vy y.keep) :
    Calls Try.prog 5 #[v, x.val vx, y.val vy] w fun e w' => e = .returned (.bool true) ∧ Below w.heap.size w w' := by
  obtain ⟨wa, hwa⟩ : ∃ wa, wa = w.alloc (.cells #[.int .i64 x.k, .string (Ty.S x.a), .string (Ty.S x.b), .int .i64 x.n, vx] 33) := ⟨_, rfl⟩
  obtain ⟨wb, hwb⟩ : ∃ wb, wb = wa.alloc (.cells #[.int .i64 y.k, .string (Ty.S y.a), .string (Ty.S y.b), .int .i64 y.n, vy] 33) := ⟨_, rfl⟩
  have hsa : wa.heap.size = w.heap.size + 1 := by rw [hwa]; exact World.size_alloc ..
  have hba : Below w.heap.size w wa := by rw [hwa]; exact (Below.refl _ w).alloc (Nat.le_refl _) _
  have hbb : Below wa.heap.size wa wb := by rw [hwb]; exact (Below.refl _ wa).alloc (Nat.le_refl _) _
  have hb0 : Below w.heap.size w wb := hba.trans (hbb.mono (by omega))
  have hlt : w.heap.size < wb.heap.size := by have := hbb.size; omega
  have hlt2 : wa.heap.size < wb.heap.size := by rw [hwb, World.size_alloc]; omega
  have x3 : wb.cell? ⟨w.heap.size, 3, none⟩ = some (.int .i64 x.n) := (hbb.cell (p := ⟨w.heap.size, 3, none⟩) (by show w.heap.size < wa.heap.size; omega)).trans (by rw [hwa]; exact Kn.cell_new w _ _ 3 _ rfl)
  have x4 : wb.cell? ⟨w.heap.size, 4, none⟩ = some vx := (hbb.cell (p := ⟨w.heap.size, 4, none⟩) (by show w.heap.size < wa.heap.size; omega)).trans (by rw [hwa]; exact Kn.cell_new w _ _ 4 _ rfl)
  have y3 : wb.cell? ⟨wa.heap.size, 3, none⟩ = some (.int .i64 y.n) := by rw [hwb]; exact Kn.cell_new wa _ _ 3 _ rfl
  have y4 : wb.cell? ⟨wa.heap.size, 4, none⟩ = some vy := by rw [hwb]; exact Kn.cell_new wa _ _ 4 _ rfl
  rw [hsa] at y3 y4
  obtain ⟨ax, cx, hvx2⟩ : ∃ a c, vx = .slice a x.keep.length c := by obtain ⟨a, c, h, _⟩ := hvx.is; exact ⟨a, c, h⟩
  obtain ⟨ay, cy, hvy2⟩ : ∃ a c, vy = .slice a y.keep.length c := by obtain ⟨a, c, h, _⟩ := hvy.is; exact ⟨a, c, h⟩
  -- everything below wb stays
  have HXY : Hid (∀ W, Below wb.heap.size wb W → W.cell? ⟨w.heap.size, 3, none⟩ = some (.int .i64 x.n) ∧ W.cell? ⟨w.heap.size, 4, none⟩ = some vx ∧ W.cell? ⟨w.heap.size + 1, 3, none⟩ = some (.int .i64 y.n) ∧ W.cell? ⟨w.heap.size + 1, 4, none⟩ = some vy) := Lib.hid fun W g =>
    ⟨(g.cell (p := ⟨w.heap.size, 3, none⟩) hlt).trans x3, (g.cell (p := ⟨w.heap.size, 4, none⟩) hlt).trans x4, (g.cell (p := ⟨w.heap.size + 1, 3, none⟩) (by rw [← hsa]; exact hlt2)).trans y3, (g.cell (p := ⟨w.heap.size + 1, 4, none⟩) (by rw [← hsa]; exact hlt2)).trans y4⟩
  have HVB := Lib.hid (hv.below hb0)
  have HB0 := Lib.hid hb0
  have HX := Lib.hid hx
  have HY := Lib.hid hy
  have HVX := Lib.hid (hvx.below hb0)
  have HVY := Lib.hid (hvy.below hb0)
  have HLT := Lib.hid hlt
  have HM : Hid (Dk.Steps (L.take 300) ∧ (L.take 300).length ≤ 300) := Lib.hid ⟨hok.take 300, List.length_take_le _ _⟩
  have CE : Hid (∀ W, Below wb.heap.size wb W → Calls Try.prog 12 #[v] W fun e w' => ∃ u, e = .returned u ∧ Dk.Ops w.heap.size W u (L.take 300) ∧ w' = W) := Lib.hid fun W g => Dk.early_c (HVB.out.below (g.mono (Nat.le_of_lt hlt))) hl
  have CN : Hid (∀ W, Below wb.heap.size wb W → Calls Try.prog 13 #[.int .i64 1073741824] W fun e w' => ∃ p, e = .returned (.pointer (some ⟨p, 0, none⟩)) ∧ Dk.PL wb.heap.size w' p (Dk.new 1073741824) ∧ Below wb.heap.size W w') := Lib.hid fun W g => Dk.new_PL (by unfold Ty.I64; omega) _ g.size
  have HG0 : Hid (Dk.Good 0 (Dk.new 1073741824)) := Lib.hid (Dk.Good.new 1073741824 (by decide))
  generalize L.take 300 = M at CE HM
  generalize hkx : x.keep = kx at hvx2 HVX
  generalize hky : y.keep = ky at hvy2 HVY
  have HKX := Lib.hid hkx
  have HKY := Lib.hid hky
  unfold Dk.Step.val
  rw [hvx2] at hwa HXY HVX ⊢
  rw [hvy2] at hwb HXY HVY ⊢
  generalize Ty.S x.a = xa at hwa ⊢
  generalize Ty.S x.b = xb at hwa ⊢
  generalize Ty.S y.a = ya at hwb ⊢
  generalize Ty.S y.b = yb at hwb ⊢
  have HSA := Lib.hid hsa
  clear hv hl hok hx hy hvx hvy x3 x4 y3 y4 hvx2 hvy2 hkx hky hsa hba hbb hb0 hlt hlt2
  go_enter Try.func5, Try.ntmps5
  go_wp2_with fail
  rw [← hwa, ← hwb]
  clear hwa hwb
  with_reducible refine (Dk.lives_c _).mono ?_
  rintro e w1 ⟨rfl, g1⟩
  have ce := CE.out w1 g1
  have cn := CN.out w1 g1
  have HB1 := Lib.hid g1
  clear g1 CE CN
  go_wp2_with fail
  with_reducible refine ce.mono ?_
  rintro e w2 ⟨u, rfl, hu, h2⟩
  subst w2
  have HU := Lib.hid hu
  obtain ⟨aU, cU, hvU, _⟩ := hu.is
  subst hvU
  clear ce hu
  go_wp2_with fail
  with_reducible refine cn.mono ?_
  rintro e w3 ⟨p, rfl, hp, g3⟩
  have HU3 := Lib.hid (HU.out.below (g3.mono (Nat.le_of_lt HLT.out)))
  have HP3 := Lib.hid hp
  have HB3 := Lib.hid (HB1.out.trans g3)
  have hml := HM.out.2
  clear cn hp g3
  go_wp2_with fail
  go_loopw [8] (fun i wr => ∃ (q : Nat) (d : Dk.D), q ≤ M.length ∧ i = .int .i64 q ∧ Dk.Good q d ∧ Dk.PL wb.heap.size wr p d ∧ Below wb.heap.size wb wr ∧ Dk.Ops w.heap.size wr (.slice aU M.length cU) M) (fun i _ => M.length - (intOf i).toNat)
  case atStart => exact ⟨0, Dk.new 1073741824, by omega, rfl, HG0.out, HP3.out, HB3.out, HU3.out⟩
  case round =>
    obtain ⟨q, d, hq, rfl, hG, hP, hB, hU⟩ := hrel
    have HG := Lib.hid hG
    have HP := Lib.hid hP
    have HB := Lib.hid hB
    have HUU := Lib.hid hU
    have hq0 : (0 : Int) ≤ (q : Int) := by omega
    by_cases hql : q < M.length
    · obtain ⟨z, hz⟩ : ∃ z, M[q]? = some z := ⟨_, List.getElem?_eq_getElem hql⟩
      have hzo := HM.out.1 z (List.mem_of_getElem? hz)
      obtain ⟨a', c', he, _, hbB, hh2⟩ := hU.is
      simp only [Value.slice.injEq, true_and] at he
      obtain ⟨rfl, rfl⟩ := he
      rcases hh2 with ⟨h0, _⟩ | ⟨b, o, rfl, hbl, hh2⟩
      · rw [h0] at hql; simp at hql
      · obtain ⟨e0, e1, e2, e3, vK, e4, hK⟩ := hh2 q z hz
        obtain ⟨aK, cK, hvK, _⟩ := hK.is
        have cd := Dk.does_PL hP HG.out (by have := HM.out.2; omega) hzo (hK.mono (Nat.le_of_lt HLT.out) hB.size)
        have HGN := Lib.hid (HG.out.op hzo)
        rw [hvK] at cd e4
        generalize Ty.S z.a = sa at cd e1
        generalize Ty.S z.b = sb at cd e2
        have hqi : (q : Int) < (M.length : Int) := by omega
        clear hzo hh2 hK hvK hG hP hB hU hql hz
        go_wp2_with fail
        with_reducible refine cd.mono ?_
        rintro e wd ⟨rfl, hPd, gd⟩
        have HPd := Lib.hid hPd
        have HBd := Lib.hid (HB.out.trans gd)
        have HUd := Lib.hid (HUU.out.below (gd.mono (Nat.le_of_lt HLT.out)))
        clear cd hPd gd e0 e1 e2 e3 e4
        go_wp2
        go_roundw
        case rel => exact ⟨q + 1, _, by omega, by simp, HGN.out, HPd.out, HBd.out, HUd.out⟩
        case measure => simp [intOf]; omega
    · obtain rfl : q = M.length := by omega
      have hqi : ¬ (M.length : Int) < (M.length : Int) := by omega
      obtain ⟨S, hPS, hSB⟩ := hP
      obtain ⟨x3, x4, y3, y4⟩ := HXY.out wr hB
      have cc := Dk.pcrash_c hPS (hG.fit (by omega)) x.n HX.out.2 kx _ (Dk.Keep.of (HVX.out.below (hB.mono (Nat.le_of_lt HLT.out))) (fun b hb => Nat.le_trans (Nat.le_of_lt HLT.out) (hSB b hb)) (by rw [← HKX.out]; exact HX.out.1.keep))
      have HG1 := Lib.hid (hG.crash x.n HX.out.2 kx)
      have HC1 := Lib.hid (Dk.calm_crash hG.inv x.n kx)
      have HSB := Lib.hid hSB
      generalize Dk.crash d x.n kx = d1 at cc HG1 HC1
      clear hG hU hPS hSB hq
      have HBr := Lib.hid hB
      clear hB
      go_wp2_with fail
      with_reducible refine cc.mono ?_
      rintro e wc ⟨rfl, hD⟩
      obtain ⟨hP1, hO1⟩ := hD
      have hBc := HBr.out.trans (hO1.below HBr.out.size HSB.out)
      have HSB1 : Hid (∀ b, Dk.More S wr wc b → wb.heap.size ≤ b) := Lib.hid fun b hb => by
        rcases hb with hb | hb
        · exact HSB.out b hb
        · have := HBr.out.size; omega
      have HP1 := Lib.hid hP1
      have HBC := Lib.hid hBc
      have hqn : M.length + 1 ≤ 100000 := by omega
      have cnm := Dk.pnames_c hP1 (HG1.out.fit hqn)
      have hnl := Dk.names_len HG1.out
      have HRN : Hid (∀ i, i < (Dk.names d1).length → (Dk.read d1 ((Dk.names d1).getD i [])).2 = 0 ∧ ((Dk.names d1).getD i []).length ≤ 140737488351232) := Lib.hid fun i hi => ⟨Dk.read_names HG1.out.inv hi, by have := Dk.name_short HG1.out i; omega⟩
      generalize hS1 : Dk.More S wr wc = S1 at HP1 HSB1
      have CRD : Hid (∀ W s, Below wc.heap.size wc W → s.length ≤ 140737488351232 → Calls Try.prog 19 #[.pointer (some ⟨p, 0, none⟩), .string (Ty.S s)] W fun e w' => e = .returned (.tuple #[.string (Ty.S (Dk.read d1 s).1), .int .i64 (((Dk.read d1 s).2 : Nat) : Int)]) ∧ Below W.heap.size W w') := Lib.hid fun W s g hs => Dk.pread_c (HP1.out.kept g) (HG1.out.fit hqn) s hs
      clear cc hP1 hO1 hBc x3 x4 y3 y4 hS1
      go_wp2_with fail
      with_reducible refine cnm.mono ?_
      rintro e wn ⟨vn, rfl, hN, gn⟩
      have HN := Lib.hid hN
      have HGN := Lib.hid gn
      obtain ⟨aN, cN, hvN⟩ := Dk.own_slice hN
      subst hvN
      generalize hNM : Dk.names d1 = Nm at HN HRN hnl
      have HNM := Lib.hid hNM
      have hgs := gn.size
      clear cnm hN gn hNM hml
      go_wp2_with fail
      go_loopw [10, 11, 12, 13] (fun tv i _ _ wr => ∃ q : Nat, q ≤ Nm.length ∧ i = .int .i64 q ∧ Tx.Own wn.heap.size wr tv ((Nm.take q).map fun s => (Dk.read d1 s).1) ∧ Below wn.heap.size wn wr) (fun _ i _ _ _ => Nm.length - (intOf i).toNat)
      case atStart => exact ⟨0, by omega, rfl, Tx.Own.nil _ _, Below.refl _ _⟩
      case round =>
        obtain ⟨q, hq, rfl, hT, hB⟩ := hrel
        have HT := Lib.hid hT
        have HB := Lib.hid hB
        have hws := hB.size
        have hq0 : (0 : Int) ≤ (q : Int) := by omega
        by_cases hql : q < Nm.length
        · obtain ⟨g, c, he, hcell⟩ := Dk.own_at HN.out hql
          simp only [Value.slice.injEq, true_and] at he
          obtain ⟨rfl, rfl⟩ := he
          have hcell2 := (hB.cell (p := ⟨g, q, none⟩) (World.block_lt_of_cell? wn _ hcell)).trans hcell
          obtain ⟨hr0, hrs⟩ := HRN.out q hql
          have cr := CRD.out wr (Nm.getD q []) (HGN.out.trans (hB.mono HGN.out.size)) hrs
          rw [hr0] at cr
          have HNX : Hid ((Nm.take (q + 1)).map (fun s => (Dk.read d1 s).1) = (Nm.take q).map (fun s => (Dk.read d1 s).1) ++ [(Dk.read d1 (Nm.getD q [])).1]) := Lib.hid (by
            rw [List.take_succ_eq_append_getElem hql, List.map_append, List.getD, List.getElem?_eq_getElem hql]
            rfl)
          have hml : ((Nm.take q).map (fun s => (Dk.read d1 s).1)).length ≤ q := by rw [List.length_map]; exact List.length_take_le _ _
          generalize (Nm.take q).map (fun s => (Dk.read d1 s).1) = TT at HT HNX hml
          generalize (Dk.read d1 (Nm.getD q [])).1 = K at cr HNX
          generalize hsx : Ty.S K = sx at cr
          have HSX := Lib.hid hsx
          generalize Ty.S (Nm.getD q []) = sn at cr hcell2
          have hqi : (q : Int) < (Nm.length : Int) := by omega
          clear hcell hr0 hrs hsx hT hB
          go_wp2_with fail
          with_reducible refine cr.mono ?_
          rintro e wd ⟨rfl, gd⟩
          have HBd := Lib.hid (HB.out.trans (gd.mono hws))
          have hO2 : Tx.Own wn.heap.size wd u10 TT := Bt.Buf.kept HT.out gd
          have hwd := HBd.out.size
          clear cr gd hcell2
          go_wp2_with (at_builtin; refine Bt.wpList_append_one 9 39 (.string ⟨#[]⟩) 16 Try.underlying39 Tx.infoS rfl (hO2.pre K) hwd (by omega) (by omega) (.tmp 59) (.tmp 61) _ rfl rfl rfl rfl rfl ?_; intro v3 w3 h3 g3)
          have HO3 := Lib.hid (Tx.Own.post (h3 (by rw [← Tx.sv_snoc, ← HSX.out])))
          have HB3 := Lib.hid (Tx.grew_below HBd.out hO2 g3)
          clear h3 g3 hO2 hml hql
          go_wp2
          go_roundw
          case rel => exact ⟨q + 1, by omega, by simp, by rw [HNX.out]; exact HO3.out, HB3.out⟩
          case measure => simp [intOf]; omega
        · obtain rfl : q = Nm.length := by omega
          rw [List.take_length] at hT
          have HT2 := Lib.hid hT
          have hqi : ¬ (Nm.length : Int) < (Nm.length : Int) := by omega
          have hBw := HGN.out.trans (hB.mono HGN.out.size)
          have HBW := Lib.hid hBw
          have hPw := HP1.out.kept hBw
          have hBX := HBC.out.trans (hBw.mono HBC.out.size)
          obtain ⟨x3, x4, y3, y4⟩ := HXY.out wr hBX
          have cc := Dk.pcrash_c hPw (HG1.out.fit hqn) y.n HY.out.2 ky _ (Dk.Keep.of (HVY.out.below (hBX.mono (Nat.le_of_lt HLT.out))) (fun b hb => Nat.le_trans (Nat.le_of_lt HLT.out) (HSB1.out b hb)) (by rw [← HKY.out]; exact HY.out.1.keep))
          have HG2 := Lib.hid (HG1.out.crash y.n HY.out.2 ky)
          have HC2 := Lib.hid (Dk.calm_crash HG1.out.inv y.n ky)
          have HAG := Lib.hid (HC1.out.again HG1.out.inv y.n ky)
          have HBX := Lib.hid hBX
          generalize Dk.crash d1 y.n ky = d2 at cc HG2 HC2 HAG
          clear hT hB hBw hPw hBX hws x3 x4
          go_wp2_with fail
          with_reducible refine cc.mono ?_
          rintro e wc2 ⟨rfl, hP2, hO2⟩
          have hal := HP1.out.alive
          have HN2 : Hid (Tx.Own wc.heap.size wc2 (.slice aN Nm.length cN) Nm) := Lib.hid (Dk.own_off (Bt.Buf.kept HN.out HB.out) hO2 fun b hb hs => by
            have h1 := Bt.Buf.base_le HN.out b hb
            have h2 := hal b hs
            omega)
          have HT3 : Hid (Tx.Own wn.heap.size wc2 u10 (Nm.map fun s => (Dk.read d1 s).1)) := Lib.hid (Dk.own_off HT2.out hO2 fun b hb hs => by
            have h1 := Bt.Buf.base_le HT2.out b hb
            have h2 := hal b hs
            omega)
          have hre : ∀ s, Dk.read d2 s = Dk.read d1 s := fun s => Dk.read_eq HAG.out.1 HAG.out.2 s
          have hne : Dk.names d2 = Nm := by rw [← HNM.out]; unfold Dk.names; rw [HAG.out.2]
          have hqn2 : M.length + 1 + 1 ≤ 100000 := by have := HM.out.2; omega
          have HP2 := Lib.hid hP2
          have CR2 : Hid (∀ W s, Below wc2.heap.size wc2 W → s.length ≤ 140737488351232 → Calls Try.prog 19 #[.pointer (some ⟨p, 0, none⟩), .string (Ty.S s)] W fun e w' => e = .returned (.tuple #[.string (Ty.S (Dk.read d1 s).1), .int .i64 (((Dk.read d1 s).2 : Nat) : Int)]) ∧ Below W.heap.size W w') := Lib.hid fun W s g hs => by
            have := Dk.pread_c (HP2.out.kept g) (HG2.out.fit hqn2) s hs
            rw [hre] at this
            exact this
          have CN2 : Hid (∀ W, Below wc2.heap.size wc2 W → Calls Try.prog 22 #[.pointer (some ⟨p, 0, none⟩)] W fun e w' => ∃ v, e = .returned v ∧ Tx.Own W.heap.size w' v Nm ∧ Below W.heap.size W w') := Lib.hid fun W g => by
            have := Dk.pnames_c (HP2.out.kept g) (HG2.out.fit hqn2)
            rw [hne] at this
            exact this
          have hsd : (Dk.syncDir d2).2 = 0 := by unfold Dk.syncDir; rw [if_neg (by rw [HC2.out.callE]; simp)]
          have CS2 : Hid (∀ W, Below wc2.heap.size wc2 W → Calls Try.prog 30 #[.pointer (some ⟨p, 0, none⟩)] W fun e w' => e = .returned (.int .i64 0) ∧ Below w.heap.size W w') := Lib.hid fun W g => by
            have := Dk.psyncdir_c (HP2.out.kept g) (HG2.out.fit hqn2)
            rw [hsd] at this
            refine this.mono ?_
            rintro e w' ⟨he, _, ho⟩
            refine ⟨he, ho.below ?_ fun b hb => ?_⟩
            · have h1 := g.size
              have h2 := hO2.size
              have h3 := HBX.out.size
              have h4 := HLT.out
              omega
            · rcases hb with hb | hb
              · have := HSB1.out b hb; have := HLT.out; omega
              · have h3 := HBX.out.size; have h4 := HLT.out; omega
          have HBC2 := Lib.hid (HBX.out.trans (hO2.below HBX.out.size HSB1.out))
          obtain ⟨aT, cT, hvT⟩ := Dk.own_slice HT3.out
          rw [List.length_map] at hvT
          rw [hvT] at HT3
          clear cc hP2 hO2 hal hre hne hsd y3 y4 CRD HT2
          go_wp2_with fail
          clear hvT
          go_loopw [14, 15, 16] (fun i _ _ wr => ∃ q : Nat, q ≤ Nm.length ∧ i = .int .i64 q ∧ Below wc2.heap.size wc2 wr) (fun i _ _ _ => Nm.length - (intOf i).toNat)
          case atStart => exact ⟨0, by omega, rfl, Below.refl _ _⟩
          case round =>
            obtain ⟨q, hq, rfl, hB⟩ := hrel
            have HBq := Lib.hid hB
            have hws := hB.size
            have hq0 : (0 : Int) ≤ (q : Int) := by omega
            by_cases hql : q < Nm.length
            · obtain ⟨g, c, he, hcell⟩ := Dk.own_at HN2.out hql
              simp only [Value.slice.injEq, true_and] at he
              obtain ⟨rfl, rfl⟩ := he
              have hcell2 := (hB.cell (p := ⟨g, q, none⟩) (World.block_lt_of_cell? wc2 _ hcell)).trans hcell
              obtain ⟨hr0, hrs⟩ := HRN.out q hql
              have cr := CR2.out wr (Nm.getD q []) hB hrs
              rw [hr0] at cr
              have hqm : q < (Nm.map fun s => (Dk.read d1 s).1).length := by rw [List.length_map]; exact hql
              obtain ⟨gT, cT2, heT, hcellT⟩ := Dk.own_at HT3.out hqm
              have hgd : (Nm.map fun s => (Dk.read d1 s).1).getD q [] = (Dk.read d1 (Nm.getD q [])).1 := by
                rw [List.getD, List.getElem?_map, List.getD, List.getElem?_eq_getElem hql]
                rfl
              rw [hgd] at hcellT
              rw [List.length_map] at heT
              simp only [Value.slice.injEq, true_and] at heT
              obtain ⟨rfl, rfl⟩ := heT
              have hcellW : ∀ W, Below wr.heap.size wr W → W.cell? ⟨gT, q, none⟩ = some (.string (Ty.S (Dk.read d1 (Nm.getD q [])).1)) := fun W gW => (gW.cell (p := ⟨gT, q, none⟩) (World.block_lt_of_cell? wr _ ((hB.cell (p := ⟨gT, q, none⟩) (World.block_lt_of_cell? wc2 _ hcellT)).trans hcellT))).trans ((hB.cell (p := ⟨gT, q, none⟩) (World.block_lt_of_cell? wc2 _ hcellT)).trans hcellT)
              have hx := Tx.S_yes (Dk.read d1 (Nm.getD q [])).1
              generalize (Dk.read d1 (Nm.getD q [])).1 = K at cr hcellW hx
              generalize Ty.S K = sx at cr hcellW hx
              generalize Ty.S (Nm.getD q []) = sn at cr hcell2
              have HCW := Lib.hid hcellW
              have hqi : (q : Int) < (Nm.length : Int) := by omega
              clear hcell hr0 hrs hB hqm hgd hcellT hcellW hql
              go_wp2_with fail
              with_reducible refine cr.mono ?_
              rintro e wd ⟨rfl, gd⟩
              have HBd := Lib.hid (HBq.out.trans (gd.mono hws))
              have hcw := HCW.out wd gd
              clear cr gd hcell2
              go_wp2
              go_roundw
              case rel => exact ⟨q + 1, by omega, by simp, HBd.out⟩
              case measure => simp [intOf]; omega
            · obtain rfl : q = Nm.length := by omega
              have hqi : ¬ (Nm.length : Int) < (Nm.length : Int) := by omega
              have cn2 := CN2.out wr hB
              clear hB
              go_wp2_with fail
              with_reducible refine cn2.mono ?_
              rintro e w7 ⟨v7, rfl, hO7, g7⟩
              have HB7 := Lib.hid (HBq.out.trans (g7.mono hws))
              have hA1 := Tx.Own.at hO7
              have hA2 := Tx.Own.at (Bt.Buf.kept HN2.out HB7.out)
              have csm := Tx.same_c _ _ Nm w7 hA1 hA2 (by omega)
              clear cn2 hO7 g7 hA1 hA2
              go_wp2_with fail
              with_reducible refine csm.mono ?_
              rintro e w8 ⟨rfl, g8⟩
              have HB8 := Lib.hid (HB7.out.trans (g8.mono HB7.out.size))
              have cs2 := CS2.out w8 HB8.out
              clear csm g8
              go_wp2_with fail
              with_reducible refine cs2.mono ?_
              rintro e w9 ⟨rfl, g9⟩
              have hlast : Below w.heap.size w w9 := by
                have h1 := HB0.out.trans (HBC2.out.mono (Nat.le_of_lt HLT.out))
                have h2 := h1.trans (HB8.out.mono h1.size)
                exact h2.trans g9
              have HLAST := Lib.hid hlast
              clear cs2 g9 hlast
              go_wp2
              go_ret
              exact ⟨rfl, HLAST.out⟩
end Go.Proofs.Ytfkdkdkdpenblaa
