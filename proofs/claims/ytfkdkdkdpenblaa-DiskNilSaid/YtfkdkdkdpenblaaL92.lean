/-
  The laws of disk: the space is kept.
-/
import Derived.Test.YtfkdkdkdpenblaaZZ
namespace Go.Proofs.Ytfkdkdkdpenblaa
open Go.RowKit
/-- A script whose steps are as they come in. -/
def Dk.Steps (L : List Dk.Step) : Prop := ∀ x ∈ L, x.Ok ∧ Ty.I64 x.n
theorem Dk.Steps.take {L : List Dk.Step} (h : Dk.Steps L) (k : Nat) : Dk.Steps (L.take k) := fun x hx => h x (List.mem_of_mem_take hx)
/-- A step of the program's disk, its blocks from B on. -/
theorem Dk.does_PL {B : Nat} {w : World} {p : Nat} {d : Dk.D} {k : Nat} (h : Dk.PL B w p d) (hg : Dk.Good k d) (hk : k ≤ 100000) {x : Dk.Step} (hx : x.Ok ∧ Ty.I64 x.n) {vK : Value} (hK : Ig.At B w vK x.keep) :
    Calls Try.prog 15 #[.pointer (some ⟨p, 0, none⟩), .agg #[.int .i64 x.k, .string (Ty.S x.a), .string (Ty.S x.b), .int .i64 x.n, vK]] w fun e w' => e = .returned (.int .i64 (((Dk.step d x.op).2 : Nat) : Int)) ∧ Dk.PL B w' p (Dk.step d x.op).1 ∧ Below B w w' := by
  obtain ⟨_, _, _, _, hB, _⟩ := hK.is
  exact h.call hB fun S h' hS => Dk.does_c h' (hg.fit hk) x hx.1 hx.2 B vK hK hS
theorem Dk.Good.op {k : Nat} {d : Dk.D} (h : Dk.Good k d) {x : Dk.Step} (hx : x.Ok ∧ Ty.I64 x.n) : Dk.Good (k + 1) (Dk.step d x.op).1 := h.step x.op hx.1.a hx.1.b hx.2.2
set_option maxHeartbeats 4000000 in
set_option maxRecDepth 100000 in
theorem Dk.lawSpace_w (n : Int) (v : Value) (L : List Dk.Step) (w : World) (hn : Ty.I64 n) (hv : Dk.Ops w.heap.size w v L) (hl : L.length ≤ 1048576) (hok : Dk.Steps L) :
    Calls Try.prog 7 #[.int .i64 n, v] w fun e w' => e = .returned (.bool true) ∧ Below w.heap.size w w' := by
  have cl := Dk.lives_c w
  have CE : Hid (∀ W, Below w.heap.size w W → Calls Try.prog 12 #[v] W fun e w' => ∃ u, e = .returned u ∧ Dk.Ops w.heap.size W u (L.take 300) ∧ w' = W) := Lib.hid fun W g => Dk.early_c (hv.below g) hl
  have CN : Hid (∀ W, Below w.heap.size w W → Calls Try.prog 13 #[.int .i64 n] W fun e w' => ∃ p, e = .returned (.pointer (some ⟨p, 0, none⟩)) ∧ Dk.PL w.heap.size w' p (Dk.new n) ∧ Below w.heap.size W w') := Lib.hid fun W g => Dk.new_PL hn _ g.size
  have HG0 := Lib.hid (Dk.Good.new n hn.2)
  have HM : Hid (Dk.Steps (L.take 300) ∧ (L.take 300).length ≤ 300) := Lib.hid ⟨hok.take 300, List.length_take_le _ _⟩
  generalize L.take 300 = M at CE HM
  clear hv hl hok hn
  rcases (by omega : n < 0 ∨ ¬ n < 0) with hneg | hneg
  · obtain ⟨room, hroom⟩ : ∃ room, room = max n 0 := ⟨_, rfl⟩
    have HROOM := Lib.hid hroom
    clear hroom
    go_enter Try.func7, Try.ntmps7
    go_wp2_with fail
    with_reducible refine cl.mono ?_
    rintro e w1 ⟨rfl, g1⟩
    have ce := CE.out w1 g1
    have cn := CN.out w1 g1
    have HB1 := Lib.hid g1
    clear cl g1 CE CN
    go_wp2_with fail
    with_reducible refine ce.mono ?_
    rintro e w2 ⟨u, rfl, hu, h2⟩
    subst w2
    have HU := Lib.hid hu
    obtain ⟨aU, cU, hvU, _⟩ := hu.is
    subst hvU
    clear ce hu
    go_wp2_with fail
    with_reducible refine cn.mono ?_
    rintro e w3 ⟨p, rfl, hp, g3⟩
    have HU3 := Lib.hid (HU.out.below g3)
    have HP3 := Lib.hid hp
    have HB3 := Lib.hid (HB1.out.trans g3)
    have hml := HM.out.2
    clear cn hp g3
    go_wp2
    go_loopw [6, 7] (fun i _ wr => ∃ (q : Nat) (d : Dk.D), q ≤ M.length ∧ i = .int .i64 q ∧ Dk.Good q d ∧ Dk.PL w.heap.size wr p d ∧ Below w.heap.size w wr ∧ Dk.Ops w.heap.size wr (.slice aU M.length cU) M ∧ d.room = room ∧ (Dk.held d : Int) ≤ room) (fun i _ _ => M.length - (intOf i).toNat)
    case atStart => exact ⟨0, Dk.new n, by omega, rfl, HG0.out, HP3.out, HB3.out, HU3.out, HROOM.out.symm, by rw [HROOM.out]; show (0 : Int) ≤ _; omega⟩
    case round =>
      obtain ⟨q, d, hq, rfl, hG, hP, hB, hU, hr, hh⟩ := hrel
      have HG := Lib.hid hG
      have HP := Lib.hid hP
      have HB := Lib.hid hB
      have HUU := Lib.hid hU
      have HR := Lib.hid hr
      have HHD := Lib.hid hh
      have hq0 : (0 : Int) ≤ (q : Int) := by omega
      by_cases hql : q < M.length
      · obtain ⟨x, hx⟩ : ∃ x, M[q]? = some x := ⟨_, List.getElem?_eq_getElem hql⟩
        have hxo := HM.out.1 x (List.mem_of_getElem? hx)
        obtain ⟨a', c', he, _, hbB, hh2⟩ := hU.is
        simp only [Value.slice.injEq, true_and] at he
        obtain ⟨rfl, rfl⟩ := he
        rcases hh2 with ⟨h0, _⟩ | ⟨b, o, rfl, hbl, hh2⟩
        · rw [h0] at hql; simp at hql
        · obtain ⟨e0, e1, e2, e3, vK, e4, hK⟩ := hh2 q x hx
          have hKF := hK.is
          obtain ⟨aK, cK, hvK, _⟩ := hKF
          have ck := Dk.kind_c x vK
          have cd := fun W (gW : Below w.heap.size wr W) (hPW : Dk.PL w.heap.size W p d) => Dk.does_PL hPW HG.out (by have := HM.out.2; omega) hxo (hK.below gW)
          have HSP := Lib.hid fun h6 h9 => Dk.space_step HG.out.inv (by rw [HR.out]; exact HHD.out) x.op h6 h9
          have HGN := Lib.hid (HG.out.op hxo)
          have HRM := Lib.hid (Dk.room_step d x.op)
          have hkl := Dk.kind_lt x.k
          have HKO : Hid (x.op.kind = Dk.kindOf x.k) := Lib.hid rfl
          unfold Dk.Step.val at ck
          rw [hvK] at ck cd e4
          generalize hxop : x.op = op at cd HSP HGN HRM HKO
          generalize Ty.S x.a = sa at ck cd e1
          generalize Ty.S x.b = sb at ck cd e2
          generalize x.n = xn at ck cd e3
          generalize Dk.kindOf x.k = K at ck hkl HKO
          generalize x.k = xk at ck cd e0
          have HC := Lib.hid (fun (a : Addr) (y : Value) (W : World) (g : Below w.heap.size wr W) (ha : a.block < w.heap.size) (h : wr.cell? a = some y) => (g.cell ha).trans h)
          have HE := Lib.hid (And.intro e0 (And.intro e1 (And.intro e2 (And.intro e3 e4))))
          have hqi : (q : Int) < (M.length : Int) := by omega
          clear hx hxo hh2 hK hvK hG hP hB hU hr hh hxop hql
          have HBW := Lib.hid HB.out
          have HCE : Hid (∀ W, Below w.heap.size wr W → W.cell? ⟨b, o + q * 5, none⟩ = some (.int .i64 xk) ∧ W.cell? ⟨b, o + q * 5 + 1, none⟩ = some (.string sa) ∧ W.cell? ⟨b, o + q * 5 + 2, none⟩ = some (.string sb) ∧ W.cell? ⟨b, o + q * 5 + 3, none⟩ = some (.int .i64 xn) ∧ W.cell? ⟨b, o + q * 5 + 4, none⟩ = some (.slice aK x.keep.length cK)) := Lib.hid fun W g =>
            ⟨(g.cell (p := ⟨b, o + q * 5, none⟩) hbl).trans HE.out.1, (g.cell (p := ⟨b, o + q * 5 + 1, none⟩) hbl).trans HE.out.2.1, (g.cell (p := ⟨b, o + q * 5 + 2, none⟩) hbl).trans HE.out.2.2.1, (g.cell (p := ⟨b, o + q * 5 + 3, none⟩) hbl).trans HE.out.2.2.2.1, (g.cell (p := ⟨b, o + q * 5 + 4, none⟩) hbl).trans HE.out.2.2.2.2⟩
          have HB0 : Hid (Below w.heap.size wr wr) := Lib.hid (Below.refl _ _)
          have HWS0 : Hid (w.heap.size ≤ wr.heap.size) := Lib.hid hbB
          have HP0 := Lib.hid HP.out
          have CD := Lib.hid cd
          have HKL := Lib.hid hkl
          obtain ⟨r, hr⟩ : ∃ r, r = Dk.step d op := ⟨_, rfl⟩
          rw [← hr] at CD HGN HRM HSP
          have HRS := Lib.hid hr
          obtain ⟨D, E⟩ := r
          simp only at CD HGN HRM HSP
          have CHD : Hid (∀ W, Dk.PL w.heap.size W p D → Calls Try.prog 17 #[.pointer (some ⟨p, 0, none⟩)] W fun e w' => e = .returned (.int .i64 ((Dk.held D : Nat) : Int)) ∧ Below W.heap.size W w') := Lib.hid fun W h => h.read fun S h' => Dk.pheld_c h' (HGN.out.fit (by have := HM.out.2; omega))
          generalize hhd : Dk.held D = hd at CHD HSP
          have HHDD := Lib.hid hhd
          clear hbl hbB cd hkl hr hhd
          by_cases hK6 : K = 6
          · subst hK6
            go_wp2_with fail
            with_reducible refine (ck _).mono ?_
            rintro e wk ⟨rfl, gk⟩
            have HBwk := Lib.hid (HB0.out.trans (gk.mono HWS0.out))
            have HWSwk := Lib.hid (Nat.le_trans HWS0.out gk.size)
            have HPwk := Lib.hid (HP0.out.kept gk)
            obtain ⟨e0, e1, e2, e3, e4⟩ := HCE.out wk HBwk.out
            clear gk
            clear ck
            clear e0 e1 e2 e3 e4
            go_wp2
            go_roundw
            case rel => exact ⟨q + 1, d, by omega, by simp, HG.out.mono (by omega), HPwk.out, HBW.out.trans HBwk.out, HUU.out.below HBwk.out, HR.out, HHD.out⟩
            case measure => simp [intOf]; omega
          · have hK6i : ((K : Nat) : Int) ≠ 6 := by omega
            have hK6b : (((K : Nat) : Int) == 6) = false := by rw [beq_eq_false_iff_ne]; exact hK6i
            have HK6 := Lib.hid hK6
            clear hK6 hK6i
            go_wp2_with fail
            with_reducible refine (ck _).mono ?_
            rintro e wk ⟨rfl, gk⟩
            have HBwk := Lib.hid (HB0.out.trans (gk.mono HWS0.out))
            have HWSwk := Lib.hid (Nat.le_trans HWS0.out gk.size)
            have HPwk := Lib.hid (HP0.out.kept gk)
            obtain ⟨e0, e1, e2, e3, e4⟩ := HCE.out wk HBwk.out
            clear gk
            have cdd := CD.out wk HBwk.out HPwk.out
            go_wp2_with fail
            with_reducible refine cdd.mono ?_
            rintro e wd ⟨rfl, hPd, gd⟩
            have HBwd := Lib.hid (HBwk.out.trans gd)
            have HWSwd := Lib.hid (Nat.le_trans HWSwk.out gd.size)
            have HPwd := Lib.hid hPd
            obtain ⟨e0, e1, e2, e3, e4⟩ := HCE.out wd HBwd.out
            clear cdd hPd gd hK6b
            by_cases hK9 : K = 9
            · subst hK9
              have hE0 : E = 0 := by
                have h1 := HRS.out
                unfold Dk.step at h1
                have hk := HKO.out
                rw [hk] at h1
                simp only [Nat.reduceEqDiff, if_false] at h1
                exact congrArg Prod.snd h1
              subst hE0
              have hr9 : D.room = room := by rw [HRM.out, HKO.out, if_neg (by decide)]; exact HR.out
              have HR9 := Lib.hid hr9
              clear hr9
              go_wp2_with fail
              with_reducible refine (ck _).mono ?_
              rintro e we ⟨rfl, gk⟩
              have HBwe := Lib.hid (HBwd.out.trans (gk.mono HWSwd.out))
              have HWSwe := Lib.hid (Nat.le_trans HWSwd.out gk.size)
              have HPwe := Lib.hid (HPwd.out.kept gk)
              obtain ⟨e0, e1, e2, e3, e4⟩ := HCE.out we HBwe.out
              clear gk
              go_wp2_with fail
              with_reducible refine (ck _).mono ?_
              rintro e wf ⟨rfl, gk⟩
              have HBwf := Lib.hid (HBwe.out.trans (gk.mono HWSwe.out))
              have HWSwf := Lib.hid (Nat.le_trans HWSwe.out gk.size)
              have HPwf := Lib.hid (HPwe.out.kept gk)
              obtain ⟨e0, e1, e2, e3, e4⟩ := HCE.out wf HBwf.out
              clear gk
              by_cases hgt : room < (hd : Int)
              · have hgt2 : (hd : Int) > 0 := by have := HROOM.out; omega
                go_wp2_with fail
                with_reducible refine (CHD.out _ HPwf.out).mono ?_
                rintro e wg ⟨rfl, gk⟩
                have HBwg := Lib.hid (HBwf.out.trans (gk.mono HWSwf.out))
                have HWSwg := Lib.hid (Nat.le_trans HWSwf.out gk.size)
                have HPwg := Lib.hid (HPwf.out.kept gk)
                obtain ⟨e0, e1, e2, e3, e4⟩ := HCE.out wg HBwg.out
                clear gk
                clear e0 e1 e2 e3 e4 ck
                go_wp2
                go_ret
                exact ⟨rfl, HBW.out.trans HBwg.out⟩
              · have hgt2 : ¬ (hd : Int) > 0 := by have := HROOM.out; omega
                have HGT := Lib.hid hgt
                clear hgt
                go_wp2_with fail
                with_reducible refine (CHD.out _ HPwf.out).mono ?_
                rintro e wg ⟨rfl, gk⟩
                have HBwg := Lib.hid (HBwf.out.trans (gk.mono HWSwf.out))
                have HWSwg := Lib.hid (Nat.le_trans HWSwf.out gk.size)
                have HPwg := Lib.hid (HPwf.out.kept gk)
                obtain ⟨e0, e1, e2, e3, e4⟩ := HCE.out wg HBwg.out
                clear gk
                clear ck
                clear e0 e1 e2 e3 e4
                go_wp2
                go_roundw
                case rel => exact ⟨q + 1, D, by omega, by simp, HGN.out, HPwg.out, HBW.out.trans HBwg.out, HUU.out.below HBwg.out, HR9.out, by rw [HHDD.out]; have := HGT.out; omega⟩
                case measure => simp [intOf]; omega
            · have hK9b : (((K : Nat) : Int) != 9) = true := by rw [bne_iff_ne]; omega
              have hK9c : (((K : Nat) : Int) == 9) = false := by rw [beq_eq_false_iff_ne]; omega
              have hsp := HSP.out (by rw [HKO.out]; exact HK6.out) (by rw [HKO.out]; have := HKL.out; omega)
              obtain ⟨hs1, hs2, hs3⟩ := hsp
              have HS1 := Lib.hid hs1
              have HS2 : Hid (D.room = room) := Lib.hid (hs2.trans HR.out)
              have hgt2 : ¬ (hd : Int) > 0 := by have := HROOM.out; have := HR.out; omega
              rw [HKO.out] at hs3
              have HS3 := Lib.hid hs3
              clear hK9 hs1 hs2 hs3
              by_cases hE : E = 10
              · subst hE
                obtain rfl : K = 1 := HS3.out (by trivial)
                clear hK9b hK9c
                go_wp2_with fail
                with_reducible refine (ck _).mono ?_
                rintro e we ⟨rfl, gk⟩
                have HBwe := Lib.hid (HBwd.out.trans (gk.mono HWSwd.out))
                have HWSwe := Lib.hid (Nat.le_trans HWSwd.out gk.size)
                have HPwe := Lib.hid (HPwd.out.kept gk)
                obtain ⟨e0, e1, e2, e3, e4⟩ := HCE.out we HBwe.out
                clear gk
                go_wp2_with fail
                with_reducible refine (CHD.out _ HPwe.out).mono ?_
                rintro e wf ⟨rfl, gk⟩
                have HBwf := Lib.hid (HBwe.out.trans (gk.mono HWSwe.out))
                have HWSwf := Lib.hid (Nat.le_trans HWSwe.out gk.size)
                have HPwf := Lib.hid (HPwe.out.kept gk)
                obtain ⟨e0, e1, e2, e3, e4⟩ := HCE.out wf HBwf.out
                clear gk
                go_wp2_with fail
                with_reducible refine (ck _).mono ?_
                rintro e wg ⟨rfl, gk⟩
                have HBwg := Lib.hid (HBwf.out.trans (gk.mono HWSwf.out))
                have HWSwg := Lib.hid (Nat.le_trans HWSwf.out gk.size)
                have HPwg := Lib.hid (HPwf.out.kept gk)
                obtain ⟨e0, e1, e2, e3, e4⟩ := HCE.out wg HBwg.out
                clear gk
                go_wp2_with fail
                with_reducible refine (ck _).mono ?_
                rintro e wh ⟨rfl, gk⟩
                have HBwh := Lib.hid (HBwg.out.trans (gk.mono HWSwg.out))
                have HWSwh := Lib.hid (Nat.le_trans HWSwg.out gk.size)
                have HPwh := Lib.hid (HPwg.out.kept gk)
                obtain ⟨e0, e1, e2, e3, e4⟩ := HCE.out wh HBwh.out
                clear gk
                clear ck
                clear e0 e1 e2 e3 e4
                go_wp2
                go_roundw
                case rel => exact ⟨q + 1, D, by omega, by simp, HGN.out, HPwh.out, HBW.out.trans HBwh.out, HUU.out.below HBwh.out, HS2.out, by rw [HHDD.out]; have := HS1.out; have := HR.out; omega⟩
                case measure => simp [intOf]; omega
              · have hEb : (((E : Nat) : Int) == 10) = false := by rw [beq_eq_false_iff_ne]; omega
                clear hE
                go_wp2_with fail
                with_reducible refine (ck _).mono ?_
                rintro e we ⟨rfl, gk⟩
                have HBwe := Lib.hid (HBwd.out.trans (gk.mono HWSwd.out))
                have HWSwe := Lib.hid (Nat.le_trans HWSwd.out gk.size)
                have HPwe := Lib.hid (HPwd.out.kept gk)
                obtain ⟨e0, e1, e2, e3, e4⟩ := HCE.out we HBwe.out
                clear gk
                go_wp2_with fail
                with_reducible refine (CHD.out _ HPwe.out).mono ?_
                rintro e wf ⟨rfl, gk⟩
                have HBwf := Lib.hid (HBwe.out.trans (gk.mono HWSwe.out))
                have HWSwf := Lib.hid (Nat.le_trans HWSwe.out gk.size)
                have HPwf := Lib.hid (HPwe.out.kept gk)
                obtain ⟨e0, e1, e2, e3, e4⟩ := HCE.out wf HBwf.out
                clear gk
                go_wp2_with fail
                with_reducible refine (ck _).mono ?_
                rintro e wg ⟨rfl, gk⟩
                have HBwg := Lib.hid (HBwf.out.trans (gk.mono HWSwf.out))
                have HWSwg := Lib.hid (Nat.le_trans HWSwf.out gk.size)
                have HPwg := Lib.hid (HPwf.out.kept gk)
                obtain ⟨e0, e1, e2, e3, e4⟩ := HCE.out wg HBwg.out
                clear gk
                clear ck
                clear e0 e1 e2 e3 e4
                go_wp2
                go_roundw
                case rel => exact ⟨q + 1, D, by omega, by simp, HGN.out, HPwg.out, HBW.out.trans HBwg.out, HUU.out.below HBwg.out, HS2.out, by rw [HHDD.out]; have := HS1.out; have := HR.out; omega⟩
                case measure => simp [intOf]; omega
      · obtain rfl : q = M.length := by omega
        have hqi : ¬ (M.length : Int) < (M.length : Int) := by omega
        clear hG hP hB hU hr hh
        go_wp2
        go_ret
        exact ⟨rfl, HB.out⟩
  · obtain ⟨room, hroom⟩ : ∃ room, room = max n 0 := ⟨_, rfl⟩
    have HROOM := Lib.hid hroom
    clear hroom
    go_enter Try.func7, Try.ntmps7
    go_wp2_with fail
    with_reducible refine cl.mono ?_
    rintro e w1 ⟨rfl, g1⟩
    have ce := CE.out w1 g1
    have cn := CN.out w1 g1
    have HB1 := Lib.hid g1
    clear cl g1 CE CN
    go_wp2_with fail
    with_reducible refine ce.mono ?_
    rintro e w2 ⟨u, rfl, hu, h2⟩
    subst w2
    have HU := Lib.hid hu
    obtain ⟨aU, cU, hvU, _⟩ := hu.is
    subst hvU
    clear ce hu
    go_wp2_with fail
    with_reducible refine cn.mono ?_
    rintro e w3 ⟨p, rfl, hp, g3⟩
    have HU3 := Lib.hid (HU.out.below g3)
    have HP3 := Lib.hid hp
    have HB3 := Lib.hid (HB1.out.trans g3)
    have hml := HM.out.2
    clear cn hp g3
    go_wp2
    go_loopw [6, 7] (fun i _ wr => ∃ (q : Nat) (d : Dk.D), q ≤ M.length ∧ i = .int .i64 q ∧ Dk.Good q d ∧ Dk.PL w.heap.size wr p d ∧ Below w.heap.size w wr ∧ Dk.Ops w.heap.size wr (.slice aU M.length cU) M ∧ d.room = room ∧ (Dk.held d : Int) ≤ room) (fun i _ _ => M.length - (intOf i).toNat)
    case atStart => exact ⟨0, Dk.new n, by omega, rfl, HG0.out, HP3.out, HB3.out, HU3.out, HROOM.out.symm, by rw [HROOM.out]; show (0 : Int) ≤ _; omega⟩
    case round =>
      obtain ⟨q, d, hq, rfl, hG, hP, hB, hU, hr, hh⟩ := hrel
      have HG := Lib.hid hG
      have HP := Lib.hid hP
      have HB := Lib.hid hB
      have HUU := Lib.hid hU
      have HR := Lib.hid hr
      have HHD := Lib.hid hh
      have hq0 : (0 : Int) ≤ (q : Int) := by omega
      by_cases hql : q < M.length
      · obtain ⟨x, hx⟩ : ∃ x, M[q]? = some x := ⟨_, List.getElem?_eq_getElem hql⟩
        have hxo := HM.out.1 x (List.mem_of_getElem? hx)
        obtain ⟨a', c', he, _, hbB, hh2⟩ := hU.is
        simp only [Value.slice.injEq, true_and] at he
        obtain ⟨rfl, rfl⟩ := he
        rcases hh2 with ⟨h0, _⟩ | ⟨b, o, rfl, hbl, hh2⟩
        · rw [h0] at hql; simp at hql
        · obtain ⟨e0, e1, e2, e3, vK, e4, hK⟩ := hh2 q x hx
          have hKF := hK.is
          obtain ⟨aK, cK, hvK, _⟩ := hKF
          have ck := Dk.kind_c x vK
          have cd := fun W (gW : Below w.heap.size wr W) (hPW : Dk.PL w.heap.size W p d) => Dk.does_PL hPW HG.out (by have := HM.out.2; omega) hxo (hK.below gW)
          have HSP := Lib.hid fun h6 h9 => Dk.space_step HG.out.inv (by rw [HR.out]; exact HHD.out) x.op h6 h9
          have HGN := Lib.hid (HG.out.op hxo)
          have HRM := Lib.hid (Dk.room_step d x.op)
          have hkl := Dk.kind_lt x.k
          have HKO : Hid (x.op.kind = Dk.kindOf x.k) := Lib.hid rfl
          unfold Dk.Step.val at ck
          rw [hvK] at ck cd e4
          generalize hxop : x.op = op at cd HSP HGN HRM HKO
          generalize Ty.S x.a = sa at ck cd e1
          generalize Ty.S x.b = sb at ck cd e2
          generalize x.n = xn at ck cd e3
          generalize Dk.kindOf x.k = K at ck hkl HKO
          generalize x.k = xk at ck cd e0
          have HC := Lib.hid (fun (a : Addr) (y : Value) (W : World) (g : Below w.heap.size wr W) (ha : a.block < w.heap.size) (h : wr.cell? a = some y) => (g.cell ha).trans h)
          have HE := Lib.hid (And.intro e0 (And.intro e1 (And.intro e2 (And.intro e3 e4))))
          have hqi : (q : Int) < (M.length : Int) := by omega
          clear hx hxo hh2 hK hvK hG hP hB hU hr hh hxop hql
          have HBW := Lib.hid HB.out
          have HCE : Hid (∀ W, Below w.heap.size wr W → W.cell? ⟨b, o + q * 5, none⟩ = some (.int .i64 xk) ∧ W.cell? ⟨b, o + q * 5 + 1, none⟩ = some (.string sa) ∧ W.cell? ⟨b, o + q * 5 + 2, none⟩ = some (.string sb) ∧ W.cell? ⟨b, o + q * 5 + 3, none⟩ = some (.int .i64 xn) ∧ W.cell? ⟨b, o + q * 5 + 4, none⟩ = some (.slice aK x.keep.length cK)) := Lib.hid fun W g =>
            ⟨(g.cell (p := ⟨b, o + q * 5, none⟩) hbl).trans HE.out.1, (g.cell (p := ⟨b, o + q * 5 + 1, none⟩) hbl).trans HE.out.2.1, (g.cell (p := ⟨b, o + q * 5 + 2, none⟩) hbl).trans HE.out.2.2.1, (g.cell (p := ⟨b, o + q * 5 + 3, none⟩) hbl).trans HE.out.2.2.2.1, (g.cell (p := ⟨b, o + q * 5 + 4, none⟩) hbl).trans HE.out.2.2.2.2⟩
          have HB0 : Hid (Below w.heap.size wr wr) := Lib.hid (Below.refl _ _)
          have HWS0 : Hid (w.heap.size ≤ wr.heap.size) := Lib.hid hbB
          have HP0 := Lib.hid HP.out
          have CD := Lib.hid cd
          have HKL := Lib.hid hkl
          obtain ⟨r, hr⟩ : ∃ r, r = Dk.step d op := ⟨_, rfl⟩
          rw [← hr] at CD HGN HRM HSP
          have HRS := Lib.hid hr
          obtain ⟨D, E⟩ := r
          simp only at CD HGN HRM HSP
          have CHD : Hid (∀ W, Dk.PL w.heap.size W p D → Calls Try.prog 17 #[.pointer (some ⟨p, 0, none⟩)] W fun e w' => e = .returned (.int .i64 ((Dk.held D : Nat) : Int)) ∧ Below W.heap.size W w') := Lib.hid fun W h => h.read fun S h' => Dk.pheld_c h' (HGN.out.fit (by have := HM.out.2; omega))
          generalize hhd : Dk.held D = hd at CHD HSP
          have HHDD := Lib.hid hhd
          clear hbl hbB cd hkl hr hhd
          by_cases hK6 : K = 6
          · subst hK6
            go_wp2_with fail
            with_reducible refine (ck _).mono ?_
            rintro e wk ⟨rfl, gk⟩
            have HBwk := Lib.hid (HB0.out.trans (gk.mono HWS0.out))
            have HWSwk := Lib.hid (Nat.le_trans HWS0.out gk.size)
            have HPwk := Lib.hid (HP0.out.kept gk)
            obtain ⟨e0, e1, e2, e3, e4⟩ := HCE.out wk HBwk.out
            clear gk
            clear ck
            clear e0 e1 e2 e3 e4
            go_wp2
            go_roundw
            case rel => exact ⟨q + 1, d, by omega, by simp, HG.out.mono (by omega), HPwk.out, HBW.out.trans HBwk.out, HUU.out.below HBwk.out, HR.out, HHD.out⟩
            case measure => simp [intOf]; omega
          · have hK6i : ((K : Nat) : Int) ≠ 6 := by omega
            have hK6b : (((K : Nat) : Int) == 6) = false := by rw [beq_eq_false_iff_ne]; exact hK6i
            have HK6 := Lib.hid hK6
            clear hK6 hK6i
            go_wp2_with fail
            with_reducible refine (ck _).mono ?_
            rintro e wk ⟨rfl, gk⟩
            have HBwk := Lib.hid (HB0.out.trans (gk.mono HWS0.out))
            have HWSwk := Lib.hid (Nat.le_trans HWS0.out gk.size)
            have HPwk := Lib.hid (HP0.out.kept gk)
            obtain ⟨e0, e1, e2, e3, e4⟩ := HCE.out wk HBwk.out
            clear gk
            have cdd := CD.out wk HBwk.out HPwk.out
            go_wp2_with fail
            with_reducible refine cdd.mono ?_
            rintro e wd ⟨rfl, hPd, gd⟩
            have HBwd := Lib.hid (HBwk.out.trans gd)
            have HWSwd := Lib.hid (Nat.le_trans HWSwk.out gd.size)
            have HPwd := Lib.hid hPd
            obtain ⟨e0, e1, e2, e3, e4⟩ := HCE.out wd HBwd.out
            clear cdd hPd gd hK6b
            by_cases hK9 : K = 9
            · subst hK9
              have hE0 : E = 0 := by
                have h1 := HRS.out
                unfold Dk.step at h1
                have hk := HKO.out
                rw [hk] at h1
                simp only [Nat.reduceEqDiff, if_false] at h1
                exact congrArg Prod.snd h1
              subst hE0
              have hr9 : D.room = room := by rw [HRM.out, HKO.out, if_neg (by decide)]; exact HR.out
              have HR9 := Lib.hid hr9
              clear hr9
              go_wp2_with fail
              with_reducible refine (ck _).mono ?_
              rintro e we ⟨rfl, gk⟩
              have HBwe := Lib.hid (HBwd.out.trans (gk.mono HWSwd.out))
              have HWSwe := Lib.hid (Nat.le_trans HWSwd.out gk.size)
              have HPwe := Lib.hid (HPwd.out.kept gk)
              obtain ⟨e0, e1, e2, e3, e4⟩ := HCE.out we HBwe.out
              clear gk
              go_wp2_with fail
              with_reducible refine (ck _).mono ?_
              rintro e wf ⟨rfl, gk⟩
              have HBwf := Lib.hid (HBwe.out.trans (gk.mono HWSwe.out))
              have HWSwf := Lib.hid (Nat.le_trans HWSwe.out gk.size)
              have HPwf := Lib.hid (HPwe.out.kept gk)
              obtain ⟨e0, e1, e2, e3, e4⟩ := HCE.out wf HBwf.out
              clear gk
              by_cases hgt : room < (hd : Int)
              · have hgt2 : (hd : Int) > n := by have := HROOM.out; omega
                go_wp2_with fail
                with_reducible refine (CHD.out _ HPwf.out).mono ?_
                rintro e wg ⟨rfl, gk⟩
                have HBwg := Lib.hid (HBwf.out.trans (gk.mono HWSwf.out))
                have HWSwg := Lib.hid (Nat.le_trans HWSwf.out gk.size)
                have HPwg := Lib.hid (HPwf.out.kept gk)
                obtain ⟨e0, e1, e2, e3, e4⟩ := HCE.out wg HBwg.out
                clear gk
                clear e0 e1 e2 e3 e4 ck
                go_wp2
                go_ret
                exact ⟨rfl, HBW.out.trans HBwg.out⟩
              · have hgt2 : ¬ (hd : Int) > n := by have := HROOM.out; omega
                have HGT := Lib.hid hgt
                clear hgt
                go_wp2_with fail
                with_reducible refine (CHD.out _ HPwf.out).mono ?_
                rintro e wg ⟨rfl, gk⟩
                have HBwg := Lib.hid (HBwf.out.trans (gk.mono HWSwf.out))
                have HWSwg := Lib.hid (Nat.le_trans HWSwf.out gk.size)
                have HPwg := Lib.hid (HPwf.out.kept gk)
                obtain ⟨e0, e1, e2, e3, e4⟩ := HCE.out wg HBwg.out
                clear gk
                clear ck
                clear e0 e1 e2 e3 e4
                go_wp2
                go_roundw
                case rel => exact ⟨q + 1, D, by omega, by simp, HGN.out, HPwg.out, HBW.out.trans HBwg.out, HUU.out.below HBwg.out, HR9.out, by rw [HHDD.out]; have := HGT.out; omega⟩
                case measure => simp [intOf]; omega
            · have hK9b : (((K : Nat) : Int) != 9) = true := by rw [bne_iff_ne]; omega
              have hK9c : (((K : Nat) : Int) == 9) = false := by rw [beq_eq_false_iff_ne]; omega
              have hsp := HSP.out (by rw [HKO.out]; exact HK6.out) (by rw [HKO.out]; have := HKL.out; omega)
              obtain ⟨hs1, hs2, hs3⟩ := hsp
              have HS1 := Lib.hid hs1
              have HS2 : Hid (D.room = room) := Lib.hid (hs2.trans HR.out)
              have hgt2 : ¬ (hd : Int) > n := by have := HROOM.out; have := HR.out; omega
              rw [HKO.out] at hs3
              have HS3 := Lib.hid hs3
              clear hK9 hs1 hs2 hs3
              by_cases hE : E = 10
              · subst hE
                obtain rfl : K = 1 := HS3.out (by trivial)
                clear hK9b hK9c
                go_wp2_with fail
                with_reducible refine (ck _).mono ?_
                rintro e we ⟨rfl, gk⟩
                have HBwe := Lib.hid (HBwd.out.trans (gk.mono HWSwd.out))
                have HWSwe := Lib.hid (Nat.le_trans HWSwd.out gk.size)
                have HPwe := Lib.hid (HPwd.out.kept gk)
                obtain ⟨e0, e1, e2, e3, e4⟩ := HCE.out we HBwe.out
                clear gk
                go_wp2_with fail
                with_reducible refine (CHD.out _ HPwe.out).mono ?_
                rintro e wf ⟨rfl, gk⟩
                have HBwf := Lib.hid (HBwe.out.trans (gk.mono HWSwe.out))
                have HWSwf := Lib.hid (Nat.le_trans HWSwe.out gk.size)
                have HPwf := Lib.hid (HPwe.out.kept gk)
                obtain ⟨e0, e1, e2, e3, e4⟩ := HCE.out wf HBwf.out
                clear gk
                go_wp2_with fail
                with_reducible refine (ck _).mono ?_
                rintro e wg ⟨rfl, gk⟩
                have HBwg := Lib.hid (HBwf.out.trans (gk.mono HWSwf.out))
                have HWSwg := Lib.hid (Nat.le_trans HWSwf.out gk.size)
                have HPwg := Lib.hid (HPwf.out.kept gk)
                obtain ⟨e0, e1, e2, e3, e4⟩ := HCE.out wg HBwg.out
                clear gk
                go_wp2_with fail
                with_reducible refine (ck _).mono ?_
                rintro e wh ⟨rfl, gk⟩
                have HBwh := Lib.hid (HBwg.out.trans (gk.mono HWSwg.out))
                have HWSwh := Lib.hid (Nat.le_trans HWSwg.out gk.size)
                have HPwh := Lib.hid (HPwg.out.kept gk)
                obtain ⟨e0, e1, e2, e3, e4⟩ := HCE.out wh HBwh.out
                clear gk
                clear ck
                clear e0 e1 e2 e3 e4
                go_wp2
                go_roundw
                case rel => exact ⟨q + 1, D, by omega, by simp, HGN.out, HPwh.out, HBW.out.trans HBwh.out, HUU.out.below HBwh.out, HS2.out, by rw [HHDD.out]; have := HS1.out; have := HR.out; omega⟩
                case measure => simp [intOf]; omega
              · have hEb : (((E : Nat) : Int) == 10) = false := by rw [beq_eq_false_iff_ne]; omega
                clear hE
                go_wp2_with fail
                with_reducible refine (ck _).mono ?_
                rintro e we ⟨rfl, gk⟩
                have HBwe := Lib.hid (HBwd.out.trans (gk.mono HWSwd.out))
                have HWSwe := Lib.hid (Nat.le_trans HWSwd.out gk.size)
                have HPwe := Lib.hid (HPwd.out.kept gk)
                obtain ⟨e0, e1, e2, e3, e4⟩ := HCE.out we HBwe.out
                clear gk
                go_wp2_with fail
                with_reducible refine (CHD.out _ HPwe.out).mono ?_
                rintro e wf ⟨rfl, gk⟩
                have HBwf := Lib.hid (HBwe.out.trans (gk.mono HWSwe.out))
                have HWSwf := Lib.hid (Nat.le_trans HWSwe.out gk.size)
                have HPwf := Lib.hid (HPwe.out.kept gk)
                obtain ⟨e0, e1, e2, e3, e4⟩ := HCE.out wf HBwf.out
                clear gk
                go_wp2_with fail
                with_reducible refine (ck _).mono ?_
                rintro e wg ⟨rfl, gk⟩
                have HBwg := Lib.hid (HBwf.out.trans (gk.mono HWSwf.out))
                have HWSwg := Lib.hid (Nat.le_trans HWSwf.out gk.size)
                have HPwg := Lib.hid (HPwf.out.kept gk)
                obtain ⟨e0, e1, e2, e3, e4⟩ := HCE.out wg HBwg.out
                clear gk
                clear ck
                clear e0 e1 e2 e3 e4
                go_wp2
                go_roundw
                case rel => exact ⟨q + 1, D, by omega, by simp, HGN.out, HPwg.out, HBW.out.trans HBwg.out, HUU.out.below HBwg.out, HS2.out, by rw [HHDD.out]; have := HS1.out; have := HR.out; omega⟩
                case measure => simp [intOf]; omega
      · obtain rfl : q = M.length := by omega
        have hqi : ¬ (M.length : Int) < (M.length : Int) := by omega
        clear hG hP hB hU hr hh
        go_wp2
        go_ret
        exact ⟨rfl, HB.out⟩
end Go.Proofs.Ytfkdkdkdpenblaa
