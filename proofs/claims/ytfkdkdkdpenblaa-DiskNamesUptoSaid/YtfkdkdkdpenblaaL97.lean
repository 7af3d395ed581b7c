/-
  The laws of disk: names in order, each once, each with a file.
-/
import Derived.Test.YtfkdkdkdpenblaaL94
namespace Go.Proofs.Ytfkdkdkdpenblaa
open Go.RowKit
theorem Dk.names_at {d : Dk.D} (h : Dk.Inv d) (hr : Dk.Rt d) (j : Nat) (hj : j < (Dk.names d).length) (hl : ((Dk.names d).getD j []).length ≤ 1048576) :
    (Dk.names d).getD j [] = (d.dir.getD j ([], 0)).1 ∧ (Dk.read d ((Dk.names d).getD j [])).2 = 0 ∧ (Dk.read d ((Dk.names d).getD j [])).1 = (Dk.file d.files (d.dir.getD j ([], 0)).2).1 ∧ Dk.right ((Dk.names d).getD j []) = true ∧ ((Dk.names d).getD j []).length ≤ 1048576 := by
  have hj2 : j < d.dir.length := by unfold Dk.names at hj; rwa [List.length_map] at hj
  have e : (Dk.names d).getD j [] = d.dir[j].1 := by
    unfold Dk.names
    rw [List.getD, List.getElem?_map, List.getElem?_eq_getElem hj2]
    rfl
  have e2 : d.dir.getD j ([], 0) = d.dir[j] := by rw [List.getD, List.getElem?_eq_getElem hj2]; rfl
  have hm : (d.dir[j].1, d.dir[j].2) ∈ d.dir := List.getElem_mem hj2
  have hk := (Dk.look_some h.dir.asc).2 hm
  rw [e2]
  refine ⟨e, ?_, ?_, ?_, hl⟩
  · rw [e]; unfold Dk.read; rw [hk]
  · rw [e]; unfold Dk.read; rw [hk]
  · rw [e]; exact hr.dir _ (List.getElem_mem hj2)
theorem Dk.names_lt {d : Dk.D} (h : Dk.Inv d) (j : Nat) (hj : j + 1 < (Dk.names d).length) : Op.bytesLess ((Dk.names d).getD j []) ((Dk.names d).getD (j + 1) []) = true := by
  have hj2 : j + 1 < d.dir.length := by unfold Dk.names at hj; rwa [List.length_map] at hj
  have e : ∀ i, i < d.dir.length → (Dk.names d).getD i [] = (d.dir.getD i ([], 0)).1 := fun i hi => by
    unfold Dk.names
    rw [List.getD, List.getElem?_map, List.getD, List.getElem?_eq_getElem hi]
    rfl
  rw [e j (by omega), e (j + 1) hj2]
  have := List.pairwise_iff_getElem.1 h.dir.asc j (j + 1) (by omega) hj2 (by omega)
  rw [List.getD, List.getD, List.getElem?_eq_getElem (by omega : j < d.dir.length), List.getElem?_eq_getElem hj2]
  exact this
set_option maxHeartbeats 4000000 in
set_option maxRecDepth 100000 in
theorem Dk.lawNames_w (n : Int) (v : Value) (L : List Dk.Step) (w : World) (hn : Ty.I64 n) (hv : Dk.Ops w.heap.size w v L) (hl : L.length ≤ 1048576) (hok : Dk.Steps L) :
    Calls Try.prog 10 #[.int .i64 n, v] w fun e w' => e = .returned (.bool true) ∧ Below w.heap.size w w' := by
  have cl := Dk.lives_c w
  have CE : Hid (∀ W, Below w.heap.size w W → Calls Try.prog 12 #[v] W fun e w' => ∃ u, e = .returned u ∧ Dk.Ops w.heap.size W u (L.take 300) ∧ w' = W) := Lib.hid fun W g => Dk.early_c (hv.below g) hl
  have CN : Hid (∀ W, Below w.heap.size w W → Calls Try.prog 13 #[.int .i64 n] W fun e w' => ∃ p, e = .returned (.pointer (some ⟨p, 0, none⟩)) ∧ Dk.PL w.heap.size w' p (Dk.new n) ∧ Below w.heap.size W w') := Lib.hid fun W g => Dk.new_PL hn _ g.size
  have HG0 := Lib.hid (Dk.Good.new n hn.2)
  have HM : Hid (Dk.Steps (L.take 300) ∧ (L.take 300).length ≤ 300) := Lib.hid ⟨hok.take 300, List.length_take_le _ _⟩
  generalize L.take 300 = M at CE HM
  clear hv hl hok hn
  go_enter Try.func10, Try.ntmps10
  go_wp2_with fail
  with_reducible refine cl.mono ?_
  rintro e w1 ⟨rfl, g1⟩
  have ce := CE.out w1 g1
  have cn := CN.out w1 g1
  have HB1 := Lib.hid g1
  clear cl g1 CE CN
  go_wp2_with fail
  with_reducible refine ce.mono ?_
  rintro e w2 ⟨u, rfl, hu, h2⟩
  subst w2
  have HU := Lib.hid hu
  obtain ⟨aU, cU, hvU, _⟩ := hu.is
  subst hvU
  clear ce hu
  go_wp2_with fail
  with_reducible refine cn.mono ?_
  rintro e w3 ⟨p, rfl, hp, g3⟩
  have HU3 := Lib.hid (HU.out.below g3)
  have HP3 := Lib.hid hp
  have HB3 := Lib.hid (HB1.out.trans g3)
  have hml := HM.out.2
  clear cn hp g3
  go_wp2
  go_loopw [6, 7, 8, 9, 10, 11] (fun i _ _ _ _ _ wr => ∃ (q : Nat) (d : Dk.D), q ≤ M.length ∧ i = .int .i64 q ∧ Dk.Good q d ∧ Dk.PL w.heap.size wr p d ∧ Below w.heap.size w wr ∧ Dk.Ops w.heap.size wr (.slice aU M.length cU) M ∧ Dk.Rt d) (fun i _ _ _ _ _ _ => M.length - (intOf i).toNat)
  case atStart => exact ⟨0, Dk.new n, by omega, rfl, HG0.out, HP3.out, HB3.out, HU3.out, Dk.Rt.new n⟩
  case round =>
    obtain ⟨q, d, hq, rfl, hG, hP, hB, hU, hr⟩ := hrel
    have HG := Lib.hid hG
    have HP := Lib.hid hP
    have HB := Lib.hid hB
    have HUU := Lib.hid hU
    have HR := Lib.hid hr
    have hq0 : (0 : Int) ≤ (q : Int) := by omega
    by_cases hql : q < M.length
    · obtain ⟨x, hx⟩ : ∃ x, M[q]? = some x := ⟨_, List.getElem?_eq_getElem hql⟩
      have hxo := HM.out.1 x (List.mem_of_getElem? hx)
      obtain ⟨a', c', he, _, hbB, hh2⟩ := hU.is
      simp only [Value.slice.injEq, true_and] at he
      obtain ⟨rfl, rfl⟩ := he
      rcases hh2 with ⟨h0, _⟩ | ⟨b, o, rfl, hbl, hh2⟩
      · rw [h0] at hql; simp at hql
      · obtain ⟨e0, e1, e2, e3, vK, e4, hK⟩ := hh2 q x hx
        have hKF := hK.is
        obtain ⟨aK, cK, hvK, _⟩ := hKF
        have cd := Dk.does_PL hP HG.out (by have := HM.out.2; omega) hxo hK
        have HGN := Lib.hid (HG.out.op hxo)
        have HRN := Lib.hid (HR.out.step x.op)
        rw [hvK] at cd e4
        generalize Dk.step d x.op = r at cd HGN HRN
        obtain ⟨D, E⟩ := r
        simp only at cd HGN HRN
        generalize Ty.S x.a = sa at cd e1
        generalize Ty.S x.b = sb at cd e2
        have hqi : (q : Int) < (M.length : Int) := by omega
        have HQL := Lib.hid hql
        clear hxo hh2 hK hvK hG hP hB hU hr hql hx
        go_wp2_with fail
        with_reducible refine cd.mono ?_
        rintro e wd ⟨rfl, hPd, gd⟩
        have HPd := Lib.hid hPd
        have HBd := Lib.hid (HB.out.trans gd)
        have HUd := Lib.hid (HUU.out.below gd)
        have hqn : q + 1 ≤ 100000 := by have := HM.out.2; omega
        have HQN := Lib.hid hqn
        have cnm := HPd.out.read fun S h' => Dk.pnames_c h' (HGN.out.fit hqn)
        clear cd hPd gd e0 e1 e2 e3 e4 hqn
        go_wp2_with fail
        with_reducible refine cnm.mono ?_
        rintro e wn ⟨vn, rfl, hN, gn⟩
        have HN := Lib.hid hN
        have HPn := Lib.hid (HPd.out.kept gn)
        have HBn := Lib.hid (HBd.out.trans (gn.mono HBd.out.size))
        have HUn := Lib.hid (HUd.out.below (gn.mono HBd.out.size))
        obtain ⟨aN, cN, hvN⟩ := Dk.own_slice hN
        subst hvN
        have hnl := Dk.names_len HGN.out
        have HLEN : Hid ((Dk.names D).length = D.dir.length) := Lib.hid (by unfold Dk.names; exact List.length_map ..)
        have HNM : Hid (∀ j, j < (Dk.names D).length → (Dk.names D).getD j [] = (D.dir.getD j ([], 0)).1 ∧ (Dk.read D ((Dk.names D).getD j [])).2 = 0 ∧ (Dk.read D ((Dk.names D).getD j [])).1 = (Dk.file D.files (D.dir.getD j ([], 0)).2).1 ∧ Dk.right ((Dk.names D).getD j []) = true ∧ ((Dk.names D).getD j []).length ≤ 1048576) := Lib.hid fun j hj => Dk.names_at HGN.out.inv HRN.out j hj (Dk.name_short HGN.out j)
        have HORD : Hid (∀ j, j + 1 < (Dk.names D).length → Op.bytesLess ((Dk.names D).getD j []) ((Dk.names D).getD (j + 1) []) = true) := Lib.hid fun j hj => Dk.names_lt HGN.out.inv j hj
        have HSUM : Hid (∀ k, k < (Dk.names D).length → Dk.heldL D.files (D.dir.take (k + 1)) = Dk.heldL D.files (D.dir.take k) + (Dk.file D.files (D.dir.getD k ([], 0)).2).1.length) := Lib.hid fun k hk => Dk.held_snoc (by rw [← HLEN.out]; exact hk)
        have HBD : Hid (∀ k, Dk.heldL D.files (D.dir.take k) ≤ 1099511627776) := Lib.hid fun k => Nat.le_trans (Dk.held_take _ _ _) (Nat.le_trans HGN.out.inv.held (HGN.out.fit HQN.out).size)
        have CRD : Hid (∀ W t, Below wn.heap.size wn W → t.length ≤ 1048576 → Calls Try.prog 19 #[.pointer (some ⟨p, 0, none⟩), .string (Ty.S t)] W fun e w' => e = .returned (.tuple #[.string (Ty.S (Dk.read D t).1), .int .i64 (((Dk.read D t).2 : Nat) : Int)]) ∧ Below W.heap.size W w') := Lib.hid fun W t g ht => (HPn.out.kept g).read fun S h' => Dk.pread_c h' (HGN.out.fit HQN.out) t (by omega)
        have CHD : Hid (∀ W, Below wn.heap.size wn W → Calls Try.prog 17 #[.pointer (some ⟨p, 0, none⟩)] W fun e w' => e = .returned (.int .i64 ((Dk.held D : Nat) : Int)) ∧ Below W.heap.size W w') := Lib.hid fun W g => (HPn.out.kept g).read fun S h' => Dk.pheld_c h' (HGN.out.fit HQN.out)
        have HHELD : Hid (Dk.heldL D.files (D.dir.take (Dk.names D).length) = Dk.held D) := Lib.hid (by rw [HLEN.out, List.take_length]; rfl)
        generalize Dk.names D = Nm at HN HLEN HNM HORD HSUM HHELD hnl
        clear cnm hN gn hml
        go_wp2_with fail
        go_loopw [8, 9, 10, 11] (fun nv i _ _ wr => ∃ k : Nat, k ≤ Nm.length ∧ i = .int .i64 k ∧ nv = .int .i64 (Dk.heldL D.files (D.dir.take k) : Nat) ∧ Below wn.heap.size wn wr) (fun _ i _ _ _ => Nm.length - (intOf i).toNat)
        case atStart => exact ⟨0, by omega, rfl, rfl, Below.refl _ _⟩
        case round =>
          obtain ⟨k, hk, rfl, rfl, hB⟩ := hrel
          have HBk := Lib.hid hB
          have hws := hB.size
          have hk0 : (0 : Int) ≤ (k : Int) := by omega
          by_cases hkl : k < Nm.length
          · obtain ⟨g, c, he, hcell⟩ := Dk.own_at HN.out hkl
            simp only [Value.slice.injEq, true_and] at he
            obtain ⟨rfl, rfl⟩ := he
            have HC := Lib.hid (fun (j : Nat) (hj : j < Nm.length) (W : World) (gW : Below wn.heap.size wn W) => by
              obtain ⟨g2, c2, he2, hc2⟩ := Dk.own_at HN.out hj
              simp only [Value.slice.injEq, Option.some.injEq, Addr.mk.injEq, true_and, and_true] at he2
              obtain ⟨rfl, rfl⟩ := he2
              exact (gW.cell (p := ⟨g, j, none⟩) (World.block_lt_of_cell? wn _ hc2)).trans hc2 : ∀ (j : Nat), j < Nm.length → ∀ (W : World), Below wn.heap.size wn W → W.cell? ⟨g, j, none⟩ = some (.string (Ty.S (Nm.getD j []))))
            have hcell2 := HC.out k hkl wr hB
            obtain ⟨m1, m2, m3, m4, m5⟩ := HNM.out k hkl
            have cr := CRD.out wr (Nm.getD k []) hB m5
            rw [m2, m3] at cr
            have CRR : Hid (∀ W, Calls Try.prog 33 #[.string (Ty.S (Nm.getD k []))] W fun e w' => e = .returned (.bool true) ∧ w' = W) := Lib.hid fun W => by
              have := Dk.rright_c (Ty.S (Nm.getD k [])) (by rw [Ty.size_S]; omega) W
              rw [Ty.data_S, m4] at this
              exact this
            have HSM := Lib.hid (HSUM.out k hkl)
            have hb1 := HBD.out k
            have hb2 := HBD.out (k + 1)
            rw [HSM.out] at hb2
            generalize Dk.heldL D.files (D.dir.take k) = A at HSM hb1 hb2 ⊢
            have hsx : (Ty.S (Dk.file D.files (D.dir.getD k ([], 0)).2).1).size = (Dk.file D.files (D.dir.getD k ([], 0)).2).1.length := Ty.size_S _
            generalize (Dk.file D.files (D.dir.getD k ([], 0)).2).1 = X at cr HSM hb2 hsx
            generalize Ty.S X = sx at cr hsx
            have hki : (k : Int) < (Nm.length : Int) := by omega
            have hkj : (k : Int) ≤ 100000 := by have := HQN.out; omega
            rw [List.getD_eq_getElem?_getD] at cr
            have HKL := Lib.hid hkl
            clear hB hk hkl m1 m2 m3 m4 m5
            go_wp2_with fail
            with_reducible refine cr.mono ?_
            rintro e we ⟨rfl, ge⟩
            have HBe := Lib.hid (HBk.out.trans (ge.mono hws))
            have hce := HC.out k HKL.out we HBe.out
            rw [List.getD_eq_getElem?_getD] at hce
            clear cr ge
            have CR2 : ∀ W, Calls Try.prog 33 #[.string (Ty.S (Nm[k]?.getD []))] W fun e w' => e = .returned (.bool true) ∧ w' = W := by
              have := CRR.out
              rw [List.getD_eq_getElem?_getD] at this
              exact this
            have CR3 := Lib.hid CR2
            by_cases hk1 : k = 0
            · have hd : decide ((k : Int) > 0) = false := by rw [hk1]; rfl
              have hd2 : decide (0 < k) = false := by rw [hk1]; rfl
              have hd3 : ¬ 0 < k := by omega
              generalize Ty.S (Nm[k]?.getD []) = sk at hce CR3
              clear CR2 hk1
              go_wp2_with fail
              go_quiet ((go_at_call 33; exact Calls.quiet_of_same (CR3.out _)))
              clear hce
              go_wp2
              go_roundw
              case rel => exact ⟨k + 1, by have := HKL.out; omega, by simp, by rw [HSM.out]; simp, HBe.out.trans ((Bt.drewN_below _ _).mono HBe.out.size)⟩
              case measure => have := HKL.out; simp [intOf]; omega
            · have hk2 : 0 < k := by omega
              have hk3 : decide (0 < k) = true := by simpa using hk2
              have hcp := HC.out (k - 1) (by have := HKL.out; omega) we HBe.out
              have hlt := HORD.out (k - 1) (by have := HKL.out; omega)
              rw [show k - 1 + 1 = k by omega] at hlt
              rw [List.getD_eq_getElem?_getD] at hcp
              rw [List.getD_eq_getElem?_getD, List.getD_eq_getElem?_getD] at hlt
              rw [← Ty.data_S (Nm[k]?.getD []), ← Ty.data_S (Nm[k - 1]?.getD [])] at hlt
              generalize Ty.S (Nm[k]?.getD []) = sk at hce CR3 hlt
              generalize Ty.S (Nm[k - 1]?.getD []) = sp at hcp hlt
              have hl2 : Op.bytesLess sp.toList sk.toList = true := by rw [ByteArray.toList_eq, ByteArray.toList_eq]; exact hlt
              clear hlt
              have hp4 : IntKind.i64.wrap ((k : Int) - 1) = ((k - 1 : Nat) : Int) := by rw [show ((k - 1 : Nat) : Int) = (k : Int) - 1 by omega]; exact IntWalk.i64_in _ (by omega)
              have hp1 : ((k - 1 : Nat) : Int) < (Nm.length : Int) := by omega
              generalize k - 1 = j at hcp hp4 hp1
              clear CR2 hk1
              go_wp2_with fail
              go_quiet ((go_at_call 33; exact Calls.quiet_of_same (CR3.out _)))
              clear hce hcp hl2 hp1 hp4
              go_wp2
              go_roundw
              case rel => exact ⟨k + 1, by have := HKL.out; omega, by simp, by rw [HSM.out]; simp, HBe.out.trans ((Bt.drewN_below _ _).mono HBe.out.size)⟩
              case measure => have := HKL.out; simp [intOf]; omega
          · obtain rfl : k = Nm.length := by omega
            have hki : ¬ (Nm.length : Int) < (Nm.length : Int) := by omega
            have ch := CHD.out wr hB
            rw [HHELD.out]
            clear hB hk hkl
            go_wp2_with fail
            with_reducible refine ch.mono ?_
            rintro e wh ⟨rfl, gh⟩
            have HBh := Lib.hid (HBn.out.trans ((HBk.out.trans (gh.mono hws)).mono HBn.out.size))
            have HUh := Lib.hid (HUn.out.below ((HBk.out.trans (gh.mono hws)).mono HBn.out.size))
            have HPh := Lib.hid (HPn.out.kept (HBk.out.trans (gh.mono hws)))
            have hqj : (q : Int) + 1 ≤ 100000 := by have := HQN.out; omega
            clear ch gh
            go_wp2
            go_roundw
            case rel => exact ⟨q + 1, D, by have := HQL.out; omega, by simp, HGN.out, HPh.out, HBh.out, HUh.out, HRN.out⟩
            case measure => have := HQL.out; simp [intOf]; omega
    · obtain rfl : q = M.length := by omega
      have hqi : ¬ (M.length : Int) < (M.length : Int) := by omega
      clear hG hP hB hU hr
      go_wp2
      go_ret
      exact ⟨rfl, HB.out⟩
end Go.Proofs.Ytfkdkdkdpenblaa
