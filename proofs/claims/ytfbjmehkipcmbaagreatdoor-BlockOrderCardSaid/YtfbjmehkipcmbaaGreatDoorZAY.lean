/-
  The program's bits.Untruths, column.join and column.Read once more: what they answer is new. Written by gen_o5.py.
  The plain mathematics of block's reader, as the code has it: what it leaves, step by step; that is the document's answer. No program.
  Contracts of package block: the reader, and its flags.
  Contracts of package block: the reader's columns: deeds whose rows have been made are filled, column by column.
-/
import Derived.Test.YtfbjmehkipcmbaaGreatDoorZAS
import Derived.Test.YtfbjmehkipcmbaaGreatDoorZAX
import Derived.Test.YtfbjmehkipcmbaaGreatDoorZAQ
import Derived.Test.YtfbjmehkipcmbaaGreatDoorZAU
import Derived.Test.YtfbjmehkipcmbaaGreatDoorZAF
import Derived.Test.YtfbjmehkipcmbaaGreatDoorZAT
import Derived.Test.YtfbjmehkipcmbaaGreatDoorZAL
import Derived.Deep.RegionHeld3
namespace Go.Proofs.YtfbjmehkipcmbaaGreatDoor
open Go.RowKit
open Ty (num)
set_option maxHeartbeats 1000000 in
set_option maxRecDepth 100000 in
theorem Bk.untruths_c (s : ByteArray) (z : Int) (w : World) (hs : s.size ≤ 140737488355328) :
    Calls Tryz.prog 86 #[.string s, .int .i64 z] w fun e w' => ∃ v, e = .returned (.tuple #[v, .int .i64 (Bt.utE s z : Nat)]) ∧ Bt.Sl w' v (Bt.utN s z) (Bt.bv (Bt.bit s)) ∧ Dd.Fresh w.heap.size v ∧ Below w.heap.size w w' := by
  have c0 := Bt.rightCount_c z
  by_cases hz : 0 ≤ z ∧ z ≤ 65536
  · rw [decide_eq_true hz] at c0
    obtain ⟨n, rfl⟩ := Int.eq_ofNat_of_zero_le hz.1
    have hn : n ≤ 65536 := by omega
    have c1 := fun w => Bt.check_c s n w (by omega) (by omega)
    have e1 : Bt.utE s (n : Int) = Bt.chk s n := by unfold Bt.utE; rw [if_pos hz]; rfl
    have e2 : Bt.utN s (n : Int) = if Bt.chk s n = 0 then n else 0 := by unfold Bt.utN; rw [e1]; rfl
    rw [e1, e2]
    by_cases hc : Bt.chk s n = 0
    · rw [if_pos hc]
      obtain ⟨hsz, _⟩ := Bt.chk_ok hc
      have hroom := (Bt.need_room n).1
      rw [hc] at c1 ⊢
      have hmk := run_make_row' (P := Tryz.prog) 49 4 (.bool false) 1 Tryz.underlying49 Bt.infoB rfl .i64 .i64 n (by omega) (by omega)
      have HS : Hid (n ≤ 8 * s.size) := Lib.hid (by omega)
      clear hsz hroom hc e1 e2 hz
      go_enter Tryz.func86, Tryz.ntmps86
      go_wp2_with fail
      refine (c0 _).mono ?_
      rintro e w0 ⟨rfl, rfl⟩
      go_wp2_with fail
      refine (c1 _).mono ?_
      rintro e w1 ⟨rfl, rfl⟩
      go_wp2_with fail
      have hR : (w1.alloc (.cells (madeCells #[.bool false] n) 4)).rowIs w1.heap.size 4 n (Bt.upTo 0 (Bt.bv (Bt.bit s)) (.bool false)) := (World.rowIs_made w1 (.bool false) n 4).congr fun i _ => by unfold Bt.upTo; rw [if_neg (by omega)]
      have hB : Below w1.heap.size w1 (w1.alloc (.cells (madeCells #[.bool false] n) 4)) := (Below.refl _ _).alloc (Nat.le_refl _) _
      generalize w1.alloc (.cells (madeCells #[.bool false] n) 4) = w2 at hR hB ⊢
      clear hmk c0 c1
      generalize hg : w1.heap.size = g at hR hB
      have HGE := Lib.hid hg
      clear hg
      go_loopw [21] (fun i wr => ∃ k : Nat, k ≤ n ∧ i = .int .i64 k ∧ wr.rowIs g 4 n (Bt.upTo k (Bt.bv (Bt.bit s)) (.bool false)) ∧ Below g w1 wr) (fun i _ => n - (intOf i).toNat)
      case atStart => exact ⟨0, by omega, rfl, hR, hB⟩
      case round =>
        obtain ⟨k, hk, rfl, hRk, hBk⟩ := hrel
        have HR := Lib.hid hRk
        clear hR hB hRk
        by_cases hl : k < n
        · have hkl : (k : Int) < (n : Int) := by omega
          have hk0 : (0 : Int) ≤ (k : Int) := by omega
          have hf := HR.out.frozen k
          have cg := fun w => Bt.get_c s k 1 w (by omega) (by have := HS.out; omega) (by omega)
          rw [Bt.num_one] at cg
          simp only [Nat.add_zero] at cg
          have hcl := HR.out.cell hl
          cases hb : Bt.bit s k
          · rw [hb] at cg
            have HBT := Lib.hid hb
            clear hb
            go_wp2_with fail
            refine (cg _).mono ?_
            rintro e w3 ⟨rfl, rfl⟩
            go_wp2
            go_roundw
            case rel => exact ⟨k + 1, by omega, by simp, Bt.upTo_next HR.out (by unfold Bt.bv; rw [HBT.out]), hBk.trans (Bt.below_set (Nat.le_refl _) _)⟩
            case measure => simp [intOf]; omega
          · rw [hb] at cg
            have HBT := Lib.hid hb
            clear hb
            go_wp2_with fail
            refine (cg _).mono ?_
            rintro e w3 ⟨rfl, rfl⟩
            go_wp2
            go_roundw
            case rel => exact ⟨k + 1, by omega, by simp, Bt.upTo_next HR.out (by unfold Bt.bv; rw [HBT.out]), hBk.trans (Bt.below_set (Nat.le_refl _) _)⟩
            case measure => simp [intOf]; omega
        · obtain rfl : k = n := by omega
          have hkl : ¬ (k : Int) < (k : Int) := by omega
          go_wp2
          go_ret2
          exact ⟨_, rfl, Bt.Sl.row (HR.out.congr fun i hi => by unfold Bt.upTo; rw [if_pos hi]), (fun b hb => by cases hb; rw [HGE.out]; exact Nat.le_refl _), by rw [HGE.out]; exact hBk⟩
    · rw [if_neg hc]
      generalize Bt.chk s n = C at hc c1 ⊢
      have hC : ((C : Int) != 0) = true := by rw [bne_iff_ne]; omega
      clear e1 e2 hz hc
      go_enter Tryz.func86, Tryz.ntmps86
      go_wp2_with fail
      refine (c0 _).mono ?_
      rintro e w0 ⟨rfl, rfl⟩
      go_wp2_with fail
      refine (c1 _).mono ?_
      rintro e w1 ⟨rfl, rfl⟩
      go_wp2
      go_ret2
      exact ⟨_, rfl, Bt.Sl.nil _ _, Dd.Fresh.nil _, Below.refl _ _⟩
  · rw [decide_eq_false hz] at c0
    have e1 : Bt.utE s z = 1 := by unfold Bt.utE; rw [if_neg hz]
    have e2 : Bt.utN s z = 0 := by unfold Bt.utN; rw [e1]; rfl
    rw [e1, e2]
    clear e1 e2 hz
    go_enter Tryz.func86, Tryz.ntmps86
    go_wp2_with fail
    refine (c0 _).mono ?_
    rintro e w0 ⟨rfl, rfl⟩
    go_wp2
    go_ret2
    exact ⟨_, rfl, Bt.Sl.nil _ _, Dd.Fresh.nil _, Below.refl _ _⟩
set_option maxHeartbeats 2000000 in
set_option maxRecDepth 100000 in
theorem Bk.join_c (v u : Value) (n : Nat) (F : Nat → Bool) (M : List Kn.V) (w : World) (hv : Bt.Sl w v n (Bt.bv F)) (hu : Kn.Vals w u M) (hn : n ≤ 65536) (hM : M.length = Cl.cnt F n) :
    Calls Tryz.prog 109 #[v, u] w fun e w' => ∃ O p, e = .returned p ∧ Cl.fill ((List.range n).map F) M = some O ∧ Kn.Vals w' p O ∧ Dd.Fresh w.heap.size p ∧ Below w.heap.size w w' := by
  obtain ⟨a, cp, rfl, h⟩ := hv
  obtain ⟨a2, cp2, rfl, h2⟩ := hu
  have HH := Lib.hid h
  have HH2 := Lib.hid h2
  have hmk := Cl.run_makeV n (by omega)
  have HM0 := Lib.hid (Cl.MidF.start ((List.range n).map F) M)
  have hTl : ((List.range n).map F).length = n := by simp
  have HTG : Hid (∀ k, k < n → ((List.range n).map F)[k]? = some (F k)) := Lib.hid fun k hk => by rw [List.getElem?_map, List.getElem?_range hk]; rfl
  have HN := Lib.hid hn
  have HML := Lib.hid hM
  have HCM : Hid (∀ k, k < n → F k = false → Cl.cnt F k + 1 ≤ M.length) := Lib.hid fun k hk hf => by
    have := Cl.cnt_mono F (show k + 1 ≤ n by omega)
    rw [Cl.cnt_live hf] at this
    omega
  generalize (List.range n).map F = T at HM0 hTl HTG ⊢
  have HTL := Lib.hid hTl
  clear h h2 hTl hM hn
  go_enter Tryz.func109, Tryz.ntmps109
  go_wp2_with fail
  have hR := Cl.Row.start (w := w) (n := n)
  have hB : Below w.heap.size w (w.alloc (.cells (madeCells #[.bool false, .int .i64 0, .string ⟨#[]⟩] (n * 3)) 42)) := (Below.refl _ _).alloc (Nat.le_refl _) _
  generalize w.alloc _ = w2 at hR hB ⊢
  clear hmk
  obtain ⟨g, hg⟩ : ∃ g, g = w.heap.size := ⟨_, rfl⟩
  rw [← hg] at hR hB ⊢
  have HGE := Lib.hid hg
  clear hg
  go_loopw [6, 14] (fun j i wr => ∃ (k : Nat) (O : List Kn.V), k ≤ n ∧ i = .int .i64 k ∧ j = .int .i64 (Cl.cnt F k : Nat) ∧ Cl.MidF T M k (Cl.cnt F k) O ∧ Cl.Row wr g n (Cl.fo O) ∧ Below g w wr) (fun _ i _ => n - (intOf i).toNat)
  case atStart => exact ⟨0, [], by omega, rfl, rfl, HM0.out, hR, hB⟩
  case round =>
    obtain ⟨k, O, hk, rfl, rfl, hM, hRk, hBk⟩ := hrel
    have HR := Lib.hid hRk
    have HB := Lib.hid hBk
    have HM := Lib.hid hM
    have HOL := Lib.hid hM.1
    have hgl : g < wr.heap.size := hRk.lt
    clear hR hB hRk hBk hM HM0
    have hj0 : (0 : Int) ≤ (Cl.cnt F k : Int) := by omega
    have hk0 : (0 : Int) ≤ (k : Int) := by omega
    by_cases hl : k < n
    · rcases HH.out with h | ⟨b, o, rfl, hb, h⟩
      · omega
      · have hblg : b < g := by rw [HGE.out]; exact hb
        have hc := (HB.out.cell (p := ⟨b, o + k, none⟩) hblg).trans (h k hl)
        unfold Bt.bv at hc
        have hkl : (k : Int) < (n : Int) := by omega
        have hT := HTG.out k hl
        have hj6 := Cl.cnt_le F k
        have hn6 := HN.out
        cases hF : F k
        · have hJ := HCM.out k hl hF
          have HC := Lib.hid (Cl.cnt_live hF)
          rw [hF] at hc hT
          generalize Cl.cnt F k = j at HM hj0 hj6 hJ HC ⊢
          rcases HH2.out with h2 | ⟨b2, o2, rfl, hb2, hm2, h2⟩
          · exact absurd hJ (by rw [h2]; simp)
          · obtain ⟨x, hx⟩ : ∃ x, M[j]? = some x := ⟨_, List.getElem?_eq_getElem (by omega)⟩
            have hblg2 : b2 < g := by rw [HGE.out]; exact hb2
            have hA := h2 j x hx
            have a0 := (HB.out.cell (p := ⟨b2, o2 + j * 3, none⟩) hblg2).trans hA.c0
            have a1 := (HB.out.cell (p := ⟨b2, o2 + j * 3 + 1, none⟩) hblg2).trans hA.c1
            have a2 := (HB.out.cell (p := ⟨b2, o2 + j * 3 + 2, none⟩) hblg2).trans hA.c2
            have hji : (j : Int) < (M.length : Int) := by omega
            have r0 := HR.out.c0 hl
            have r1 := HR.out.c1 hl
            have r2 := HR.out.c2 hl
            have f0 := World.rowIs.frozen HR.out (k * 3)
            have f1 := World.rowIs.frozen HR.out (k * 3 + 1)
            have f2 := World.rowIs.frozen HR.out (k * 3 + 2)
            have HMN := Lib.hid (HM.out.live hT hx)
            clear h h2 hx hA hm2 hT hF
            go_wp2
            go_roundw
            case rel => exact ⟨k + 1, O ++ [x], by omega, by simp, by rw [HC.out]; simp, by rw [HC.out]; exact HMN.out, HR.out.snoc_v HOL.out x, Cl.below_cell (Cl.below_cell (Cl.below_cell HB.out (Nat.le_refl _) _) (Nat.le_refl _) _) (Nat.le_refl _) _⟩
            case measure => simp [intOf]; omega
        · have HC := Lib.hid (Cl.cnt_null hF)
          rw [hF] at hc hT
          generalize Cl.cnt F k = j at HM hj0 hj6 HC ⊢
          have r0 := HR.out.c0 hl
          have f0 := World.rowIs.frozen HR.out (k * 3)
          have HMN := Lib.hid (HM.out.null hT)
          clear h hT hF
          go_wp2
          go_roundw
          case rel => exact ⟨k + 1, O ++ [Cl.nul], by omega, by simp, by rw [HC.out], by rw [HC.out]; exact HMN.out, HR.out.snoc_nul HOL.out, Cl.below_cell HB.out (Nat.le_refl _) _⟩
          case measure => simp [intOf]; omega
    · obtain rfl : k = n := by omega
      have hkl : ¬ (k : Int) < (k : Int) := by omega
      have hn6 := HN.out
      have HF := Lib.hid (HM.out.done HTL.out.symm HML.out.symm)
      go_wp2
      go_ret
      exact ⟨O, _, rfl, HF.out, HR.out.done HOL.out (by omega), (fun b hb => by cases hb; rw [HGE.out]; exact Nat.le_refl _), by have := HB.out; rwa [HGE.out] at this⟩
set_option maxHeartbeats 4000000 in
set_option maxRecDepth 100000 in
theorem Bk.read6_c (c : Kn.C) (s : ByteArray) (w : World) (hw : Ty.Tabs w) (hs : s.size ≤ 140737488351232) :
    Calls Tryz.prog 88 #[c.val, .string s] w (Bk.GotF w (Cl.rd c s.data.toList)) := by
  have HW : Hid (Ty.Tabs w) := Lib.hid hw
  obtain ⟨R, hR⟩ : ∃ R, R = Cl.rd c s.data.toList := ⟨_, rfl⟩
  rw [← hR]
  have HRR := Lib.hid hR
  clear hR hw
  have CW := Lib.hid fun wz => Cl.schemaWith_c c wz
  have CR : Hid (∀ (v : Value) (wz : World), Kn.Cols wz v (Cl.sch c) → Calls Tryz.prog 16 #[v] wz fun e w' => e = .returned (.bool c.good) ∧ Below wz.heap.size wz w') := Lib.hid fun v wz h => by
    have := Kn.right_c v (Cl.sch c) wz h
    rwa [Cl.sch_right] at this
  have HB0 : Hid (Below w.heap.size w (w.alloc (.cells #[.int .i64 c.k, .bool c.null] 40))) := Lib.hid ((Below.refl _ _).alloc (Nat.le_refl _) _)
  have HX0 := Lib.hid (Kn.cell_new w #[.int .i64 c.k, .bool c.null] 40 0 _ rfl)
  have HX1 := Lib.hid (Kn.cell_new w #[.int .i64 c.k, .bool c.null] 40 1 _ rfl)
  simp only [List.getElem_toArray, List.getElem_cons_zero, List.getElem_cons_succ] at HX0 HX1
  have hsz : (w.alloc (.cells #[.int .i64 c.k, .bool c.null] 40)).heap.size = w.heap.size + 1 := World.size_alloc ..
  unfold Kn.C.val at CW ⊢
  cases hg : c.good
  · rw [hg] at CR
    have HE := Lib.hid (HRR.out.trans (Cl.rd_k hg))
    clear hg
    go_enter Tryz.func88, Tryz.ntmps88
    go_wp2_with fail
    generalize hwo : w.alloc _ = wo at hsz HX0 HX1 HB0 ⊢
    clear hwo
    refine (CW.out _).mono ?_
    rintro e w1 ⟨v, rfl, hS, g1⟩
    have HB1 := Lib.hid (HB0.out.trans (g1.mono HB0.out.size))
    have cr := CR.out _ _ hS
    clear hS g1
    go_wp2_with fail
    refine cr.mono ?_
    rintro e w2 ⟨rfl, g2⟩
    have HB2 := Lib.hid (HB1.out.trans (g2.mono HB1.out.size))
    clear cr g2
    go_wp2
    go_ret2
    exact Bk.GotF.bad HE.out rfl HB2.out
  · rw [hg] at CR
    have HG := Lib.hid hg
    have CN := Lib.hid fun wz hT => Cl.readNulls_c s wz hT hs
    unfold Cl.RN at CN
    have F1 := Lib.hid fun h => HRR.out.trans (Cl.rd_rn HG.out h)
    have F6 := Lib.hid fun h1 h2 h3 => HRR.out.trans (Cl.rd_has HG.out h1 h2 h3)
    have FV := Lib.hid fun h1 h2 => HRR.out.trans (Cl.rd_vals HG.out h1 h2)
    have HVL : Hid ((Cl.vb s.data.toList).length ≤ 140737488351232) := Lib.hid (by
      unfold Cl.vb
      rw [List.length_drop]
      have := Tx.rest_le s.data.toList
      rw [Ty.length_data] at this
      omega)
    have HNL : Hid (Cl.rnE s.data.toList = 0 → (num s.data.toList).1 ≤ 65536) := Lib.hid fun h => by
      have := (Cl.rn_0 h).2.1
      omega
    generalize Cl.rnE s.data.toList = Q at CN F1 F6 FV HNL
    generalize Bt.bit (Cl.bb s.data.toList) = F at CN F6 FV
    generalize Cl.vb s.data.toList = r9 at CN FV HVL
    generalize (num s.data.toList).1 = n at CN F6 FV HNL
    clear hg hs
    go_enter Tryz.func88, Tryz.ntmps88
    go_wp2_with fail
    generalize hwo : w.alloc _ = wo at hsz HX0 HX1 HB0 ⊢
    clear hwo
    refine (CW.out _).mono ?_
    rintro e w1 ⟨v, rfl, hS, g1⟩
    have HB1 := Lib.hid (HB0.out.trans (g1.mono HB0.out.size))
    have HY1 := Lib.hid (And.intro ((g1.cell (p := ⟨w.heap.size, 0, none⟩) (by simp [hsz])).trans HX0.out) ((g1.cell (p := ⟨w.heap.size, 1, none⟩) (by simp [hsz])).trans HX1.out))
    have hs1 : w.heap.size < w1.heap.size := by have := g1.size; omega
    have cr := CR.out _ _ hS
    clear hS g1
    go_wp2_with fail
    refine cr.mono ?_
    rintro e w2 ⟨rfl, g2⟩
    have HB2 := Lib.hid (HB1.out.trans (g2.mono HB1.out.size))
    have HY2 := Lib.hid (And.intro ((g2.cell (p := ⟨w.heap.size, 0, none⟩) hs1).trans HY1.out.1) ((g2.cell (p := ⟨w.heap.size, 1, none⟩) hs1).trans HY1.out.2))
    have hs2 : w.heap.size < w2.heap.size := by have := g2.size; omega
    have cn := CN.out w2 (HW.out.below HB2.out HW.out.two)
    clear cr g2
    go_wp2_with fail
    refine cn.mono ?_
    rintro e w3 ⟨vn, t, rfl, hN, g3⟩
    have HB3 := Lib.hid (HB2.out.trans (g3.mono HB2.out.size))
    have HY3 := Lib.hid (And.intro ((g3.cell (p := ⟨w.heap.size, 0, none⟩) hs2).trans HY2.out.1) ((g3.cell (p := ⟨w.heap.size, 1, none⟩) hs2).trans HY2.out.2))
    have hs3 : w.heap.size < w3.heap.size := by have := g3.size; omega
    clear cn g3 hs1 hs2 hsz
    by_cases hQ : Q = 0
    · subst hQ
      obtain ⟨rfl, hSl⟩ := hN rfl
      have HS3 := Lib.hid hSl
      have HN6 := Lib.hid (HNL.out rfl)
      have F6' := Lib.hid (F6.out rfl)
      have FV' := Lib.hid (FV.out rfl)
      have CC := Lib.hid (Cl.contains_c vn n F w3 hSl HN6.out)
      have CP := Cl.readPresent_c c HG.out (Ty.S r9) w3 (HW.out.below HB3.out HW.out.two) (by rw [Ty.size_S]; exact HVL.out)
      rw [Ty.data_S] at CP
      have CPH := Lib.hid CP
      simp only [Int.natCast_zero]
      obtain ⟨hx0, hx1⟩ := HY3.out
      have hways : c.null = true ∨ (c.null = false ∧ Cl.has F n = true) ∨ (c.null = false ∧ Cl.has F n = false) := by
        cases c.null <;> cases Cl.has F n <;> simp
      clear hN hSl F1 F6 FV HNL CN CP CW CR HX0 HX1 HB0 HB1 HB2 HY1 HY2
      rcases hways with hn | ⟨hn, hh⟩ | ⟨hn, hh⟩
      rotate_left 1
      · have HE := Lib.hid (F6'.out hh hn)
        rw [hn] at hx1
        rw [hh] at CC
        clear hn hh
        go_wp2_with fail
        refine CC.out.mono ?_
        rintro e w4 ⟨rfl, rfl⟩
        go_wp2
        go_ret2
        exact Bk.GotF.bad HE.out rfl HB3.out
      all_goals
        have HVR := Lib.hid (FV'.out (by first | exact .inl hn | exact .inr hh))
        rw [hn] at hx1
        try rw [hh] at CC
        clear hn
        go_wp2_with fail
        first
          | with_reducible refine CPH.out.mono ?_
          | (with_reducible refine CC.out.mono ?_
             (rintro e w4 ⟨rfl, h4⟩)
             subst w4
             go_wp2_with fail
             with_reducible refine CPH.out.mono ?_)
        rintro e w5 ⟨vp, rfl, hV5, g5⟩
        have HB5 := Lib.hid (HB3.out.trans (g5.mono HB3.out.size))
        have hz0 := (g5.cell (p := ⟨w.heap.size, 0, none⟩) hs3).trans hx0
        have HZ0 := Lib.hid hz0
        have HS5 := Lib.hid (HS3.out.later g5)
        have HT5 := Lib.hid (HW.out.below HB5.out HW.out.two)
        have HV5 := Lib.hid hV5
        have hs5 : w.heap.size < w5.heap.size := by have := g5.size; omega
        have CPC := Lib.hid (Cl.presentCount_c vn n F w5 HS5.out HN6.out)
        have BL := Cl.back_len c r9
        have GI := Lib.hid fun h v hv => (Cl.back_is (r := r9) HG.out h v hv).2.2
        have GF := Lib.hid fun h => Cl.back_fit (r := r9) HG.out h
        have Ge := Lib.hid fun h => HVR.out.trans (Cl.rdV_e h)
        have Gc := Lib.hid fun h h2 => HVR.out.trans (Cl.rdV_cnt h h2)
        have Gn := Lib.hid fun h h2 h3 => HVR.out.trans (Cl.rdV_ne HG.out h h2 h3)
        have Gq := Lib.hid fun h h2 (O : List Kn.V) h3 => HVR.out.trans (Cl.rdV_eq HG.out h h2 (out := O) h3)
        rw [Cl.cnt_lives] at Gc Gn
        generalize Cl.back c r9 = bk at HV5 BL GI GF Ge Gc Gn Gq hV5 ⊢
        obtain ⟨E9, M⟩ := bk
        simp only at HV5 BL GI GF Ge Gc Gn Gq hV5 ⊢
        obtain ⟨a5, cp5, rfl, h5⟩ := hV5.is
        clear h5 hV5 g5 hx0 hx1 CC CPH F6' FV' HVR HY3
        by_cases hE9 : E9 = 0
        · subst hE9
          have GI' := Lib.hid (GI.out rfl)
          have GF' := Lib.hid (GF.out rfl)
          have Gc' := Lib.hid (Gc.out rfl)
          have Gn' := Lib.hid (Gn.out rfl)
          have Gq' := Lib.hid (Gq.out rfl)
          simp only [Int.natCast_zero]
          clear GI GF Ge Gc Gn Gq
          go_wp2_with fail
          refine CPC.out.mono ?_
          rintro e w6 ⟨rfl, h6⟩
          subst w6
          by_cases hcn : M.length = Cl.cnt F n
          · have CJ := Lib.hid fun wz (h1 : Bt.Sl wz vn n (Bt.bv F)) (h2 : Kn.Vals wz (.slice a5 M.length cp5) M) => Bk.join_c vn _ n F M wz h1 h2 HN6.out hcn
            have hcb : ((M.length : Int) != (Cl.cnt F n : Int)) = false := by rw [hcn]; simp
            have CWP := Cl.writePresent_c c.k _ M w5 HT5.out HV5.out BL GI'.out ((Cl.good_iff c).1 HG.out) GF'.out
            have HCN := Lib.hid hcn
            clear hcn
            by_cases hpv : Cl.pv c.k M = r9
            · rw [hpv] at CWP
              have HGQ := Lib.hid (Gq'.out hpv)
              have hself : ((Ty.S r9).toList == (Ty.S r9).toList) = true := by simp
              clear hpv
              go_wp2_with fail
              with_reducible refine CWP.mono ?_
              rintro e w7 ⟨rfl, g7⟩
              have HB7 := Lib.hid (HB5.out.trans (g7.mono HB5.out.size))
              have cj := CJ.out w7 (HS5.out.later g7) (HV5.out.later g7)
              clear CWP g7
              go_wp2_with fail
              with_reducible refine cj.mono ?_
              rintro e w8 ⟨O, p8, rfl, hf8, hV8, hn8, g8⟩
              have HE := Lib.hid (HGQ.out O hf8)
              have HV8 := Lib.hid hV8
              have HN8 := Lib.hid (show Dd.Fresh w.heap.size p8 from fun k hk => Nat.le_trans HB7.out.size (hn8 k hk))
              have HB8 := Lib.hid (HB7.out.trans (g8.mono HB7.out.size))
              clear cj hf8 hV8 hn8 g8
              go_wp2
              go_ret2
              exact Bk.GotF.good HE.out HV8.out HN8.out HB8.out
            · have HE := Lib.hid (Gn'.out HCN.out hpv)
              have hneq : ((Ty.S (Cl.pv c.k M)).toList == (Ty.S r9).toList) = false := by
                rw [beq_eq_false_iff_ne, ByteArray.toList_eq, ByteArray.toList_eq]
                exact hpv
              generalize Ty.S (Cl.pv c.k M) = S5 at CWP hneq
              clear hpv
              go_wp2_with fail
              with_reducible refine CWP.mono ?_
              rintro e w7 ⟨rfl, g7⟩
              have HB7 := Lib.hid (HB5.out.trans (g7.mono HB5.out.size))
              clear CWP g7
              go_wp2
              go_ret2
              exact Bk.GotF.bad HE.out rfl HB7.out
          · have HE := Lib.hid (Gc'.out hcn)
            have hcb : ((M.length : Int) != (Cl.cnt F n : Int)) = true := by rw [bne_iff_ne]; omega
            clear hcn
            go_wp2
            go_ret2
            exact Bk.GotF.bad HE.out rfl HB5.out
        · have HE := Lib.hid (Ge.out hE9)
          have hEb : ((E9 : Int) != 0) = true := by rw [bne_iff_ne]; omega
          clear hE9 GI GF Ge Gc Gn Gq
          go_wp2
          go_ret2
          exact Bk.GotF.bad HE.out rfl HB5.out
    · have HE := Lib.hid (F1.out hQ)
      have hQb : ((Q : Int) != 0) = true := by rw [bne_iff_ne]; omega
      clear hQ hN
      go_wp2
      go_ret2
      exact Bk.GotF.bad HE.out rfl HB3.out
end Go.Proofs.YtfbjmehkipcmbaaGreatDoor

namespace Go.Proofs.YtfbjmehkipcmbaaGreatDoor
open Go
open Ty (num txt encU U64 I64)
open Ig (rest)
/-! The byte of truths. -/
theorem Bk.S1_bit (b : UInt8) {i : Nat} (h : i < 8) : Bt.bit (Ty.S [b]) i = b.toNat.testBit i := by
  unfold Bt.bit
  rw [Ty.data_S, show i / 8 = 0 by omega, show i % 8 = i by omega]
  rfl
theorem Bk.S1_dirty (b : UInt8) {n : Nat} (h1 : 1 ≤ n) (h8 : n ≤ 8) : (Bt.dirty (Ty.S [b]) n = true) ↔ b.toNat / 2 ^ n ≠ 0 := by
  unfold Bt.dirty
  have hsz : (Ty.S [b]).size = 1 := rfl
  simp only [List.any_eq_true, List.mem_range, Bool.and_eq_true, decide_eq_true_iff]
  constructor
  · rintro ⟨i, hi, h2, h3⟩ h0
    have hi8 : i < 8 := by
      unfold Bt.need at hi
      omega
    rw [Bk.S1_bit b hi8] at h3
    have hlt : b.toNat < 2 ^ n := by
      rcases Nat.lt_or_ge b.toNat (2 ^ n) with h | h
      · exact h
      · have := Nat.div_pos h (Nat.two_pow_pos n); omega
    rw [Nat.testBit_lt_two_pow (Nat.lt_of_lt_of_le hlt (Nat.pow_le_pow_right (by omega) h2))] at h3
    cases h3
  · intro h0
    obtain ⟨j, hj⟩ := Nat.exists_testBit_of_ne_zero h0
    rw [Nat.testBit_div_two_pow] at hj
    have hj8 : j + n < 8 := by
      rcases Nat.lt_or_ge (j + n) 8 with h | h
      · exact h
      · rw [Nat.testBit_lt_two_pow (Nat.lt_of_lt_of_le b.toNat_lt (Nat.pow_le_pow_right (n := 2) (by decide) h))] at hj
        cases hj
    exact ⟨j + n, by unfold Bt.need; omega, by omega, by rw [Bk.S1_bit b hj8]; exact hj⟩
theorem Bk.S1_ut (b : UInt8) {n : Nat} (h1 : 1 ≤ n) (h8 : n ≤ 8) : (Bt.utE (Ty.S [b]) (n : Int) = 0 ↔ b.toNat / 2 ^ n = 0) ∧ Bt.utN (Ty.S [b]) (n : Int) = if b.toNat / 2 ^ n = 0 then n else 0 := by
  have e : Bt.utE (Ty.S [b]) (n : Int) = Bt.chk (Ty.S [b]) n := by
    unfold Bt.utE
    rw [if_pos ⟨by omega, by omega⟩]
    rfl
  have hsz : (Ty.S [b]).size = Bt.need n := by
    rw [Ty.size_S]
    unfold Bt.need
    simp only [List.length_singleton]
    omega
  have hd := Bk.S1_dirty b h1 h8
  have hk : Bt.chk (Ty.S [b]) n = 0 ↔ b.toNat / 2 ^ n = 0 := by
    constructor
    · intro h
      have := (Bt.chk_ok h).2
      rcases Nat.eq_zero_or_pos (b.toNat / 2 ^ n) with h0 | h0
      · exact h0
      · rw [hd.2 (by omega)] at this
        cases this
    · intro h
      refine Bt.chk_is hsz ?_
      cases hh : Bt.dirty (Ty.S [b]) n
      · rfl
      · exact absurd h (hd.1 hh)
  refine ⟨by rw [e]; exact hk, ?_⟩
  unfold Bt.utN
  rw [e]
  by_cases h : b.toNat / 2 ^ n = 0
  · rw [if_pos h, if_pos (hk.2 h)]
    rfl
  · rw [if_neg h, if_neg (fun h2 => h (hk.1 h2))]
/-! The reader's steps. -/
def Bk.give (i : Nat) : List Dd.D → List Kn.V → List Dd.D
  | [], _ => []
  | d :: r, vs => if Bk.has i d = true then ⟨d.gone, d.row.set i (vs.headD Cl.nul)⟩ :: Bk.give i r vs.tail else d :: Bk.give i r vs
def Bk.stG (s : Dd.St) : Nat × UInt8 × Dd.St :=
  if (Ty.rdU s.l s.e).1 < 1 ∨ 8 < (Ty.rdU s.l s.e).1 then (0, 0, ⟨(Ty.rdU s.l s.e).2.1, (Ty.rdU s.l s.e).2.2, true⟩)
  else if (UInt8.ofNat (Ty.rdB (Ty.rdU s.l s.e).2.1 (Ty.rdU s.l s.e).2.2).1).toNat / 2 ^ (Ty.rdU s.l s.e).1 = 0
    then ((Ty.rdU s.l s.e).1, UInt8.ofNat (Ty.rdB (Ty.rdU s.l s.e).2.1 (Ty.rdU s.l s.e).2.2).1, ⟨(Ty.rdB (Ty.rdU s.l s.e).2.1 (Ty.rdU s.l s.e).2.2).2.1, (Ty.rdB (Ty.rdU s.l s.e).2.1 (Ty.rdU s.l s.e).2.2).2.2, s.wr⟩)
    else (0, 0, ⟨(Ty.rdB (Ty.rdU s.l s.e).2.1 (Ty.rdU s.l s.e).2.2).2.1, (Ty.rdB (Ty.rdU s.l s.e).2.1 (Ty.rdU s.l s.e).2.2).2.2, true⟩)
def Bk.okS (c : Kn.C) (i : Nat) (A : List Dd.D) (t : List UInt8) : Prop := (Cl.rd c t).1 = 0 ∧ (Cl.rd c t).2.length = (A.filter (Bk.has i)).length
instance (c : Kn.C) (i : Nat) (A : List Dd.D) (t : List UInt8) : Decidable (Bk.okS c i A t) := inferInstanceAs (Decidable (_ ∧ _))
def Bk.rdL (s : Dd.St) : List UInt8 × List UInt8 × Nat := Ty.rdT (s.l.length : Int) s.l s.e
def Bk.stC (c : Kn.C) (i : Nat) (A : List Dd.D) (s : Dd.St) : List Dd.D × Dd.St :=
  if Bk.okS c i A (Bk.rdL s).1 then (Bk.give i A (Cl.rd c (Bk.rdL s).1).2, ⟨(Bk.rdL s).2.1, (Bk.rdL s).2.2, s.wr⟩) else (A, ⟨(Bk.rdL s).2.1, (Bk.rdL s).2.2, true⟩)
def Bk.stD : Nat → List Kn.C → List Dd.D → Dd.St → List Dd.D × Dd.St
  | _, [], A, s => (A, s)
  | i, c :: cs, A, s => Bk.stD (i + 1) cs (Bk.stC c i A s).1 (Bk.stC c i A s).2
def Bk.wdt (w : Nat) (g : Bool) : Nat := if g = true then 1 else w
def Bk.zero (w n : Nat) (b : UInt8) : List Dd.D := (List.range n).map fun i => ⟨b.toNat.testBit i, List.replicate (Bk.wdt w (b.toNat.testBit i)) (Cl.ofN 0)⟩
def Bk.Wide (w : Nat) (A : List Dd.D) : Prop := ∀ d ∈ A, d.row.length = Bk.wdt w d.gone
def Bk.bad (s : Dd.St) : Prop := s.wr = true ∨ s.e ≠ 0
theorem Bk.rdL_ne {s : Dd.St} (h : s.e ≠ 0) : Bk.rdL s = ([], s.l, s.e) := by unfold Bk.rdL Ty.rdT; rw [if_pos h]
theorem Bk.stC_bad {c : Kn.C} {i : Nat} {A : List Dd.D} {s : Dd.St} (h : Bk.bad s) : Bk.bad (Bk.stC c i A s).2 := by
  unfold Bk.stC
  split
  · rcases h with h | h
    · exact .inl h
    · rw [Bk.rdL_ne h]
      exact .inr h
  · exact .inl rfl
theorem Bk.stD_bad : ∀ (cs : List Kn.C) (i : Nat) (A : List Dd.D) (s : Dd.St), Bk.bad s → Bk.bad (Bk.stD i cs A s).2
  | [], _, _, _, h => h
  | _ :: cs, i, _, _, h => Bk.stD_bad cs (i + 1) _ _ (Bk.stC_bad h)
theorem Bk.give_len (i : Nat) : ∀ (A : List Dd.D) (vs : List Kn.V), (Bk.give i A vs).length = A.length
  | [], _ => rfl
  | d :: A, vs => by
    unfold Bk.give
    split
    · rw [List.length_cons, List.length_cons, Bk.give_len i A]
    · rw [List.length_cons, List.length_cons, Bk.give_len i A]
theorem Bk.give_wide (i w : Nat) : ∀ (A : List Dd.D) (vs : List Kn.V), Bk.Wide w A → Bk.Wide w (Bk.give i A vs)
  | [], _, _ => fun d hd => by cases hd
  | x :: A, vs, h => fun d hd => by
    have hx := h x (List.mem_cons_self ..)
    have hA : Bk.Wide w A := fun y hy => h y (List.mem_cons_of_mem _ hy)
    unfold Bk.give at hd
    split at hd
    · rcases List.mem_cons.1 hd with rfl | hd
      · rw [List.length_set]
        exact hx
      · exact Bk.give_wide i w A _ hA d hd
    · rcases List.mem_cons.1 hd with rfl | hd
      · exact hx
      · exact Bk.give_wide i w A _ hA d hd
theorem Bk.dist_give {i w : Nat} (hi : i < w) : ∀ (A : List Dd.D) (vs : List Kn.V), Bk.Wide w A → Bk.dist i (Bk.cut i A) vs = Bk.cut (i + 1) (Bk.give i A vs)
  | [], _, _ => rfl
  | d :: A, vs, h => by
    have hx := h d (List.mem_cons_self ..)
    have hA : Bk.Wide w A := fun y hy => h y (List.mem_cons_of_mem _ hy)
    have ih1 := Bk.dist_give hi A vs hA
    have ih2 := Bk.dist_give hi A vs.tail hA
    have hh : Bk.has i ⟨d.gone, d.row.take i⟩ = Bk.has i d := rfl
    unfold Bk.cut at ih1 ih2 ⊢
    rw [List.map_cons]
    unfold Bk.dist Bk.give
    rw [hh]
    cases hb : Bk.has i d
    · obtain ⟨hg, h1⟩ := Bk.has_gone hb
      rw [if_neg (by decide), if_neg (by decide), List.map_cons, ih1]
      unfold Bk.wdt at hx
      rw [hg, if_pos rfl] at hx
      rw [List.take_of_length_le (by omega), List.take_of_length_le (by omega)]
    · rw [if_pos rfl, if_pos rfl, List.map_cons, ih2]
      have hlt : i < d.row.length := by
        unfold Bk.has at hb
        unfold Bk.wdt at hx
        rw [hx]
        cases hg : d.gone
        · rw [if_neg (by decide)]; exact hi
        · rw [hg] at hb
          have : i = 0 := by simpa using hb
          rw [if_pos rfl]
          omega
      rw [List.take_succ_eq_append_getElem (by rw [List.length_set]; exact hlt), List.getElem_set_self, List.take_set_of_le (Nat.le_refl _)]
theorem Bk.filt_cut (i j : Nat) (A : List Dd.D) : ((Bk.cut j A).filter (Bk.has i)).length = (A.filter (Bk.has i)).length := by
  unfold Bk.cut
  rw [List.filter_map, List.length_map]
  rfl
/-! The document reads texts of at most 2^20 bytes, the code reads what there is: a column of eight values is never longer. -/
theorem Bk.txt_most {l : List UInt8} (h : (txt l Bk.most).2.2 = 0) : txt l (l.length : Int) = txt l Bk.most := by
  have h1 : (num l).2.2 = 0 := by
    rcases Nat.eq_zero_or_pos (num l).2.2 with h1 | h1
    · exact h1
    · rw [Ty.txt_bad (by omega)] at h
      exact h
  by_cases h2 : Bk.most < 0 ∨ Bk.most < ((num l).1 : Int)
  · rw [Ty.txt_long h1 h2] at h
    cases h
  · by_cases h3 : l.length - (num l).2.1 < (num l).1
    · rw [Ty.txt_short h1 h2 h3] at h
      cases h
    · rw [Ty.txt_whole h1 h2 h3, Ty.txt_whole h1 (by omega) h3]
theorem Bk.txt_less {l : List UInt8} (h : (txt l (l.length : Int)).2.2 = 0) (h2 : (txt l (l.length : Int)).1.length ≤ 1048576) : (txt l Bk.most).2.2 = 0 := by
  have h1 : (num l).2.2 = 0 := by
    rcases Nat.eq_zero_or_pos (num l).2.2 with h1 | h1
    · exact h1
    · rw [Ty.txt_bad (by omega)] at h
      exact h
  by_cases h3 : ((l.length : Nat) : Int) < 0 ∨ ((l.length : Nat) : Int) < ((num l).1 : Int)
  · rw [Ty.txt_long h1 h3] at h
    cases h
  · by_cases h4 : l.length - (num l).2.1 < (num l).1
    · rw [Ty.txt_short h1 h3 h4] at h
      cases h
    · rw [Ty.txt_whole h1 h3 h4] at h2
      simp only at h2
      rw [List.length_take, List.length_drop] at h2
      rw [Ty.txt_whole h1 (by unfold Bk.most; omega) h4]
theorem Bk.stC_0 {c : Kn.C} {i : Nat} {A : List Dd.D} (h8 : A.length ≤ 8) (l : List UInt8) :
    (Bk.okC c i (Bk.cut i A) l → Bk.stC c i A ⟨l, 0, false⟩ = (Bk.give i A (Cl.rd c (txt l Bk.most).1).2, ⟨Bk.restM l, 0, false⟩)) ∧
    (¬ Bk.okC c i (Bk.cut i A) l → Bk.bad (Bk.stC c i A ⟨l, 0, false⟩).2) := by
  have hL : Bk.rdL ⟨l, 0, false⟩ = ((txt l (l.length : Int)).1, l.drop (txt l (l.length : Int)).2.1, (txt l (l.length : Int)).2.2) := by
    unfold Bk.rdL Ty.rdT
    rw [if_neg (by simp)]
  constructor
  · rintro ⟨h1, h2, h3⟩
    rw [Bk.filt_cut] at h3
    have ht := Bk.txt_most h1
    rw [ht] at hL
    unfold Bk.stC
    rw [hL]
    rw [if_pos ⟨h2, h3⟩, h1]
    rfl
  · intro hn
    unfold Bk.stC
    by_cases hk : Bk.okS c i A (Bk.rdL ⟨l, 0, false⟩).1
    · rw [if_pos hk]
      refine .inr fun h0 => hn ?_
      rw [hL] at hk h0
      obtain ⟨h2, h3⟩ := hk
      simp only at h0 h2 h3
      have hlen : (txt l (l.length : Int)).1.length ≤ 1048576 := by
        obtain ⟨k1, k2, _, _⟩ := Cl.enc_rd h2
        rw [← k2]
        refine Bk.enc_le k1 ?_
        rw [h3]
        exact Nat.le_trans (List.length_filter_le ..) h8
      have h1 := Bk.txt_less h0 hlen
      rw [Bk.txt_most h1] at h2 h3
      exact ⟨h1, h2, by rw [Bk.filt_cut]; exact h3⟩
    · rw [if_neg hk]
      exact .inl rfl
theorem Bk.stD_0 {w : Nat} : ∀ (cs : List Kn.C) (i : Nat) (A : List Dd.D) (l : List UInt8), i + cs.length = w → A.length ≤ 8 → Bk.Wide w A →
    (∀ L r, Bk.rdC i cs (Bk.cut i A) l = some (L, r) → ∃ B, Bk.stD i cs A ⟨l, 0, false⟩ = (B, ⟨r, 0, false⟩) ∧ L = Bk.cut w B ∧ Bk.Wide w B) ∧
    (Bk.rdC i cs (Bk.cut i A) l = none → Bk.bad (Bk.stD i cs A ⟨l, 0, false⟩).2)
  | [], i, A, l, hw, _, hW => by
    simp only [List.length_nil, Nat.add_zero] at hw
    subst hw
    refine ⟨fun L r h => ?_, fun h => (by simp [Bk.rdC] at h)⟩
    simp only [Bk.rdC, Option.some.injEq, Prod.mk.injEq] at h
    obtain ⟨rfl, rfl⟩ := h
    exact ⟨A, rfl, rfl, hW⟩
  | c :: cs, i, A, l, hw, h8, hW => by
    rw [List.length_cons] at hw
    obtain ⟨a1, a2⟩ := Bk.stC_0 (c := c) (i := i) h8 l
    by_cases hk : Bk.okC c i (Bk.cut i A) l
    · have ih := Bk.stD_0 (w := w) cs (i + 1) (Bk.give i A (Cl.rd c (txt l Bk.most).1).2) (Bk.restM l) (by omega) (by rw [Bk.give_len]; exact h8) (Bk.give_wide i w A _ hW)
      have e : Bk.rdC i (c :: cs) (Bk.cut i A) l = Bk.rdC (i + 1) cs (Bk.cut (i + 1) (Bk.give i A (Cl.rd c (txt l Bk.most).1).2)) (Bk.restM l) := by
        conv => lhs; unfold Bk.rdC
        refine (if_pos hk).trans ?_
        rw [Bk.dist_give (by omega) A _ hW]
      rw [e]
      unfold Bk.stD
      rw [a1 hk]
      exact ih
    · have e : Bk.rdC i (c :: cs) (Bk.cut i A) l = none := by
        unfold Bk.rdC
        exact if_neg hk
      rw [e]
      refine ⟨fun L r h => by simp at h, fun _ => ?_⟩
      unfold Bk.stD
      exact Bk.stD_bad cs (i + 1) _ _ (a2 hk)
theorem Bk.zero_len (w n : Nat) (b : UInt8) : (Bk.zero w n b).length = n := by unfold Bk.zero; simp
theorem Bk.zero_wide (w n : Nat) (b : UInt8) : Bk.Wide w (Bk.zero w n b) := fun d hd => by
  unfold Bk.zero at hd
  obtain ⟨i, _, rfl⟩ := List.mem_map.1 hd
  simp
theorem Bk.zero_cut (w n : Nat) (b : UInt8) : Bk.cut 0 (Bk.zero w n b) = Bk.none_ n b := by
  unfold Bk.cut Bk.zero Bk.none_
  rw [List.map_map]
  rfl
theorem Bk.wide_cut {w : Nat} (h1 : 1 ≤ w) {B : List Dd.D} (h : Bk.Wide w B) : Bk.cut w B = B := by
  unfold Bk.cut
  conv => rhs; rw [← List.map_id B]
  refine List.map_congr_left fun d hd => ?_
  have := h d hd
  unfold Bk.wdt at this
  rw [List.take_of_length_le (by rw [this]; split <;> omega)]
  rfl
def Bk.stR (s : List Kn.C) (l : List UInt8) : List Dd.D × Dd.St := Bk.stD 0 s (Bk.zero s.length (Bk.stG ⟨l, 0, false⟩).1 (Bk.stG ⟨l, 0, false⟩).2.1) (Bk.stG ⟨l, 0, false⟩).2.2
theorem Bk.fin_ne {l : List UInt8} {e : Nat} (h : e ≠ 0) : Ty.fin l e ≠ 0 := by
  unfold Ty.fin
  rw [if_neg (fun h2 => h h2.1)]
  exact h
theorem Bk.rd_st {s : List Kn.C} (hs : Kn.right s = true) (l : List UInt8) :
    ((Bk.stR s l).2.wr = true ∨ Ty.fin (Bk.stR s l).2.l (Bk.stR s l).2.e ≠ 0 ∨ Bk.sorted (Bk.stR s l).1 = false → Bk.rd s l = (8, [])) ∧
    ((Bk.stR s l).2.wr = false → Ty.fin (Bk.stR s l).2.l (Bk.stR s l).2.e = 0 → Bk.sorted (Bk.stR s l).1 = true → Bk.rd s l = (0, (Bk.stR s l).1)) := by
  have hsl := Kn.right_len hs
  have badc : Bk.bad (Bk.stR s l).2 → Bk.rd s l = (8, []) → ((Bk.stR s l).2.wr = true ∨ Ty.fin (Bk.stR s l).2.l (Bk.stR s l).2.e ≠ 0 ∨ Bk.sorted (Bk.stR s l).1 = false → Bk.rd s l = (8, [])) ∧
    ((Bk.stR s l).2.wr = false → Ty.fin (Bk.stR s l).2.l (Bk.stR s l).2.e = 0 → Bk.sorted (Bk.stR s l).1 = true → Bk.rd s l = (0, (Bk.stR s l).1)) := fun hb h8 => by
    refine ⟨fun _ => h8, fun h1 h2 _ => ?_⟩
    rcases hb with hb | hb
    · rw [h1] at hb; cases hb
    · exact absurd h2 (Bk.fin_ne hb)
  have bad0 : Bk.bad (Bk.stG ⟨l, 0, false⟩).2.2 → Bk.bad (Bk.stR s l).2 := fun h => by
    unfold Bk.stR
    exact Bk.stD_bad s 0 _ _ h
  have hU : Ty.rdU l 0 = ((num l).1, rest l, (num l).2.2) := by
    unfold Ty.rdU
    rw [if_neg (by simp)]
    rfl
  by_cases h1 : (num l).2.2 = 0
  rotate_left
  · refine badc (bad0 ?_) (Bk.rd_h hs h1)
    unfold Bk.stG
    rw [hU]
    split
    · exact .inl rfl
    · rw [Dd.rdB_ne _ h1]
      split
      · exact .inr h1
      · exact .inl rfl
  rw [h1] at hU
  cases h2 : rest l with
  | nil =>
    refine badc (bad0 ?_) (Bk.rd_e hs h1 h2)
    unfold Bk.stG
    rw [hU, h2]
    split
    · exact .inl rfl
    · have e : Ty.rdB [] 0 = (0, [], 2) := rfl
      rw [e]
      split
      · exact .inr (show (2 : Nat) ≠ 0 by decide)
      · exact .inl rfl
  | cons b r =>
    rw [h2] at hU
    by_cases h3 : (num l).1 < 1 ∨ 8 < (num l).1 ∨ b.toNat / 2 ^ (num l).1 ≠ 0
    · refine badc (bad0 ?_) (Bk.rd_b hs h1 h2 h3)
      unfold Bk.stG
      rw [hU]
      split
      · exact .inl rfl
      · rename_i h4
        have e : Ty.rdB (b :: r) 0 = (b.toNat, r, 0) := rfl
        rw [e]
        rw [if_neg (by
          have e2 : UInt8.ofNat b.toNat = b := UInt8.ofNat_toNat
          rw [e2]
          simp only at h4 ⊢
          omega)]
        exact .inl rfl
    · have hG : Bk.stG ⟨l, 0, false⟩ = ((num l).1, b, ⟨r, 0, false⟩) := by
        unfold Bk.stG
        rw [hU]
        have e : Ty.rdB (b :: r) 0 = (b.toNat, r, 0) := rfl
        have e2 : UInt8.ofNat b.toNat = b := UInt8.ofNat_toNat
        rw [if_neg (by simp only; omega), e, e2, if_pos (by simp only; omega)]
      have hR : Bk.stR s l = Bk.stD 0 s (Bk.zero s.length (num l).1 b) ⟨r, 0, false⟩ := by
        unfold Bk.stR
        rw [hG]
      have hD := Bk.stD_0 (w := s.length) s 0 (Bk.zero s.length (num l).1 b) r (by omega) (by rw [Bk.zero_len]; omega) (Bk.zero_wide s.length (num l).1 b)
      rw [Bk.zero_cut] at hD
      have hrd := Bk.rd_g hs h1 h2 h3
      cases ho : Bk.rdC 0 s (Bk.none_ (num l).1 b) r with
      | none =>
        refine badc (by rw [hR]; exact hD.2 ho) ?_
        rw [hrd]
        exact Bk.rdE_fail ho
      | some p =>
        obtain ⟨L, r'⟩ := p
        obtain ⟨B, hB, rfl, hW⟩ := hD.1 L r' ho
        rw [Bk.wide_cut hsl.1 hW] at ho
        rw [hR, hB]
        have hfin : Ty.fin r' 0 ≠ 0 ↔ r' ≠ [] := by
          unfold Ty.fin
          by_cases h : r' = []
          · simp [h]
          · simp [h]
        refine ⟨fun h => ?_, fun _ h4 h5 => ?_⟩
        · rw [hrd]
          refine Bk.rdE_bad ho fun h9 => ?_
          rcases h with h | h | h
          · cases h
          · exact hfin.1 h h9.1
          · rw [h9.2] at h; cases h
        · rw [hrd]
          refine Bk.rdE_good ho ?_ h5
          rcases Classical.em (r' = []) with h | h
          · exact h
          · exact absurd h4 (hfin.2 h)
end Go.Proofs.YtfbjmehkipcmbaaGreatDoor

namespace Go.Proofs.YtfbjmehkipcmbaaGreatDoor
open Go.RowKit
structure Bk.Rdr (r b : Nat) (w : World) (s : Dd.St) : Prop where
  cur : Ty.Cur b w s.l s.e
  box : w.heap[r]? = some (.cells #[.pointer (some ⟨b, 0, none⟩), .bool s.wr] 63 (0, 0))
  ne : b ≠ r
  tabs : Ty.Tabs w
  gb : Ty.G ≤ b
  gr : Ty.G ≤ r
  short : s.l.length ≤ 140737488351232
theorem Bk.Rdr.lt {r b : Nat} {w : World} {s : Dd.St} (h : Bk.Rdr r b w s) : r < w.heap.size ∧ b < w.heap.size := ⟨lt_of_block h.box, h.cur.lt⟩
theorem Bk.Rdr.same {r b : Nat} {w w' : World} {s : Dd.St} (h : Bk.Rdr r b w s) (hs : w.heap.size ≤ w'.heap.size) (h0 : ∀ k, k < Ty.G → w'.heap[k]? = w.heap[k]?) (h1 : w'.heap[r]? = w.heap[r]?) (h2 : w'.heap[b]? = w.heap[b]?) : Bk.Rdr r b w' s :=
  ⟨h2.trans h.cur, h1.trans h.box, h.ne, Ty.Tabs.kept h.tabs hs h0, h.gb, h.gr, h.short⟩
theorem Bk.Rdr.kept {r b : Nat} {w w' : World} {s : Dd.St} (h : Bk.Rdr r b w s) (g : Below w.heap.size w w') : Bk.Rdr r b w' s :=
  ⟨(g.block b h.lt.2).trans h.cur, (g.block r h.lt.1).trans h.box, h.ne, Ty.Tabs.below h.tabs g (Ty.Tabs.two h.tabs), h.gb, h.gr, h.short⟩
theorem Bk.Rdr.moved {r b : Nat} {w w' : World} {s : Dd.St} {l : List UInt8} {e : Nat} (h : Bk.Rdr r b w s) (hc : Ty.Cur b w' l e) (hg : w.grownBy w' (some b)) (hl : l.length ≤ s.l.length) : Bk.Rdr r b w' ⟨l, e, s.wr⟩ :=
  ⟨hc, (hg.block r h.lt.1 (fun e => h.ne (Option.some.inj e).symm)).trans h.box, h.ne, Ty.Tabs.by h.tabs hg (fun k hk => by have := Option.some.inj hk; have := h.gb; omega), h.gb, h.gr, Nat.le_trans hl h.short⟩
theorem Bk.Rdr.marked {r b : Nat} {w : World} {l : List UInt8} {e : Nat} {x : Bool} (h : Bk.Rdr r b w ⟨l, e, x⟩) (y : Bool) : Bk.Rdr r b (w.setCell ⟨r, 1, none⟩ (.bool y)) ⟨l, e, y⟩ :=
  ⟨(Below.heap_setCell _ _ _ _ (by show b ≠ r; exact h.ne)).trans h.cur, Ty.two_set1 h.box, h.ne, Ty.Tabs.by h.tabs (Ty.by_set w r 1 _) (fun k hk => by have := Option.some.inj hk; have := h.gr; omega), h.gb, h.gr, h.short⟩
theorem Bk.rdU_le (l : List UInt8) (e : Nat) : (Ty.rdU l e).2.1.length ≤ l.length := by
  unfold Ty.rdU
  split
  · exact Nat.le_refl _
  · simp only [List.length_drop]; omega
theorem Bk.rdT_le (m : Int) (l : List UInt8) (e : Nat) : (Ty.rdT m l e).2.1.length ≤ l.length ∧ (Ty.rdT m l e).1.length ≤ l.length := by
  unfold Ty.rdT
  split
  · exact ⟨Nat.le_refl _, Nat.zero_le _⟩
  · refine ⟨?_, Ty.txt_len l m⟩
    simp only [List.length_drop]; omega
theorem Bk.sl_congr {w : World} {v : Value} {n m : Nat} {f g : Nat → Value} (h : Bt.Sl w v n f) (hm : m = n) (e : ∀ i, i < n → f i = g i) : Bt.Sl w v m g := by
  subst hm
  obtain ⟨a, c, rfl, h⟩ := h
  refine ⟨a, c, rfl, ?_⟩
  rcases h with h | ⟨b, o, ha, hb, h⟩
  · exact .inl h
  · exact .inr ⟨b, o, ha, hb, fun i hi => by rw [← e i hi]; exact h i hi⟩
theorem Bk.sl_set {w : World} {v : Value} {n r B i : Nat} {f : Nat → Value} (h : Bt.Sl w v n f) (hf : Dd.Fresh B v) (hr : r < B) (x : Value) : Bt.Sl (w.setCell ⟨r, i, none⟩ x) v n f := by
  obtain ⟨a, c, rfl, h⟩ := h
  refine ⟨a, c, rfl, ?_⟩
  rcases h with h | ⟨b, o, rfl, hb, h⟩
  · exact .inl h
  · have hbB : B ≤ b := hf b rfl
    refine .inr ⟨b, o, rfl, by simpa [World.setCell] using hb, fun j hj => ?_⟩
    rw [← h j hj]
    exact World.cell?_of_block (a := ⟨b, o + j, none⟩) (Below.heap_setCell _ _ _ _ (by show b ≠ r; omega))
def Bk.Flg (r b : Nat) (w : World) (G : Nat × UInt8 × Dd.St) (e : Ending) (w' : World) : Prop :=
  ∃ u, e = .returned u ∧ Bt.Sl w' u G.1 (Bt.bv fun i => G.2.1.toNat.testBit i) ∧ Bk.Rdr r b w' G.2.2 ∧ ∀ B, B ≤ r → B ≤ b → B ≤ w.heap.size → Below B w w'
theorem Bk.stG_far {s : Dd.St} {n e1 : Nat} {l1 : List UInt8} (hU : Ty.rdU s.l s.e = (n, l1, e1)) (h : n < 1 ∨ 8 < n) : Bk.stG s = (0, 0, ⟨l1, e1, true⟩) := by
  unfold Bk.stG
  rw [hU]
  exact if_pos h
theorem Bk.stG_near {s : Dd.St} {n e1 : Nat} {l1 : List UInt8} (hU : Ty.rdU s.l s.e = (n, l1, e1)) (h : ¬ (n < 1 ∨ 8 < n)) {y e2 : Nat} {l2 : List UInt8} (hB : Ty.rdB l1 e1 = (y, l2, e2)) :
    Bk.stG s = if (UInt8.ofNat y).toNat / 2 ^ n = 0 then (n, UInt8.ofNat y, ⟨l2, e2, s.wr⟩) else (0, 0, ⟨l2, e2, true⟩) := by
  unfold Bk.stG
  rw [hU]
  refine (if_neg h).trans ?_
  rw [hB]
set_option maxHeartbeats 4000000 in
set_option maxRecDepth 100000 in
theorem Bk.rflags_c (r b : Nat) (s : Dd.St) (w : World) (h : Bk.Rdr r b w s) :
    Calls Tryz.prog 62 #[.pointer (some ⟨r, 0, none⟩)] w (Bk.Flg r b w (Bk.stG s)) := by
  have HR := Lib.hid h
  obtain ⟨b0, b1, z0, z1⟩ := Dd.two h.box
  have cu := Ty.cuint_c b s.l s.e w h.tabs h.cur (by have := h.short; omega)
  have hU := Ty.rdU_u64 s.l s.e
  have hl1 := Bk.rdU_le s.l s.e
  obtain ⟨G, hG⟩ : ∃ G, G = Bk.stG s := ⟨_, rfl⟩
  rw [← hG]
  have HF := Lib.hid fun n e1 l1 hU h => hG.trans (Bk.stG_far (n := n) (e1 := e1) (l1 := l1) hU h)
  have HN := Lib.hid fun n e1 l1 hU h y e2 l2 hB => hG.trans (Bk.stG_near (n := n) (e1 := e1) (l1 := l1) hU h (y := y) (e2 := e2) (l2 := l2) hB)
  clear hG
  generalize hR : Ty.rdU s.l s.e = U at cu hU hl1
  obtain ⟨n, l1, e1⟩ := U
  have HF := Lib.hid (HF.out n e1 l1 hR)
  have HN := Lib.hid (HN.out n e1 l1 hR)
  unfold Ty.U64 at hU
  simp only at cu hU hl1
  clear hR h
  by_cases hn : n < 1 ∨ 8 < n
  · have HG := Lib.hid (HF.out hn)
    have hways : (n : Int) < 1 ∨ (¬ (n : Int) < 1 ∧ (8 : Int) < (n : Int)) := by omega
    clear hn
    rcases hways with h1 | ⟨h1, h2⟩
    all_goals
      go_enter Tryz.func62, Tryz.ntmps62
      go_wp2_with fail
      with_reducible refine cu.mono ?_
      rintro e w1 ⟨rfl, hc, hg⟩
      have HR1 := Lib.hid (HR.out.moved hc hg hl1)
      have HG1 := Lib.hid hg
      obtain ⟨c0, c1, f0, f1⟩ := Dd.two HR1.out.box
      clear b0 b1 z0 z1 hc hg cu
      go_wp2
      go_ret
      exact ⟨_, rfl, by rw [HG.out]; exact Bt.Sl.nil _ _, by rw [HG.out]; exact HR1.out.marked true, fun B hr hb hs => Cl.below_cell (Ty.below_at HG1.out hs hb) hr _⟩
  · have hn1 : ¬ (n : Int) < 1 := by omega
    have hn8 : ¬ (8 : Int) < (n : Int) := by omega
    have HNN : Hid (1 ≤ n ∧ n ≤ 8) := Lib.hid (by omega)
    have HN := Lib.hid (HN.out hn)
    clear hn HF
    have hbl := Dd.rdB_le l1 e1
    have CB := Lib.hid fun wz (h : Ty.Cur b wz l1 e1) => Ty.cbyte_c b l1 e1 wz h (by have := HR.out.short; omega)
    generalize hRB : Ty.rdB l1 e1 = RB at hbl CB
    obtain ⟨y, l2, e2⟩ := RB
    simp only at hbl CB
    have HG0 := Lib.hid (HN.out y e2 l2 hRB)
    have hl2 := hbl.1
    have hy : y < 256 := by omega
    have hwy : IntKind.u8.wrap (y : Int) = (y : Int) := by rw [IntKind.wrap_u8]; omega
    have hwn : IntKind.i64.wrap (n : Int) = (n : Int) := by rw [IntKind.wrap_i64]; omega
    have HY := Lib.hid hwy
    have HWN := Lib.hid hwn
    have ONE := Lib.hid (Ig.one_str y hy)
    obtain ⟨E, hE⟩ : ∃ E, E = Bt.utE (Ty.S [UInt8.ofNat y]) (n : Int) := ⟨_, rfl⟩
    have hut := Bk.S1_ut (UInt8.ofNat y) HNN.out.1 HNN.out.2
    have hbit := fun i (h : i < 8) => Bk.S1_bit (UInt8.ofNat y) h
    have CT := Lib.hid fun wz => Bk.untruths_c (Ty.S [UInt8.ofNat y]) (n : Int) wz (show 1 ≤ 140737488355328 by decide)
    rw [← hE] at hut
    simp only [← hE] at CT
    have HBIT := Lib.hid hbit
    have HUT := Lib.hid hut
    generalize Ty.S [UInt8.ofNat y] = T9 at ONE CT HBIT HUT
    generalize UInt8.ofNat y = b8 at HG0 HBIT HUT
    clear hRB hbl hwy hwn hE hut hbit HN
    by_cases hE0 : E = 0
    · have HZ := Lib.hid (HUT.out.1.1 hE0)
      have HGG := Lib.hid (HG0.out.trans (if_pos HZ.out))
      have HUN := Lib.hid (HUT.out.2.trans (if_pos HZ.out))
      subst hE0
      clear HG0 HUT
      obtain ⟨l0, e0, wr⟩ := s
      simp only at b0 b1 HR HGG cu hl1
      cases wr
      all_goals
        go_enter Tryz.func62, Tryz.ntmps62
        go_wp2_with fail
        with_reducible refine cu.mono ?_
        rintro e w1 ⟨rfl, hc, hg⟩
        have HR1 := Lib.hid (HR.out.moved hc hg hl1)
        have HG1 := Lib.hid hg
        have cb := CB.out w1 HR1.out.cur
        obtain ⟨c0, c1, f0, f1⟩ := Dd.two HR1.out.box
        clear b0 b1 z0 z1 hc hg cu
        go_wp2_with fail
        with_reducible refine cb.mono ?_
        rintro e w2 ⟨rfl, hc, hg⟩
        have HR2 := Lib.hid (HR1.out.moved hc hg hl2)
        have HG2 := Lib.hid (Ty.by_trans HG1.out hg)
        have hwy := HY.out
        have hwn := HWN.out
        have hone := ONE.out w2
        clear c0 c1 f0 f1 hc hg cb
        go_wp2_with fail
        have hB3 : Below w2.heap.size w2 (w2.alloc (.cells #[.int .u8 (y : Int)] 5)) := (Below.refl _ _).alloc (Nat.le_refl _) _
        generalize w2.alloc _ = w3 at hB3 ⊢
        with_reducible refine (CT.out w3).mono ?_
        rintro e w4 ⟨u, rfl, hS, hf, g4⟩
        have HR4 := Lib.hid ((HR2.out.kept hB3).kept g4)
        have HB4 := Lib.hid (hB3.trans (g4.mono hB3.size))
        have hr3 : r < w3.heap.size := Nat.lt_of_lt_of_le HR2.out.lt.1 hB3.size
        have HS := Lib.hid fun x : Bool => (Bk.sl_congr (g := Bt.bv fun i => b8.toNat.testBit i) (Bk.sl_set (i := 1) hS hf hr3 (.bool x)) HUN.out.symm fun i hi => by
          unfold Bt.bv
          rw [HBIT.out i (by rw [HUN.out] at hi; have := HNN.out.2; omega)])
        obtain ⟨c0, c1, f0, f1⟩ := Dd.two HR4.out.box
        obtain ⟨ua, un, rfl, -⟩ := hS
        clear hwy hwn hone hB3 hf g4
        go_wp2
        go_ret
        refine ⟨_, rfl, by rw [HGG.out]; exact HS.out _, by rw [HGG.out]; exact HR4.out.marked _, fun B hr hb hs => ?_⟩
        have h2 := Ty.below_at HG2.out hs hb
        exact Cl.below_cell (h2.trans (HB4.out.mono (Nat.le_trans hs h2.size))) hr _
    · have HZ := Lib.hid fun h => hE0 (HUT.out.1.2 h)
      have HGG := Lib.hid (HG0.out.trans (if_neg HZ.out))
      have HUN := Lib.hid (HUT.out.2.trans (if_neg HZ.out))
      have hEb : ((E : Int) != 0) = true := by rw [bne_iff_ne]; omega
      clear HG0 HUT hE0
      obtain ⟨l0, e0, wr⟩ := s
      simp only at b0 b1 HR HGG cu hl1
      cases wr
      all_goals
        go_enter Tryz.func62, Tryz.ntmps62
        go_wp2_with fail
        with_reducible refine cu.mono ?_
        rintro e w1 ⟨rfl, hc, hg⟩
        have HR1 := Lib.hid (HR.out.moved hc hg hl1)
        have HG1 := Lib.hid hg
        have cb := CB.out w1 HR1.out.cur
        obtain ⟨c0, c1, f0, f1⟩ := Dd.two HR1.out.box
        clear b0 b1 z0 z1 hc hg cu
        go_wp2_with fail
        with_reducible refine cb.mono ?_
        rintro e w2 ⟨rfl, hc, hg⟩
        have HR2 := Lib.hid (HR1.out.moved hc hg hl2)
        have HG2 := Lib.hid (Ty.by_trans HG1.out hg)
        have hwy := HY.out
        have hwn := HWN.out
        have hone := ONE.out w2
        clear c0 c1 f0 f1 hc hg cb
        go_wp2_with fail
        have hB3 : Below w2.heap.size w2 (w2.alloc (.cells #[.int .u8 (y : Int)] 5)) := (Below.refl _ _).alloc (Nat.le_refl _) _
        generalize w2.alloc _ = w3 at hB3 ⊢
        with_reducible refine (CT.out w3).mono ?_
        rintro e w4 ⟨u, rfl, hS, hf, g4⟩
        have HR4 := Lib.hid ((HR2.out.kept hB3).kept g4)
        have HB4 := Lib.hid (hB3.trans (g4.mono hB3.size))
        have hr3 : r < w3.heap.size := Nat.lt_of_lt_of_le HR2.out.lt.1 hB3.size
        have HS := Lib.hid (Bk.sl_congr (m := 0) (g := Bt.bv fun i => (0 : UInt8).toNat.testBit i) (Bk.sl_set (i := 1) hS hf hr3 (.bool true)) HUN.out.symm fun i hi => by
          rw [HUN.out] at hi
          omega)
        obtain ⟨c0, c1, f0, f1⟩ := Dd.two HR4.out.box
        obtain ⟨ua, un, rfl, -⟩ := hS
        clear hwy hwn hone hB3 hf g4
        go_wp2
        go_ret
        refine ⟨_, rfl, by rw [HGG.out]; exact HS.out, by rw [HGG.out]; exact HR4.out.marked _, fun B hr hb hs => ?_⟩
        have h2 := Ty.below_at HG2.out hs hb
        exact Cl.below_cell (h2.trans (HB4.out.mono (Nat.le_trans hs h2.size))) hr _
end Go.Proofs.YtfbjmehkipcmbaaGreatDoor

namespace Go.Proofs.YtfbjmehkipcmbaaGreatDoor
open Go.RowKit
open Ty (num txt)
/-! The giving out, by the rows that a column has. -/
theorem Bk.hl_nil (i : Nat) (R : Nat → Option Addr × Nat × Nat) : ∀ (k : Nat) (l : List Dd.D) (vs : List Kn.V), Bk.hl i R k l = [] → Bk.give i l vs = l
  | _, [], _, _ => rfl
  | k, d :: l, vs, h => by
    unfold Bk.hl at h
    unfold Bk.give
    by_cases hh : Bk.has i d = true
    · rw [if_pos hh] at h; cases h
    · rw [if_neg hh] at h ⊢
      rw [Bk.hl_nil i R (k + 1) l vs h]
structure Bk.MidG (i : Nat) (R : Nat → Option Addr × Nat × Nat) (A : List Dd.D) (vs : List Kn.V) (hd : List (Option Addr × Nat × Nat)) (B : List Dd.D) (j k : Nat) : Prop where
  len : B.length = A.length
  le : j ≤ A.length
  tail : B.drop j = A.drop j
  held : hd.drop k = Bk.hl i R j (A.drop j)
  cnt : k + ((A.drop j).filter (Bk.has i)).length = vs.length
  val : Bk.give i A vs = B.take j ++ Bk.give i (A.drop j) (vs.drop k)
theorem Bk.MidG.start {i : Nat} {R : Nat → Option Addr × Nat × Nat} {A : List Dd.D} {vs : List Kn.V} (h : vs.length = (A.filter (Bk.has i)).length) : Bk.MidG i R A vs (Bk.hl i R 0 A) A 0 0 :=
  ⟨rfl, Nat.zero_le _, rfl, rfl, by rw [List.drop_zero, Nat.zero_add, h], rfl⟩
theorem Bk.MidG.at_ {i : Nat} {R : Nat → Option Addr × Nat × Nat} {A B : List Dd.D} {vs : List Kn.V} {hd : List (Option Addr × Nat × Nat)} {j k : Nat} (h : Bk.MidG i R A vs hd B j k) : B[j]? = A[j]? := by
  have := congrArg (fun l => l[0]?) h.tail
  simpa using this
theorem Bk.MidG.next {i : Nat} {R : Nat → Option Addr × Nat × Nat} {A : List Dd.D} {vs : List Kn.V} {hd : List (Option Addr × Nat × Nat)} {k : Nat} : ∀ (n j : Nat) (B : List Dd.D), A.length - j = n → Bk.MidG i R A vs hd B j k → k < hd.length →
    ∃ j' d x, B[j']? = some d ∧ Bk.has i d = true ∧ hd[k]? = some (R j') ∧ vs[k]? = some x ∧ Bk.MidG i R A vs hd (B.set j' ⟨d.gone, d.row.set i x⟩) (j' + 1) (k + 1)
  | 0, j, B, hn, h, hk => by
    have : A.drop j = [] := List.drop_eq_nil_of_le (by omega)
    have h2 := h.held
    rw [this] at h2
    have h3 : (hd.drop k).length = 0 := by rw [h2]; rfl
    rw [List.length_drop] at h3
    omega
  | n + 1, j, B, hn, h, hk => by
    have hb := h.at_
    have hjA : j < A.length := by omega
    have hjB : j < B.length := by rw [h.len]; exact hjA
    rw [List.getElem?_eq_getElem hjA, List.getElem?_eq_getElem hjB, Option.some.injEq] at hb
    have hdr : A.drop j = B[j] :: A.drop (j + 1) := by rw [List.drop_eq_getElem_cons hjA, hb]
    have ht := h.tail
    have hheld := h.held
    have hcnt := h.cnt
    have hval := h.val
    rw [hdr] at hheld hcnt hval
    unfold Bk.hl at hheld
    rw [List.filter_cons] at hcnt
    have htl : B.drop (j + 1) = A.drop (j + 1) := by
      have := congrArg List.tail ht
      simpa using this
    by_cases hh : Bk.has i B[j] = true
    · rw [if_pos hh] at hheld hcnt
      rw [List.length_cons] at hcnt
      have hkv : k < vs.length := by omega
      have hvs : vs.drop k = vs[k] :: vs.drop (k + 1) := List.drop_eq_getElem_cons hkv
      refine ⟨j, B[j], vs[k], List.getElem?_eq_getElem hjB, hh, ?_, List.getElem?_eq_getElem hkv, ?_⟩
      · have := congrArg (fun l => l[0]?) hheld
        simpa using this
      · refine ⟨by rw [List.length_set]; exact h.len, hjA, ?_, ?_, by omega, ?_⟩
        · rw [List.drop_set_of_lt (by omega)]
          exact htl
        · have := congrArg List.tail hheld
          simpa using this
        · rw [hval, hvs]
          conv => lhs; rw [Bk.give, if_pos hh]
          rw [List.headD_cons, List.tail_cons, List.take_succ_eq_append_getElem (by rw [List.length_set]; exact hjB), List.getElem_set_self, List.take_set_of_le (Nat.le_refl _), List.append_assoc]
          rfl
    · rw [if_neg hh] at hheld hcnt
      refine Bk.MidG.next n (j + 1) B (by omega) ⟨h.len, hjA, htl, hheld, hcnt, ?_⟩ hk
      rw [hval, List.take_succ_eq_append_getElem hjB, List.append_assoc]
      conv => lhs; rw [Bk.give, if_neg hh]
      rfl
theorem Bk.MidG.done {i : Nat} {R : Nat → Option Addr × Nat × Nat} {A B : List Dd.D} {vs : List Kn.V} {hd : List (Option Addr × Nat × Nat)} {j k : Nat} (h : Bk.MidG i R A vs hd B j k) (hk : k = hd.length) : Bk.give i A vs = B := by
  have h2 := h.held
  rw [hk, List.drop_length] at h2
  rw [h.val, Bk.hl_nil i R j _ _ h2.symm, ← h.tail, List.take_append_drop]
theorem Bk.wide_set {w i j : Nat} {A : List Dd.D} {d : Dd.D} (h : Bk.Wide w A) (hd : A[j]? = some d) (x : Kn.V) : Bk.Wide w (A.set j ⟨d.gone, d.row.set i x⟩) := fun y hy => by
  rcases List.mem_or_eq_of_mem_set hy with hy | rfl
  · exact h y hy
  · rw [List.length_set]
    exact h d (List.mem_of_getElem? hd)
theorem Bk.wide_has {w i : Nat} (hi : i < w) {d : Dd.D} (hd : d.row.length = Bk.wdt w d.gone) (h : Bk.has i d = true) : i < d.row.length := by
  unfold Bk.has at h
  unfold Bk.wdt at hd
  rw [hd]
  cases hg : d.gone
  · rw [if_neg (by decide)]; exact hi
  · rw [hg] at h
    have : i = 0 := by simpa using h
    rw [if_pos rfl]
    omega
/-! The deeds in memory. -/
def Bk.mx (A : List Dd.D) (R : Nat → Option Addr × Nat × Nat) (i : Nat) : Value := if i % 2 = 0 then .bool (A.getD (i / 2) Bk.nod).gone else Bk.sv (R (i / 2))
structure Bk.Mx (q : Nat) (w : World) (R : Nat → Option Addr × Nat × Nat) (A : List Dd.D) : Prop where
  row : w.rowIs q 37 (A.length * 2) (Bk.mx A R)
  rows : ∀ j d, A[j]? = some d → ∃ g, R j = (some ⟨g, 0, none⟩, d.row.length, d.row.length) ∧ q < g ∧ Cl.Row w g d.row.length (fun k => d.row.getD k Cl.nul)
  sep : ∀ j k, j < A.length → k < A.length → j ≠ k → ∀ g, (R j).1 = some ⟨g, 0, none⟩ → (R k).1 ≠ some ⟨g, 0, none⟩
theorem Bk.Mx.same {q : Nat} {w w' : World} {R : Nat → Option Addr × Nat × Nat} {A : List Dd.D} (h : Bk.Mx q w R A) (g : ∀ k, q ≤ k → k < w.heap.size → w'.heap[k]? = w.heap[k]?) : Bk.Mx q w' R A := by
  refine ⟨h.row.of_block (g q (Nat.le_refl _) h.row.lt), fun j d hd => ?_, h.sep⟩
  obtain ⟨b, h1, h2, h3⟩ := h.rows j d hd
  exact ⟨b, h1, h2, World.rowIs.of_block h3 (g b (by omega) h3.lt)⟩
theorem Bk.Mx.kept {q : Nat} {w w' : World} {R : Nat → Option Addr × Nat × Nat} {A : List Dd.D} (h : Bk.Mx q w R A) (g : Below w.heap.size w w') : Bk.Mx q w' R A := h.same fun k _ hk => g.block k hk
theorem Bk.Mx.by_ {q b : Nat} {w w' : World} {R : Nat → Option Addr × Nat × Nat} {A : List Dd.D} (h : Bk.Mx q w R A) (g : w.grownBy w' (some b)) (hb : b < q) : Bk.Mx q w' R A :=
  h.same fun k hq hk => g.block k hk (fun e => by have := Option.some.inj e; omega)
theorem Bk.Mx.cells {q : Nat} {w : World} {R : Nat → Option Addr × Nat × Nat} {A : List Dd.D} (h : Bk.Mx q w R A) {j : Nat} {d : Dd.D} (hd : A[j]? = some d) : w.cell? ⟨q, j * 2, none⟩ = some (.bool d.gone) ∧ w.cell? ⟨q, j * 2 + 1, none⟩ = some (Bk.sv (R j)) := by
  have hl := (List.getElem?_eq_some_iff.1 hd).1
  constructor
  · rw [h.row.cell (by omega)]
    unfold Bk.mx
    rw [if_pos (by omega), show j * 2 / 2 = j by omega, List.getD_eq_getElem?_getD, hd]
    rfl
  · rw [h.row.cell (by omega)]
    unfold Bk.mx
    rw [if_neg (by omega), show (j * 2 + 1) / 2 = j by omega]
theorem Bk.Mx.dr {q : Nat} {w : World} {R : Nat → Option Addr × Nat × Nat} {A : List Dd.D} (h : Bk.Mx q w R A) (c : Nat) : Bk.Dr w (.slice (some ⟨q, 0, none⟩) A.length c) A R :=
  ⟨_, c, rfl, .inr ⟨q, 0, rfl, h.row.lt, fun i x hx => by rw [Nat.zero_add]; exact h.cells hx⟩⟩
theorem Bk.Mx.ds {q : Nat} {w : World} {R : Nat → Option Addr × Nat × Nat} {A : List Dd.D} (h : Bk.Mx q w R A) (h8 : A.length ≤ 8) (h6 : ∀ d ∈ A, d.row.length ≤ 6) : Bk.Ds w (.slice (some ⟨q, 0, none⟩) A.length A.length) A := by
  refine ⟨_, A.length, rfl, Nat.le_refl _, by omega, .inr ⟨q, 0, rfl, h.row.lt, fun i x hx => ?_⟩⟩
  rw [Nat.zero_add]
  obtain ⟨c0, c1⟩ := h.cells hx
  obtain ⟨g, hg, _, hr⟩ := h.rows i x hx
  rw [hg] at c1
  have hm := h6 x (List.mem_of_getElem? hx)
  exact ⟨_, c0, c1, hr.vals rfl (fun k v hk => by rw [List.getD_eq_getElem?_getD, hk]; rfl) (by omega)⟩
theorem Bk.Mx.put {q : Nat} {w : World} {R : Nat → Option Addr × Nat × Nat} {A : List Dd.D} (h : Bk.Mx q w R A) {j : Nat} {d : Dd.D} (hd : A[j]? = some d) {g : Nat} (hg : (R j).1 = some ⟨g, 0, none⟩) {i : Nat} (x : Kn.V) :
    Bk.Mx q (((w.setCell ⟨g, i * 3, none⟩ (.bool x.null)).setCell ⟨g, i * 3 + 1, none⟩ (.int .i64 x.n)).setCell ⟨g, i * 3 + 2, none⟩ (.string x.s)) R (A.set j ⟨d.gone, d.row.set i x⟩) := by
  have hjl := (List.getElem?_eq_some_iff.1 hd).1
  obtain ⟨g', e, hq, hr⟩ := h.rows j d hd
  have : g' = g := by rw [e] at hg; simpa using hg
  subst this
  have hoth : ∀ k, k ≠ g' → (((w.setCell ⟨g', i * 3, none⟩ (.bool x.null)).setCell ⟨g', i * 3 + 1, none⟩ (.int .i64 x.n)).setCell ⟨g', i * 3 + 2, none⟩ (.string x.s)).heap[k]? = w.heap[k]? := fun k hk =>
    (Below.heap_setCell _ _ _ _ hk).trans ((Below.heap_setCell _ _ _ _ hk).trans (Below.heap_setCell _ _ _ _ hk))
  refine ⟨?_, fun k y hy => ?_, by rw [List.length_set]; exact h.sep⟩
  · rw [List.length_set]
    refine World.rowIs.congr (h.row.of_block (hoth q (by omega))) fun m hm => ?_
    unfold Bk.mx
    split
    · congr 1
      simp only [List.getD_eq_getElem?_getD, List.getElem?_set]
      by_cases e3 : j = m / 2
      · rw [if_pos e3, if_pos hjl, ← e3, hd]
        rfl
      · rw [if_neg e3]
    · rfl
  · rw [List.getElem?_set] at hy
    by_cases e2 : j = k
    · subst e2
      rw [if_pos rfl, if_pos hjl] at hy
      obtain rfl := Option.some.inj hy
      refine ⟨g', by rw [e, List.length_set], hq, ?_⟩
      rw [List.length_set]
      refine Cl.Row.congr (hr.setV i x) fun m hm => ?_
      simp only [List.getD_eq_getElem?_getD, List.getElem?_set]
      by_cases e3 : m = i
      · subst e3
        rw [if_pos rfl, if_pos rfl, if_pos hm]
        rfl
      · rw [if_neg e3, if_neg (fun h => e3 h.symm)]
    · rw [if_neg e2] at hy
      obtain ⟨g2, f1, f2, f3⟩ := h.rows k y hy
      have hkl := (List.getElem?_eq_some_iff.1 hy).1
      refine ⟨g2, f1, f2, World.rowIs.of_block f3 (hoth g2 fun e4 => ?_)⟩
      subst e4
      exact h.sep j k hjl hkl e2 g2 hg (by rw [f1])
structure Bk.Btw (q s : Nat) (w w' : World) : Prop where
  os : w'.os = w.os
  tape : w'.tape = w.tape
  output : w'.output = w.output
  size : w.heap.size ≤ w'.heap.size
  block : ∀ k, k < w.heap.size → (k ≤ q ∨ s ≤ k) → w'.heap[k]? = w.heap[k]?
theorem Bk.Btw.refl (q s : Nat) (w : World) : Bk.Btw q s w w := ⟨rfl, rfl, rfl, Nat.le_refl _, fun _ _ _ => rfl⟩
theorem Bk.Btw.set {q s : Nat} {w w' : World} (h : Bk.Btw q s w w') {g : Nat} (h1 : q < g) (h2 : g < s) (i : Nat) (u : Value) : Bk.Btw q s w (w'.setCell ⟨g, i, none⟩ u) :=
  ⟨h.os, h.tape, h.output, by have := h.size; simpa [World.setCell] using this, fun k hk hq => (Below.heap_setCell _ _ _ _ (by show k ≠ g; omega)).trans (h.block k hk hq)⟩
theorem Bk.Btw.below {q s B : Nat} {w w' : World} (h : Bk.Btw q s w w') (hB : B ≤ q) (hs : B ≤ w.heap.size) : Below B w w' := ⟨h.os, h.tape, h.output, h.size, fun k hk => h.block k (by omega) (.inl (by omega))⟩
theorem Bk.by_of {b : Nat} {w w' : World} (g : Below w.heap.size w w') : w.grownBy w' (some b) := ⟨g.os, g.tape, g.output, g.size, fun k hk _ => g.block k hk⟩
theorem Bk.below_of {b B : Nat} {w w' : World} (g : w.grownBy w' (some b)) (hb : B ≤ b) (hB : B ≤ w.heap.size) : Below B w w' := Ty.below_at g hB hb
theorem Bk.vals_btw {q s : Nat} {w w' : World} {v : Value} {L : List Kn.V} (h : Kn.Vals w v L) (hf : Dd.Fresh s v) (g : Bk.Btw q s w w') : Kn.Vals w' v L := by
  obtain ⟨a, c, rfl, h⟩ := h
  refine ⟨a, c, rfl, ?_⟩
  rcases h with h | ⟨b, o, rfl, hlt, hm, h⟩
  · exact .inl h
  · have hb : w'.heap[b]? = w.heap[b]? := g.block b hlt (.inr (hf b rfl))
    have hc : ∀ j, w'.cell? ⟨b, j, none⟩ = w.cell? ⟨b, j, none⟩ := fun j => World.cell?_of_block (a := ⟨b, j, none⟩) hb
    exact .inr ⟨b, o, rfl, Nat.lt_of_lt_of_le hlt g.size, hm, fun i x hx => ⟨(hc _).trans (h i x hx).c0, (hc _).trans (h i x hx).c1, (hc _).trans (h i x hx).c2⟩⟩
theorem Bk.Rdr.btw {r b q s : Nat} {w w' : World} {t : Dd.St} (h : Bk.Rdr r b w t) (g : Bk.Btw q s w w') (hr : r < q) (hb : b < q) : Bk.Rdr r b w' t :=
  h.same g.size (fun k hk => g.block k (by have := h.lt.1; have := h.gr; omega) (.inl (by have := h.gr; omega))) (g.block r h.lt.1 (.inl (by omega))) (g.block b h.lt.2 (.inl (by omega)))
def Bk.Cld (r b q : Nat) (w : World) (R : Nat → Option Addr × Nat × Nat) (X : List Dd.D × Dd.St) (e : Ending) (w' : World) : Prop :=
  e = .returned (.tuple #[]) ∧ Bk.Rdr r b w' X.2 ∧ Bk.Mx q w' R X.1 ∧ ∀ B, B ≤ r → B ≤ b → Below B w w'
theorem Bk.stC_bad1 {c : Kn.C} {i : Nat} {A : List Dd.D} {s : Dd.St} {t l2 : List UInt8} {e2 : Nat} (h : Bk.rdL s = (t, l2, e2)) (hn : ¬ Bk.okS c i A t) : Bk.stC c i A s = (A, ⟨l2, e2, true⟩) := by
  unfold Bk.stC
  rw [h]
  exact if_neg hn
theorem Bk.stC_ok1 {c : Kn.C} {i : Nat} {A : List Dd.D} {s : Dd.St} {t l2 : List UInt8} {e2 : Nat} (h : Bk.rdL s = (t, l2, e2)) (hn : Bk.okS c i A t) : Bk.stC c i A s = (Bk.give i A (Cl.rd c t).2, ⟨l2, e2, s.wr⟩) := by
  unfold Bk.stC
  rw [h]
  exact if_pos hn
end Go.Proofs.YtfbjmehkipcmbaaGreatDoor
