import Derived.Test.YtbelkhkllneifaaGreatDoorWEBA
import Derived.Test.YtbelkhkllneifaaGreatDoorWEBC
import Derived.Test.YtbelkhkllneifaaGreatDoorWEBB
import Derived.Test.YtbelkhkllneifaaGreatDoorWEAP
import Derived.Test.YtbelkhkllneifaaGreatDoorWEAK
import Derived.Test.YtbelkhkllneifaaGreatDoorWEAL
import Derived.Deep.RegionHeld3
namespace Go.Proofs.YtbelkhkllneifaaGreatDoor
section
open Go Go.RowKit
def Rn.EarlyD (w : World) (L : List Dd.D) (e : Ending) (w' : World) : Prop := ∃ a n c, e = .returned (.slice a n c) ∧ Bk.Ds w' (.slice a n c) (L.take 200) ∧ Below w.heap.size w w'
set_option maxHeartbeats 2000000 in
set_option maxRecDepth 100000 in
theorem Rn.early_c {w : World} {v : Value} {L : List Dd.D} (h : Bk.Ds w v L) :
 Calls Tryz.prog 10 #[v] w (Rn.EarlyD w L) := by
 have HD := Lib.hid h
 obtain ⟨a, c, rfl, hlc, hcm, hb⟩ := h
 obtain ⟨k, hk⟩ : ∃ k, k = (min (L.length : Int) 200).toNat := ⟨_, rfl⟩
 have HK : Hid (k ≤ L.length ∧ L.take 200 = L.take k) := Lib.hid (by
  refine ⟨by omega, ?_⟩
  rcases Nat.lt_or_ge 200 L.length with h | h
  ·rw [show k = 200 by omega]
  ·rw [show k = L.length by omega, List.take_length, List.take_of_length_le h])
 have HP : Hid (∀ W a n c, Below w.heap.size w W → Bk.Ds W (.slice a n c) (L.take k) → Rn.EarlyD w L (.returned (.slice a n c)) W) := Lib.hid fun W a n c g hd => ⟨a, n, c, rfl, by rw [HK.out.2]; exact hd, g⟩
 generalize Rn.EarlyD w L = post at HP ⊢
 have hm2 : min (L.length : Int) 200 ≤ (c : Int) := by omega
 have hm3 : (0 : Int) ≤ min (L.length : Int) 200 := by omega
 rcases hb with h0 | ⟨b, o, rfl, hlt, -⟩
 ·subst h0
  have HQ : Hid (∀ W, Bk.Ds W (.slice a (min (0 : Int) 200).toNat c) (([] : List Dd.D).take k)) := Lib.hid fun W => by
   rw [List.take_nil]
   exact ⟨a, c, rfl, Nat.zero_le _, hcm, .inl rfl⟩
  clear HK HD
  go_enter Tryz.func10, Tryz.ntmps10
  go_wp2
  exact HP.out _ _ _ _ (Below.refl _ _) (HQ.out _)
 ·have HQ : Hid (∀ W, Below w.heap.size w W → Bk.Ds W (.slice (some ⟨b, o, none⟩) k c) (L.take k)) := Lib.hid fun W g => by
   rcases Nat.eq_zero_or_pos k with h0 | h0
   ·rw [h0, List.take_zero]
    exact ⟨_, c, rfl, Nat.zero_le _, hcm, .inr ⟨b, o, rfl, Nat.lt_of_lt_of_le hlt g.size, fun i x hx => by simp at hx⟩⟩
   ·have := Rn.ds_cut (HD.out.later g) (i := 0) h0 HK.out.1
    simpa using this
  rw [hk] at HQ HP
  clear hlt HK HD hk
  go_enter Tryz.func10, Tryz.ntmps10
  go_wp2
  exact HP.out _ _ _ _ (Below.refl _ _) (HQ.out _ (Below.refl _ _))
def Rn.LdD (w : World) (s : List Kn.C) (L : List Dd.D) (e : Ending) (w' : World) : Prop :=
 ((Rn.wE s L ≠ 0 ∧ e = .returned (.pointer none)) ∨ ∃ p, Rn.wE s L = 0 ∧ e = .returned (.pointer (some ⟨p, 0, none⟩)) ∧ Rn.P w' p s L) ∧ Below w.heap.size w w'
set_option maxHeartbeats 2000000 in
set_option maxRecDepth 100000 in
theorem Rn.loaded_c (vs v : Value) (s : List Kn.C) (L : List Dd.D) (w : World) (hT : Ty.Tabs w) (hs : Dd.Cols w vs s) (hv : Bk.Ds w v L) (hz : Bk.Zs L) (hi : ∀ d ∈ L, ∀ x ∈ d.row, Ty.I64 x.n) (h2 : L.length ≤ 200) :
 Calls Tryz.prog 13 #[vs, v] w (Rn.LdD w s L) := by
 have CW := Rn.pwrite_c vs v s L w hT hs hv hz hi h2
 have CL := Lib.hid fun (wz : World) (g : Below w.heap.size w wz) (h : Rn.wE s L = 0) => Rn.load_c vs s L wz (Ty.Tabs.below hT g (Ty.Tabs.two hT)) (hs.later g).kn h hi h2
 have HPB : Hid (∀ W, Below w.heap.size w W → Rn.wE s L ≠ 0 → Rn.LdD w s L (.returned (.pointer none)) W) := Lib.hid fun W g h => ⟨.inl ⟨h, rfl⟩, g⟩
 have HPG : Hid (∀ W p, Below w.heap.size w W → Rn.wE s L = 0 → Rn.P W p s L → Rn.LdD w s L (.returned (.pointer (some ⟨p, 0, none⟩))) W) := Lib.hid fun W p g h hp => ⟨.inr ⟨p, h, rfl, hp⟩, g⟩
 generalize Rn.LdD w s L = post at HPB HPG ⊢
 obtain ⟨a, c, rfl, -⟩ := hv
 obtain ⟨⟨sa, sc, rfl, -⟩, -⟩ := hs
 clear hT hz hi h2
 by_cases h0 : Rn.wE s L = 0
 ·rw [Rn.wV_ok h0] at CW
  have H0 := Lib.hid h0
  clear h0
  generalize Ty.S (Rn.enc s L) = T at CW CL
  go_enter Tryz.func13, Tryz.ntmps13
  go_wp2_with fail
  with_reducible refine CW.mono ?_
  rintro e w1 ⟨rfl, g1⟩
  have HG1 := Lib.hid g1
  clear g1 CW
  go_wp2_with fail
  with_reducible refine (CL.out w1 HG1.out H0.out).mono ?_
  rintro e w2 ⟨p, rfl, hp, g2⟩
  have HG2 : Hid (Below w.heap.size w w2) := Lib.hid (HG1.out.trans (g2.mono HG1.out.size))
  have HP := Lib.hid hp
  clear g2 hp
  go_wp2
  exact HPG.out _ _ HG2.out H0.out HP.out
 ·rw [Rn.wV_bad rfl h0] at CW
  have H0 := Lib.hid h0
  have hne : ¬ (Rn.wE s L : Int) = 0 := h0
  clear h0 CL
  generalize Rn.wE s L = E at CW HPB HPG H0 hne
  generalize Ty.S [] = T at CW
  go_enter Tryz.func13, Tryz.ntmps13
  go_wp2_with fail
  with_reducible refine CW.mono ?_
  rintro e w1 ⟨rfl, g1⟩
  have HG1 := Lib.hid g1
  clear g1 CW
  go_wp2
  exact HPB.out _ HG1.out H0.out
def Rn.tenL (k : Nat) : List Dd.D := (List.range k).map fun (i : Nat) => ⟨false, [Cl.ofN (i : Int)]⟩
theorem Rn.tenL_next (k : Nat) : Rn.tenL (k + 1) = Rn.tenL k ++ [⟨false, [Cl.ofN (k : Int)]⟩] := by unfold Rn.tenL; rw [List.range_succ, List.map_append]; rfl
theorem Rn.tenL_len (k : Nat) : (Rn.tenL k).length = k := by unfold Rn.tenL; simp
def Rn.Te (B : Nat) (W : World) (v : Value) (l : List Dd.D) : Prop := ∃ M, Dk.Own 41 2 Rn.e2 B W v M ∧ M.length = l.length ∧ ∀ (i : Nat) (x : Dd.D), l[i]? = some x → ∃ y : Bool × (Option Addr × Nat × Nat), M[i]? = some y ∧ y.1 = x.gone ∧ Sk.Rw B W (Bk.sv y.2) x.row
set_option maxHeartbeats 4000000 in
set_option maxRecDepth 100000 in
theorem Rn.ten_c (w : World) : Calls Tryz.prog 30 #[] w fun e w' => ∃ v, e = .returned v ∧ Bk.Ds w' v (Rn.tenL 10) ∧ Below w.heap.size w w' := by
 go_enter Tryz.func30, Tryz.ntmps30
 go_wp2_with fail
 go_loopw [1, 2] (fun v q wr => ∃ k : Nat, k ≤ 10 ∧ q = .int .i64 k ∧ Rn.Te w.heap.size wr v (Rn.tenL k) ∧ Below w.heap.size w wr) (fun _ q _ => 10 - (intOf q).toNat)
 case atStart => exact ⟨0, Nat.zero_le _, rfl, ⟨[], Dk.Own.nil _ _, rfl, fun i x hx => by simp [Rn.tenL] at hx⟩, Below.refl _ _⟩
 case round =>
  obtain ⟨k, hk, rfl, ⟨M, ho, hl, hx⟩, hg⟩ := hrel
  have HG := Lib.hid hg
  have HX := Lib.hid hx
  have HL := Lib.hid hl
  rw [Rn.tenL_len] at hl
  by_cases hkl : k < 10
  ·have HK := Lib.hid hkl
   have dk : (k : Int) < (10 : Int) := by omega
   have dk0 : (0 : Int) ≤ (k : Int) := by omega
   have HAL : Hid (Below wr.heap.size wr (wr.alloc (.cells #[.bool false, .int .i64 (k : Int), .string ⟨#[]⟩] 33))) := Lib.hid ((Below.refl _ _).alloc (Nat.le_refl _) _)
   have HO : Hid (Dk.Own 41 2 Rn.e2 w.heap.size (wr.alloc (.cells #[.bool false, .int .i64 (k : Int), .string ⟨#[]⟩] 33)) _ M) := Lib.hid (ho.kept HAL.out)
   have HR : Hid (Sk.Rw w.heap.size (wr.alloc (.cells #[.bool false, .int .i64 (k : Int), .string ⟨#[]⟩] 33)) (.slice (some ⟨wr.heap.size, 0, none⟩) 1 1) [Cl.ofN (k : Int)]) := Lib.hid (World.ownsRow_lit wr #[.bool false, .int .i64 (k : Int), .string ⟨#[]⟩] 1 hg.size (by decide) rfl)
   have HML : Hid (M.length ≤ 9) := Lib.hid (by omega)
   have HN := Lib.hid (Rn.tenL_next k)
   have HF : Hid (∀ (b : Nat) (cs : Array Value) w5 v5, Ty.Grew (wr.alloc (.cells #[.bool false, .int .i64 (k : Int), .string ⟨#[]⟩] 33)) w5 _ v5 → (wr.alloc (.cells #[.bool false, .int .i64 (k : Int), .string ⟨#[]⟩] 33)).heap[b]? = some (.cells cs 33 (0, 0)) → w5.heap[b]? = (wr.alloc (.cells #[.bool false, .int .i64 (k : Int), .string ⟨#[]⟩] 33)).heap[b]?) := Lib.hid fun b cs w5 v5 g hb => Rn.off HO.out g hb (by decide)
   clear hx hl ho hg hk hkl
   go_upto_region 5 with (fail)
   go_wp2_with (at_builtin; (refine Dk.wpList_append1 23 _ 32 Tryz.underlying23 Rn.infoD rfl (by decide) Rn.e2_len Rn.e2_one (false, (some ⟨wr.heap.size, 0, none⟩, 1, 1)) HO.out (by have := HG.out.size; have := HAL.out.size; omega) (by have := HML.out; omega) (by have := HML.out; omega) (wr.heap.size + 1) (by rw [World.size_alloc]) _ rfl (.tmp 7) (.tmp 12) (by rfl) (by rfl) (by rfl) (by rfl) ?_); intro v5 w5 h5 g5)
   have H5 := Lib.hid h5
   have HG5 := Lib.hid g5
   have HB5 : Hid (Below w.heap.size w w5) := Lib.hid ((HG.out.trans (HAL.out.mono HG.out.size)).trans (g5.below (by have := HG.out.size; have := HAL.out.size; omega) HO.out.base_le))
   clear h5 g5
   go_roundw
   case rel =>
    refine ⟨k + 1, HK.out, by simp, ⟨M ++ [(false, (some ⟨wr.heap.size, 0, none⟩, 1, 1))], H5.out, by rw [HN.out, List.length_append, List.length_append, HL.out]; rfl, fun i x hx => ?_⟩, HB5.out⟩
    have rows : ∀ (u : Value) (r : List Kn.V), Sk.Rw w.heap.size (wr.alloc (.cells #[.bool false, .int .i64 (k : Int), .string ⟨#[]⟩] 33)) u r → Sk.Rw w.heap.size w5 u r := fun u r h => h.same fun b hb => by
     obtain ⟨cs, hc⟩ := h.typed b hb
     exact HF.out b cs w5 _ HG5.out hc
    rw [HN.out, List.getElem?_append] at hx
    rw [List.getElem?_append, HL.out]
    split at hx
    ·rename_i hlt
     rw [if_pos hlt]
     obtain ⟨y, e1, e2, e3⟩ := HX.out i x hx
     exact ⟨y, e1, e2, rows _ _ (e3.kept HAL.out)⟩
    ·rename_i hlt
     rw [if_neg hlt]
     rw [List.getElem?_singleton] at hx ⊢
     split at hx
     ·rename_i h0
      rw [if_pos h0]
      obtain rfl := Option.some.inj hx
      exact ⟨_, rfl, rfl, rows _ _ HR.out⟩
     ·cases hx
   case measure => (have := HK.out; simp [intOf]; omega)
  ·obtain rfl : k = 10 := by omega
   have HD := Lib.hid (Rn.Ga.ds ho HL.out HX.out)
   clear hx hl ho hg hk hkl
   go_wp2
   go_ret
   exact ⟨_, rfl, HD.out, HG.out⟩
end
section
open Go Go.RowKit
theorem Rn.liveE : Rn.wE [⟨1, false⟩] (Rn.tenL 10) = 0 := by kernel_rfl
theorem Rn.liveT : Rn.th (Rn.tenL 10) (Cl.ofN 9) = true := by kernel_rfl
theorem Rn.liveA : Rn.at_ (Rn.tenL 10) (Cl.ofN 9) = 9 := by kernel_rfl
theorem Rn.liveL : (Rn.tenL 10)[9]? = some ⟨false, [Cl.ofN 9]⟩ := by kernel_rfl
theorem Rn.liveI {n : Nat} (hn : n ≤ 10) : ∀ d ∈ Rn.tenL n, ∀ x ∈ d.row, Ty.I64 x.n := by
 intro d hd x hx
 unfold Rn.tenL at hd
 obtain ⟨i, hi, rfl⟩ := List.mem_map.1 hd
 rw [List.mem_singleton] at hx
 subst hx
 have := List.mem_range.1 hi
 unfold Ty.I64 Cl.ofN
 dsimp only
 omega
theorem Rn.liveZ (n : Nat) : Bk.Zs (Rn.tenL n) := by
 intro d hd x hx
 unfold Rn.tenL at hd
 obtain ⟨i, hi, rfl⟩ := List.mem_map.1 hd
 rw [List.mem_singleton] at hx
 subst hx
 exact (show (0 : Nat) ≤ 140737488351232 by decide)
theorem Rn.liveC (w : World) : Dd.Cols (w.alloc (.cells #[.int .i64 1, .bool false] 76)) (.slice (some ⟨w.heap.size, 0, none⟩) 1 1) [⟨1, false⟩] := by
 refine ⟨⟨_, 1, rfl, .inr ⟨w.heap.size, 0, rfl, by simp, by simp, fun i x hx => ?_⟩⟩, fun a l c h => by cases h; exact Nat.le_refl _⟩
 have h0 : i = 0 := by
  have := (List.getElem?_eq_some_iff.1 hx).1
  simp at this
  omega
 subst h0
 obtain rfl : (⟨1, false⟩ : Kn.C) = x := by simpa using hx
 exact ⟨Kn.cell_new w _ _ 0 _ rfl, Kn.cell_new w _ _ 1 _ rfl⟩
set_option maxHeartbeats 4000000 in
set_option maxRecDepth 100000 in
theorem Rn.lives_c (w : World) (hT : Ty.Tabs w) : Calls Tryz.prog 9 #[] w fun e w' => e = .returned (.bool true) ∧ Below w.heap.size w w' := by
 have HG1 : Hid (Below w.heap.size w (w.alloc (.cells #[.int .i64 1, .bool false] 76))) := Lib.hid ((Below.refl _ w).alloc (Nat.le_refl _) _)
 have HC := Lib.hid (Rn.liveC w)
 have HT := Lib.hid hT
 clear hT
 go_enter Tryz.func9, Tryz.ntmps9
 go_upto_region 2 with (fail)
 obtain ⟨q, hq⟩ : ∃ q, q = w.heap.size := ⟨_, rfl⟩
 rw [← hq] at HC ⊢
 generalize w.alloc _ = w1 at HC HG1 ⊢
 clear hq
 go_wp2_with fail
 with_reducible refine (Rn.ten_c w1).mono ?_
 rintro e w2 ⟨v, rfl, hv, g2⟩
 have HG2 : Hid (Below w.heap.size w w2) := Lib.hid (HG1.out.trans (g2.mono HG1.out.size))
 have HC2 := Lib.hid (HC.out.later g2)
 have cw := Rn.pwrite_c _ _ _ _ w2 (Ty.Tabs.below HT.out HG2.out (Ty.Tabs.two HT.out)) HC2.out hv (Rn.liveZ 10) (Rn.liveI (Nat.le_refl _)) (by decide)
 rw [Rn.wV_ok Rn.liveE] at cw
 obtain ⟨va, vc, rfl, -⟩ := hv
 have CL := Lib.hid fun (wz : World) (g : Below w2.heap.size w2 wz) => Rn.load_c _ _ _ wz (Ty.Tabs.below HT.out (HG2.out.trans (g.mono HG2.out.size)) (Ty.Tabs.two HT.out)) (HC2.out.later g).kn Rn.liveE (Rn.liveI (Nat.le_refl _)) (by decide)
 generalize Ty.S (Rn.enc [⟨1, false⟩] (Rn.tenL 10)) = T at cw CL
 simp only [Rn.tenL_len] at cw ⊢
 clear g2
 go_wp2_with fail
 with_reducible refine cw.mono ?_
 rintro e w3 ⟨rfl, g3⟩
 have HG3 : Hid (Below w.heap.size w w3) := Lib.hid (HG2.out.trans (g3.mono HG2.out.size))
 have cl := CL.out w3 g3
 clear cw g3
 go_wp2_with fail
 with_reducible refine cl.mono ?_
 rintro e w4 ⟨p, rfl, hp, g4⟩
 have HG4 : Hid (Below w.heap.size w w4) := Lib.hid (HG3.out.trans (g4.mono HG3.out.size))
 have HP := Lib.hid hp
 have cg := Rn.get_c hp ⟨Rn.liveE, by decide⟩ (Cl.ofN 9)
 clear cl g4 hp CL HC HC2
 unfold Kn.V.val Cl.ofN at cg
 go_wp2_with fail
 with_reducible refine cg.mono ?_
 rintro e w5 ⟨hgot, g5⟩
 rw [show (⟨false, 9, ⟨#[]⟩⟩ : Kn.V) = Cl.ofN 9 from rfl, Rn.liveT, Rn.liveA, Rn.liveL] at hgot
 rcases hgot with ⟨h, _⟩ | ⟨d, a, n, c, _, hd, rfl, hu⟩
 ·cases h
 obtain rfl := Option.some.inj hd
 have HG5 : Hid (Below w.heap.size w w5) := Lib.hid (HG4.out.trans (g5.mono HG4.out.size))
 have HP5 := Lib.hid (HP.out.later g5)
 obtain ⟨w6, hw6⟩ : ∃ w6, w6 = w5.alloc (.cells #[.bool false, .slice a n c] 41) := ⟨_, rfl⟩
 have HAL : Hid (Below w5.heap.size w5 w6) := Lib.hid (by rw [hw6]; exact (Below.refl _ _).alloc (Nat.le_refl _) _)
 obtain ⟨⟨ua, uc, e, hv⟩⟩ := hu.later HAL.out
 clear hu
 simp only [Value.slice.injEq, List.length_singleton] at e
 obtain ⟨rfl, rfl, rfl⟩ := e
 rcases hv with h0 | ⟨b, o, rfl, hb, _, hc⟩
 ·exact absurd h0 (by simp)
 obtain ⟨e0, e1, e2⟩ := hc 0 _ rfl
 simp only [Nat.zero_mul, Nat.add_zero] at e0 e1 e2
 unfold Cl.ofN at e1
 have x1 := Kn.cell_new w5 #[.bool false, .slice (some ⟨b, o, none⟩) 1 c] 41 1 _ rfl
 simp only [List.getElem_toArray, List.getElem_cons_zero, List.getElem_cons_succ] at x1
 rw [← hw6] at x1
 have CB := Lib.hid (Rn.blocks_c (HP5.out.later HAL.out))
 have CN := Lib.hid (Rn.len_c (HP5.out.later HAL.out))
 rw [Rn.tenL_len] at CB CN
 have HG6 : Hid (Below w.heap.size w w6) := Lib.hid (HG5.out.trans (HAL.out.mono HG5.out.size))
 have h2 : Rn.nb 10 = 2 := by decide
 rw [h2] at CB
 clear cg g5 hd hb hc h2
 go_upto_region 7 with (fail)
 rw [← hw6]
 clear hw6
 go_wp2_with (first
  | (with_reducible refine CB.out.mono ?_; rintro e w7 ⟨rfl, hw7⟩; subst hw7)
  | (with_reducible refine CN.out.mono ?_; rintro e w7 ⟨rfl, hw7⟩; subst hw7))
 go_ret
 exact ⟨rfl, HG6.out⟩
end
section
open Go Go.RowKit
theorem Rn.grow {w w' w'' : World} (h : Below w.heap.size w w') (g : Below w'.heap.size w' w'') : Below w.heap.size w w'' := h.trans (g.mono h.size)
theorem Rn.tb2 {w w' : World} (h : Ty.Tabs w) (g : Below w.heap.size w w') : Ty.Tabs w' := Ty.Tabs.below h g (Ty.Tabs.two h)
theorem Rn.take_le {L : List Dd.D} : (L.take 200).length ≤ 200 := by rw [List.length_take]; omega
theorem Rn.zs_take {L : List Dd.D} (h : Bk.Zs L) (n : Nat) : Bk.Zs (L.take n) := fun d hd => h d (List.mem_of_mem_take hd)
theorem Rn.i64_take {L : List Dd.D} (h : ∀ d ∈ L, ∀ x ∈ d.row, Ty.I64 x.n) (n : Nat) : ∀ d ∈ L.take n, ∀ x ∈ d.row, Ty.I64 x.n := fun d hd => h d (List.mem_of_mem_take hd)
end
section
open Go Go.RowKit Go.Shelf
attribute [local go_sem] Oper.semAt_some
end
section
open Go.RowKit
end
section
open Go Go.RowKit Go.Shelf
attribute [local go_sem] Oper.semAt_some
theorem Rn.loaded_n (vs v : Value) (s : List Kn.C) (L : List Dd.D) (w : World) (hT : Ty.Tabs w) (hs : Dd.Cols w vs s) (hv : Bk.Ds w v L) (hz : Bk.Zs L) (hi : ∀ d ∈ L, ∀ x ∈ d.row, Ty.I64 x.n) (h2 : L.length ≤ 200) (h0 : Rn.wE s L ≠ 0) :
 Calls Tryz.prog 13 #[vs, v] w fun e w' => e = .returned (.pointer none) ∧ Below w.heap.size w w' := by
 refine (Rn.loaded_c vs v s L w hT hs hv hz hi h2).mono ?_
 rintro e w' ⟨⟨_, rfl⟩ | ⟨p, h, _⟩, g⟩
 ·exact ⟨rfl, g⟩
 ·exact absurd h h0
theorem Rn.loaded_p (vs v : Value) (s : List Kn.C) (L : List Dd.D) (w : World) (hT : Ty.Tabs w) (hs : Dd.Cols w vs s) (hv : Bk.Ds w v L) (hz : Bk.Zs L) (hi : ∀ d ∈ L, ∀ x ∈ d.row, Ty.I64 x.n) (h2 : L.length ≤ 200) (h0 : Rn.wE s L = 0) :
 Calls Tryz.prog 13 #[vs, v] w fun e w' => ∃ p, e = .returned (.pointer (some ⟨p, 0, none⟩)) ∧ Rn.P w' p s L ∧ Below w.heap.size w w' := by
 refine (Rn.loaded_c vs v s L w hT hs hv hz hi h2).mono ?_
 rintro e w' ⟨⟨h, _⟩ | ⟨p, _, rfl, hp⟩, g⟩
 ·exact absurd h0 h
 ·exact ⟨p, rfl, hp, g⟩
end
section
open Go Go.RowKit
def Rn.Fnd (K : List Dd.D) (q : Kn.V) (D : Dd.D) : Prop := (Rn.th K q = false ∧ D = ⟨false, []⟩) ∨ (Rn.th K q = true ∧ K[Rn.at_ K q]? = some D)
def Rn.Wn (K : List Dd.D) (q : Kn.V) (j : Nat) (b : Bool) (D : Dd.D) : Prop := b = (Rn.th K q && decide (Rn.at_ K q < j)) ∧ ((b = false ∧ D = ⟨false, []⟩) ∨ (b = true ∧ K[Rn.at_ K q]? = some D))
def Rn.KS (r : Kn.R) (K : List Dd.D) (k : Nat) : List Kn.V := [r.lo, r.hi] ++ (K.take k).map Bk.key
end
end Go.Proofs.YtbelkhkllneifaaGreatDoor
