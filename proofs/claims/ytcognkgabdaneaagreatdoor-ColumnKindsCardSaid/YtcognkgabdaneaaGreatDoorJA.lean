/-
  The document's answers for package ints: the bytes of runs.
  The document's answers for package ints: the smallest one and the differences.
  The document's answers for package ints: the bytes of packed numbers.
  The document's answers for package ints: With.
-/
import Derived.Test.YtcognkgabdaneaaGreatDoorID
import Derived.Lib.QuietBelow
import Derived.RegionCalls
import Derived.Deep.RegionWith
import Derived.LoopTactic
namespace Go.Proofs.YtcognkgabdaneaaGreatDoor
open Go.RowKit
open Ig (nth encI encR grp)
open Ty (encU num)
theorem Ig.S_add (a b : List UInt8) : Ty.S a ++ Ty.S b = Ty.S (a ++ b) := ByteArray.mk_append_mk a b
theorem Ig.run_of {L : List Int} {d k : Nat} (h0 : 0 < k) (h1 : d + k ≤ L.length) (h2 : ∀ j, j < k → nth L (d + j) = nth L d) (h3 : d + k < L.length → nth L (d + k) ≠ nth L d) : Ig.Run (L.drop d) k := by
  refine ⟨h0, by rw [List.length_drop]; omega, fun j hj => ?_, fun h => ?_⟩
  · rw [Ig.nth_drop, Ig.nth_drop, Nat.add_zero]
    exact h2 j hj
  · rw [List.length_drop] at h
    rw [Ig.nth_drop, Ig.nth_drop, Nat.add_zero]
    exact h3 (by omega)
theorem Ig.below_reg {w w' : World} (h : ∃ p : Regrown, w' = Sort.grow (redrawn w p.d) p.os) : Below w.heap.size w w' := by
  obtain ⟨p, rfl⟩ := h
  exact below_regrown w p.d p.os
set_option maxHeartbeats 1000000 in
set_option maxRecDepth 100000 in
theorem Ig.rruns_c (u : Value) (L : List Int) (w : World) (hL : Ig.At w.heap.size w u L) (hi : ∀ x ∈ L, Ty.I64 x) (hl : L.length ≤ 65536) :
    Calls Tryz.prog 92 #[u] w (Ty.Str w ((grp L).flatMap encR)) := by
  obtain ⟨a, c, rfl, hc, _, h⟩ := hL
  have HI := Lib.hid hi
  have HH := Lib.hid h
  clear hi h
  go_enter Tryz.func92, Tryz.ntmps92
  go_wp2
  go_loopw [3, 4] (fun s i wr => ∃ (d : Nat) (done : List UInt8), d ≤ L.length ∧ i = .int .i64 d ∧ s = .string (Ty.S done) ∧ (grp L).flatMap encR = done ++ (grp (L.drop d)).flatMap encR ∧ done.length ≤ 18 * d ∧ Below w.heap.size w wr) (fun _ i _ => L.length - (intOf i).toNat)
  case atStart => exact ⟨0, [], by omega, rfl, rfl, by simp, by simp, Below.refl _ _⟩
  case round =>
    obtain ⟨d, done, hd, rfl, rfl, hg, hdl, hb⟩ := hrel
    have HG := Lib.hid hg
    clear hg
    by_cases hdn : d < L.length
    · have hdi : (d : Int) < (L.length : Int) := by omega
      have hd0 : (0 : Int) ≤ (d : Int) := by omega
      have hn6 : (L.length : Int) ≤ 65536 := by omega
      have HB0 := Lib.hid hb
      have hx0 := Ig.nth_i64 HI.out hdn
      clear hb
      go_wp2_with fail
      rcases HH.out with h | ⟨b, o, rfl, hlt, h⟩
      · exact absurd hdn (by rw [h]; simp)
      have HC := Lib.hid h
      clear h
      go_loopw [5] (fun n wz => ∃ k : Nat, 1 ≤ k ∧ d + k ≤ L.length ∧ n = .int .i64 k ∧ (∀ j, j < k → nth L (d + j) = nth L d) ∧ Below w.heap.size w wz) (fun n _ => L.length - (intOf n).toNat)
      case atStart => exact ⟨1, by omega, by omega, rfl, fun j hj => by rw [show j = 0 by omega, Nat.add_zero], HB0.out⟩
      case round =>
        obtain ⟨k, hk1, hk2, rfl, hsame, hb⟩ := hrel
        have HS := Lib.hid hsame
        have HB := Lib.hid hb
        have hc0 := (hb.cell (p := ⟨b, o + d, none⟩) hlt).trans (HC.out d hdn)
        have hk0 : (0 : Int) ≤ (k : Int) := by omega
        have hsum : IntKind.i64.wrap ((d : Int) + (k : Int)) = (d : Int) + (k : Int) := by rw [IntKind.wrap_i64]; omega
        have hsum0 : (0 : Int) ≤ (d : Int) + (k : Int) := by omega
        have htn : ((d : Int) + (k : Int)).toNat = d + k := by omega
        clear hsame
        by_cases hcont : d + k < L.length ∧ nth L (d + k) = nth L d
        · obtain ⟨hlt2, heq⟩ := hcont
          have hc1 := (hb.cell (p := ⟨b, o + (d + k), none⟩) hlt).trans (HC.out (d + k) hlt2)
          have hlti : (d : Int) + (k : Int) < (L.length : Int) := by omega
          have hq : (nth L (d + k) == nth L d) = true := by rw [heq]; exact beq_self_eq_true _
          have HE := Lib.hid heq
          obtain ⟨x, ex⟩ : ∃ x, x = nth L (d + k) := ⟨_, rfl⟩
          obtain ⟨y, ey⟩ : ∃ y, y = nth L d := ⟨_, rfl⟩
          rw [← ex] at hc1 hq
          rw [← ey] at hc0 hq
          clear heq ex ey hx0 hb
          go_wp2_with fail
          go_quiet (fail)
          go_wp2
          go_roundw
          case rel => exact ⟨k + 1, by omega, by omega, by simp, fun j hj => by
            rcases Nat.lt_or_ge j k with h | h
            · exact HS.out j h
            · rw [show j = k by omega]; exact HE.out, HB.out.trans ((Bt.drewN_below _ _).mono HB.out.size)⟩
          case measure => simp [intOf]; omega
        · have hR : Ig.Run (L.drop d) k := Ig.run_of (by omega) hk2 HS.out (fun h e => hcont ⟨h, e⟩)
          have HRN := Lib.hid (Ig.runs_next hR)
          rw [Ig.nth_drop, Nat.add_zero] at HRN
          have hx1 := hx0
          obtain ⟨y, ey⟩ : ∃ y, y = nth L d := ⟨_, rfl⟩
          obtain ⟨A, hA⟩ : ∃ A, A = Ty.S (encU k) := ⟨_, rfl⟩
          obtain ⟨B, hBB⟩ : ∃ B, B = Ty.S (Ty.encU (Ty.zig y).toNat) := ⟨_, rfl⟩
          obtain ⟨D, hDD⟩ : ∃ D, D = Ty.S done := ⟨_, rfl⟩
          rw [← ey] at hc0 hx1 HRN
          have hA9 : A.size ≤ 9 := by rw [hA]; exact Ty.encU_len9 k
          have hB9 : B.size ≤ 9 := by rw [hBB]; exact Ty.encU_len9 _
          have hD9 : D.size ≤ 1179648 := by rw [hDD, Ty.size_S]; omega
          have n1 : ¬ 9223372036854775807 < A.size + B.size := by omega
          have n2 : ¬ 9223372036854775807 < D.size + (A.size + B.size) := by omega
          rw [← hDD]
          have HD9 := Lib.hid hD9
          clear hR hx0 hD9 hA9 hB9
          rcases (by omega : (d + k < L.length) ∨ (d + k = L.length)) with hw1 | hw1
          · have hc1 := (hb.cell (p := ⟨b, o + (d + k), none⟩) hlt).trans (HC.out (d + k) hw1)
            have hlti : (d : Int) + (k : Int) < (L.length : Int) := by omega
            have hq : (nth L (d + k) == y) = false := by rw [beq_eq_false_iff_ne, ey]; exact fun e => hcont ⟨hw1, e⟩
            obtain ⟨x, ex⟩ : ∃ x, x = nth L (d + k) := ⟨_, rfl⟩
            rw [← ex] at hc1 hq
            clear ex ey hcont hb
            go_wp2_with fail
            go_quiet (fail)
            have hbn : Below w.heap.size w (wr.drewN nq) := HB.out.trans ((Bt.drewN_below _ _).mono HB.out.size)
            have hcn : (wr.drewN nq).cell? ⟨b, o + d, none⟩ = some (.int .i64 y) := hc0
            generalize wr.drewN nq = wq at hbn hcn ⊢
            have HBN := Lib.hid hbn
            clear hbn hc0
            have hk6 : (k : Int) ≤ 65536 := by omega
            have hwk : IntKind.u64.wrap (k : Int) = (k : Int) := by rw [IntKind.wrap_u64]; omega
            have cU : ∀ p : Regrown, Calls Tryz.prog 23 #[.int .u64 (IntKind.u64.wrap (k : Int))] (Sort.grow (redrawn wq p.d) p.os) fun e w'' => e = .returned (.string A) ∧ ∃ p : Regrown, w'' = Sort.grow (redrawn wq p.d) p.os := fun p => by
              rw [hwk, hA]
              exact Calls.regrown_of (Ty.ruint_nat k _)
            have cI : ∀ p : Regrown, Calls Tryz.prog 94 #[.int .i64 y] (Sort.grow (redrawn wq p.d) p.os) fun e w'' => e = .returned (.string B) ∧ ∃ p : Regrown, w'' = Sort.grow (redrawn wq p.d) p.os := fun p => by
              rw [hBB]
              exact Calls.regrown_of (Ty.rint_c y _ hx1)
            have CU := Lib.hid cU
            rw [hwk] at cU
            have CV := Lib.hid cU
            have CI := Lib.hid cI
            have E0 := fun d os => cell_regrown hcn d os
            have HABD := Lib.hid (And.intro hA (And.intro hBB hDD))
            clear cU cI hwk hA hBB hDD hx1 hcn
            go_wp2_with fail
            refine wp_region_quiet_below (by kernel_rfl) (by kernel_rfl) ?_
            repeat (go_big_quiet_step (first | with_reducible exact CU.out _ | with_reducible exact CV.out _ | with_reducible exact CI.out _))
            refine wpQuiet_nil ?_
            intro _ hw'
            have hbe := HBN.out.trans ((Ig.below_reg hw').mono HBN.out.size)
            go_wp2
            go_roundw
            case rel =>
              obtain ⟨eA, eB, eD⟩ := HABD.out
              refine ⟨d + k, done ++ (encU k ++ encI y), by omega, by simp, ?_, ?_, ?_, hbe⟩
              · rw [eA, eB, eD, Ig.S_add, Ig.S_add]
                first | rfl | simp [encI, Ig.encI]
              · rw [HG.out, HRN.out, List.drop_drop]
                simp
              · have h9 := Ty.encU_len9 k
                have h10 := Ig.len_encI y
                rw [List.length_append, List.length_append]
                omega
            case measure => simp [intOf]; omega
          · have hdd : decide ((d : Int) + (k : Int) < (L.length : Int)) = false := decide_eq_false (by omega)
            clear ey hcont hb hw1
            go_wp2_with fail
            go_quiet (fail)
            have hbn : Below w.heap.size w (wr.drewN nq) := HB.out.trans ((Bt.drewN_below _ _).mono HB.out.size)
            have hcn : (wr.drewN nq).cell? ⟨b, o + d, none⟩ = some (.int .i64 y) := hc0
            generalize wr.drewN nq = wq at hbn hcn ⊢
            have HBN := Lib.hid hbn
            clear hbn hc0
            have hk6 : (k : Int) ≤ 65536 := by omega
            have hwk : IntKind.u64.wrap (k : Int) = (k : Int) := by rw [IntKind.wrap_u64]; omega
            have cU : ∀ p : Regrown, Calls Tryz.prog 23 #[.int .u64 (IntKind.u64.wrap (k : Int))] (Sort.grow (redrawn wq p.d) p.os) fun e w'' => e = .returned (.string A) ∧ ∃ p : Regrown, w'' = Sort.grow (redrawn wq p.d) p.os := fun p => by
              rw [hwk, hA]
              exact Calls.regrown_of (Ty.ruint_nat k _)
            have cI : ∀ p : Regrown, Calls Tryz.prog 94 #[.int .i64 y] (Sort.grow (redrawn wq p.d) p.os) fun e w'' => e = .returned (.string B) ∧ ∃ p : Regrown, w'' = Sort.grow (redrawn wq p.d) p.os := fun p => by
              rw [hBB]
              exact Calls.regrown_of (Ty.rint_c y _ hx1)
            have CU := Lib.hid cU
            rw [hwk] at cU
            have CV := Lib.hid cU
            have CI := Lib.hid cI
            have E0 := fun d os => cell_regrown hcn d os
            have HABD := Lib.hid (And.intro hA (And.intro hBB hDD))
            clear cU cI hwk hA hBB hDD hx1 hcn
            go_wp2_with fail
            refine wp_region_quiet_below (by kernel_rfl) (by kernel_rfl) ?_
            repeat (go_big_quiet_step (first | with_reducible exact CU.out _ | with_reducible exact CV.out _ | with_reducible exact CI.out _))
            refine wpQuiet_nil ?_
            intro _ hw'
            have hbe := HBN.out.trans ((Ig.below_reg hw').mono HBN.out.size)
            go_wp2
            go_roundw
            case rel =>
              obtain ⟨eA, eB, eD⟩ := HABD.out
              refine ⟨d + k, done ++ (encU k ++ encI y), by omega, by simp, ?_, ?_, ?_, hbe⟩
              · rw [eA, eB, eD, Ig.S_add, Ig.S_add]
                first | rfl | simp [encI, Ig.encI]
              · rw [HG.out, HRN.out, List.drop_drop]
                simp
              · have h9 := Ty.encU_len9 k
                have h10 := Ig.len_encI y
                rw [List.length_append, List.length_append]
                omega
            case measure => simp [intOf]; omega
    · obtain rfl : d = L.length := by omega
      have hdi : ¬ (L.length : Int) < (L.length : Int) := by omega
      go_wp2
      go_ret
      exact ⟨by have := HG.out; rw [List.drop_length] at this; simp only [Ig.grp, List.flatMap_nil, List.append_nil] at this; rw [this]; rfl, hb⟩
end Go.Proofs.YtcognkgabdaneaaGreatDoor

namespace Go.Proofs.YtcognkgabdaneaaGreatDoor
open Go.RowKit
open Ig (nth encI encR grp low off)
open Ty (encU num)
set_option maxHeartbeats 1000000 in
theorem Ig.offsets_c (u : Value) (L : List Int) (w : World) (hL : Ig.At w.heap.size w u L) (hi : ∀ x ∈ L, Ty.I64 x) (hne : 0 < L.length) (hl : L.length ≤ 65536) :
    Calls Tryz.prog 104 #[u] w fun e w' => ∃ v, e = .returned (.tuple #[.int .i64 (low L), v]) ∧ Bt.Sl w' v L.length (Bt.nv (off L)) ∧ Below w.heap.size w w' := by
  obtain ⟨a, c, rfl, hc, _, h⟩ := hL
  rcases h with h | ⟨b, o, rfl, hlt, h⟩
  · exact absurd hne (by rw [h]; simp)
  have HW := Lib.hid (fun i (h : i < L.length) => Ig.off_wrap hi h)
  have h0 : w.cell? ⟨b, o, none⟩ = some (.int .i64 (nth L 0)) := by have := h 0 hne; simpa using this
  have hn1 : (0 : Int) < (L.length : Int) := by omega
  have HL1 : Hid (low (L.take 1) = nth L 0) := Lib.hid (Ig.low_one hne)
  have HC := Lib.hid h
  clear h hi
  go_enter Tryz.func104, Tryz.ntmps104
  go_wp2
  go_loop [4, 5] (fun m i => ∃ k : Nat, k ≤ L.length ∧ i = .int .i64 k ∧ m = .int .i64 (low (L.take (max k 1)))) (fun _ i => L.length - (intOf i).toNat)
  case atStart => exact ⟨0, by omega, rfl, by rw [show max 0 1 = 1 from rfl, HL1.out]⟩
  case round =>
    obtain ⟨k, hk, rfl, rfl⟩ := hrel
    clear h0
    by_cases hl2 : k < L.length
    · have hcell := HC.out k hl2
      have hkl : (k : Int) < (L.length : Int) := by omega
      have hk0 : (0 : Int) ≤ (k : Int) := by omega
      have HN : Hid (low (L.take (max (k + 1) 1)) = min (low (L.take (max k 1))) (nth L k)) := Lib.hid (by
        rcases Nat.eq_zero_or_pos k with e | e
        · subst e
          rw [show max (0 + 1) 1 = 1 from rfl, show max 0 1 = 1 from rfl, HL1.out]
          omega
        · rw [show max (k + 1) 1 = k + 1 by omega, show max k 1 = k by omega]
          exact Ig.low_next e hl2)
      obtain ⟨x, ex⟩ : ∃ x, x = nth L k := ⟨_, rfl⟩
      obtain ⟨y, ey⟩ : ∃ y, y = low (L.take (max k 1)) := ⟨_, rfl⟩
      rw [← ex] at hcell HN
      rw [← ey] at HN ⊢
      clear ex ey
      by_cases hxy : y ≤ x
      all_goals
        go_wp2
        all_goals
          go_round
          case rel => exact ⟨k + 1, by omega, by simp, by rw [HN.out]; congr 1; omega⟩
          case measure => simp [intOf]; omega
    · obtain rfl : k = L.length := by omega
      have hkl : ¬ (L.length : Int) < (L.length : Int) := by omega
      have hlow : low (L.take (max L.length 1)) = low L := by rw [show max L.length 1 = L.length by omega, List.take_length]
      rw [hlow]
      clear hlow
      go_wp2
      go_loopw [6, 7] (fun v i wr => ∃ k : Nat, k ≤ L.length ∧ i = .int .i64 k ∧ Bt.Buf 49 w.heap.size wr v k (Bt.nv (off L)) ∧ Below w.heap.size w wr) (fun _ i _ => L.length - (intOf i).toNat)
      case atStart => exact ⟨0, by omega, rfl, Bt.Buf.nil _ _ _ _, Below.refl _ _⟩
      case round =>
        obtain ⟨k, hk, rfl, hBf, hb⟩ := hrel
        have HBf := Lib.hid hBf
        have HB := Lib.hid hb
        have hbs := hb.size
        clear hBf hb
        by_cases hl2 : k < L.length
        · have hcell : wr.cell? ⟨b, o + k, none⟩ = some (.int .i64 (nth L k)) := (HB.out.cell (p := ⟨b, o + k, none⟩) hlt).trans (HC.out k hl2)
          have hkl : (k : Int) < (L.length : Int) := by omega
          have hk0 : (0 : Int) ≤ (k : Int) := by omega
          have HO := Lib.hid (HW.out k hl2)
          generalize nth L k = x at hcell HO
          generalize low L = y at HO ⊢
          go_wp2_with (at_builtin; refine Bt.wpList_append_one 49 121 (.int .u64 0) 8 Tryz.underlying121 Bt.infoU rfl HBf.out hbs (by omega) (by omega) (.tmp 29) (.tmp 38) _ rfl rfl rfl rfl rfl ?_; intro v1 w1 h1 g1)
          have H1 := Lib.hid (h1 (by unfold Bt.nv; rw [← HO.out]))
          have G1 := Lib.hid (g1.below hbs HBf.out.base_le)
          clear h1 g1
          go_roundw
          case rel => exact ⟨k + 1, by omega, by simp, H1.out, HB.out.trans G1.out⟩
          case measure => simp [intOf]; omega
        · obtain rfl : k = L.length := by omega
          have hkl2 : ¬ (L.length : Int) < (L.length : Int) := by omega
          go_wp2
          go_ret2
          exact ⟨_, rfl, Bt.Buf.sl HBf.out, HB.out⟩
end Go.Proofs.YtcognkgabdaneaaGreatDoor

namespace Go.Proofs.YtcognkgabdaneaaGreatDoor
open Go.RowKit
open Ig (nth encI encR grp low off)
open Ty (encU num)
theorem Ig.one_str (q : Nat) (hq : q < 256) (wz : World) : (convert 47 9 (.slice (some ⟨wz.heap.size, 0, none⟩) 1 1)).run Tryz.prog (wz.alloc (.cells #[.int .u8 (q : Int)] 5)) = .ok (.string (Ty.S [UInt8.ofNat q])) (wz.alloc (.cells #[.int .u8 (q : Int)] 5)) :=
  (Ig.buf_one (base := wz.heap.size) q hq (Nat.le_refl _)).str
theorem Ig.one_str2 (q : Nat) (hq : q < 256) (wz wy : World) (g : Below (wz.alloc (.cells #[.int .u8 (q : Int)] 5)).heap.size (wz.alloc (.cells #[.int .u8 (q : Int)] 5)) wy) : (convert 47 9 (.slice (some ⟨wz.heap.size, 0, none⟩) 1 1)).run Tryz.prog wy = .ok (.string (Ty.S [UInt8.ofNat q])) wy :=
  ((Ig.buf_one (base := wz.heap.size) q hq (Nat.le_refl _)).later g).str
theorem Ig.one_str3 (q : Nat) (hq : q < 256) (wz wy : World) (g : Below (wz.alloc (.cells #[.int .u8 (q : Int)] 5)).drew.heap.size (wz.alloc (.cells #[.int .u8 (q : Int)] 5)).drew wy) : (convert 47 9 (.slice (some ⟨wz.heap.size, 0, none⟩) 1 1)).run Tryz.prog wy = .ok (.string (Ty.S [UInt8.ofNat q])) wy :=
  Ig.one_str2 q hq wz wy ((Below.refl _ _).drew.trans g)
theorem Ig.one_str5 (q : Nat) (hq : q < 256) (wz : World) : (convert 47 9 (.slice (some ⟨wz.heap.size, 0, none⟩) 1 1)).run Tryz.prog (wz.alloc (.cells #[.int .u8 (q : Int)] 5)).drew = .ok (.string (Ty.S [UInt8.ofNat q])) (wz.alloc (.cells #[.int .u8 (q : Int)] 5)).drew :=
  Ig.one_str2 q hq wz _ (Below.refl _ _).drew
theorem Ig.one_str4 (q : Nat) (hq : q < 256) (wz wy : World) (g : Below (wz.drew.alloc (.cells #[.int .u8 (q : Int)] 5)).heap.size (wz.drew.alloc (.cells #[.int .u8 (q : Int)] 5)) wy) : (convert 47 9 (.slice (some ⟨wz.heap.size, 0, none⟩) 1 1)).run Tryz.prog wy = .ok (.string (Ty.S [UInt8.ofNat q])) wy :=
  Ig.one_str2 q hq wz.drew wy g
set_option maxHeartbeats 1000000 in
set_option maxRecDepth 100000 in
theorem Ig.rpacked_c (u : Value) (L : List Int) (w : World) (hL : Ig.At w.heap.size w u L) (hi : ∀ x ∈ L, Ty.I64 x) (hl : L.length ≤ 65536) :
    Calls Tryz.prog 93 #[u] w (Ty.Str w (Ig.encP L)) := by
  by_cases hne : 0 < L.length
  · have cO := Ig.offsets_c u L w hL hi hne hl
    have hLi := Ig.low_i64 hi hne
    have hX := Ig.off_lt L hi
    have hq : Bt.wid L.length (off L) ≤ 64 := Bt.wid_64 hX
    have hEP : Ig.encP L = encI (low L) ++ (UInt8.ofNat (Bt.wid L.length (off L)) :: (Bt.bytes (Bt.need (L.length * Bt.wid L.length (off L))) (Bt.pk L.length (off L) (Bt.wid L.length (off L)))).data.toList) := by
      unfold Ig.encP
      rw [if_neg (by intro e; rw [e] at hne; simp at hne)]
    have hPV : Bt.packV L.length (off L) ((Bt.wid L.length (off L) : Nat) : Int) = .tuple #[.string (Bt.bytes (Bt.need (L.length * Bt.wid L.length (off L))) (Bt.pk L.length (off L) (Bt.wid L.length (off L)))), .int .i64 0] := by
      unfold Bt.packV
      rw [if_pos (by omega), if_neg (by simp)]
      rfl
    have cP := fun v w h => Bt.rpack_c v L.length (off L) ((Bt.wid L.length (off L) : Nat) : Int) w h hX (by omega)
    have cW := fun v w h => Bt.rwidth_c v L.length (off L) w h hX (by omega)
    rw [hPV] at cP
    have hsz := Ig.len_bytes (Bt.need (L.length * Bt.wid L.length (off L))) (Bt.pk L.length (off L) (Bt.wid L.length (off L)))
    have hnd : Bt.need (L.length * Bt.wid L.length (off L)) ≤ 524288 := by
      have := Bt.mul_le L.length (Bt.wid L.length (off L)) hq
      unfold Bt.need; omega
    have hSl : (Bt.bytes (Bt.need (L.length * Bt.wid L.length (off L))) (Bt.pk L.length (off L) (Bt.wid L.length (off L)))).data.toList.length ≤ 524288 := by rw [hsz]; exact hnd
    generalize Bt.bytes (Bt.need (L.length * Bt.wid L.length (off L))) (Bt.pk L.length (off L) (Bt.wid L.length (off L))) = S at hEP cP hSl
    clear hsz hnd hPV
    generalize Bt.wid L.length (off L) = q at hEP cP cW hq
    rw [hEP]
    have hn0 : ((L.length : Int) == 0) = false := by rw [beq_eq_false_iff_ne]; omega
    have hSs : S.size ≤ 524288 := by rw [← Bt.length_data]; exact hSl
    obtain ⟨A, hA⟩ : ∃ A, A = Ty.S (Ty.encU (Ty.zig (low L)).toNat) := ⟨_, rfl⟩
    have hA9 : A.size ≤ 9 := by rw [hA]; exact Ty.encU_len9 _
    obtain ⟨B, hB⟩ : ∃ B, B = Ty.S [UInt8.ofNat q] := ⟨_, rfl⟩
    have hB9 : B.size ≤ 1 := by rw [hB]; exact Nat.le_refl _
    have n1 : ¬ 9223372036854775807 < A.size + B.size := by omega
    have n2 : ¬ 9223372036854775807 < A.size + B.size + S.size := by omega
    have n3 : ¬ 9223372036854775807 < A.size + (B.size + S.size) := by omega
    have CI : Hid (∀ wz, Calls Tryz.prog 94 #[.int .i64 (low L)] wz fun e w' => e = .returned (.string A) ∧ Below wz.heap.size wz w') := Lib.hid fun wz => by rw [hA]; exact Ty.rint_c _ wz hLi
    have one1 := Ig.one_str q (by omega)
    have ONE2 := Lib.hid (Ig.one_str3 q (by omega))
    have ONE4 := Lib.hid (Ig.one_str4 q (by omega))
    have one5 := Ig.one_str5 q (by omega)
    rw [← hB] at one1 ONE2 ONE4 one5
    have ONE5 := Lib.hid one5
    clear one5
    have HE : Hid (A ++ B ++ S = Ty.S (encI (low L) ++ (UInt8.ofNat q :: S.data.toList))) := Lib.hid (by
      rw [hA, hB, Ig.S_add]
      conv => lhs; rw [← Ty.S_data S]
      rw [Ig.S_add]
      simp [encI, Ig.encI])
    have HE2 : Hid (A ++ (B ++ S) = Ty.S (encI (low L) ++ (UInt8.ofNat q :: S.data.toList))) := Lib.hid (by
      rw [← HE.out]
      apply ByteArray.ext
      simp [ByteArray.data_append])
    obtain ⟨a, c, rfl, hc, _, h⟩ := hL
    clear hi hEP h hA hB hSs hSl hA9 hB9 hX hLi
    have ONE1 := Lib.hid one1
    clear one1
    go_enter Tryz.func93, Tryz.ntmps93
    go_wp2_with fail
    refine cO.mono ?_
    rintro e w1 ⟨v, rfl, hS1, g1⟩
    have cw1 := cW _ _ hS1
    have cp1 := cP _ _ hS1
    have HS1 := Lib.hid hS1
    clear cO cW cP hS1
    go_wp2_with fail
    refine cw1.mono ?_
    rintro e w2 ⟨rfl, rfl⟩
    clear cw1
    go_wp2_with fail
    refine cp1.mono ?_
    rintro e w3 ⟨rfl, g3⟩
    have HB3 := Lib.hid (g1.trans (g3.mono g1.size))
    clear cp1 g1 g3
    go_wp2_with fail
    have hw8 : IntKind.u8.wrap (q : Int) = (q : Int) := by rw [IntKind.wrap_u8]; omega
    have one1 := ONE1.out
    have one5 := ONE5.out
    go_region_with (first
      | (go_at_call 94; refine (CI.out _).mono ?_; rintro e wz ⟨rfl, gz⟩; have hcv := ONE2.out _ _ gz)
      | (go_at_call 94; refine (CI.out _).mono ?_; rintro e wz ⟨rfl, gz⟩; have hcv := ONE4.out _ _ gz)
      | (go_at_call 94; refine (CI.out _).mono ?_; rintro e wz ⟨rfl, gz⟩))
    all_goals
      try clear hcv
      clear one1 one5 hw8
      first
        | have hbe : Below w.heap.size w wz := HB3.out.trans (((Below.refl _ w3).drew.trans gz).mono HB3.out.size)
        | have hbe : Below w.heap.size w wz := HB3.out.trans ((((Below.refl _ w3).alloc (Nat.le_refl _) _).drew.trans (gz.mono (by simp))).mono HB3.out.size)
        | have hbe : Below w.heap.size w wz := HB3.out.trans ((((Below.refl _ w3).drew.alloc (Nat.le_refl _) _).trans (gz.mono (by simp))).mono HB3.out.size)
      go_wp2
      go_ret
      first
        | exact ⟨by rw [← HE.out]; rfl, hbe⟩
        | exact ⟨by rw [← HE.out]; rfl, hbe.alloc hbe.size _⟩
  · have hM0 : L = [] := List.eq_nil_of_length_eq_zero (by omega)
    subst hM0
    obtain ⟨a, c, rfl, hc, _, h⟩ := hL
    clear h
    go_enter Tryz.func93, Tryz.ntmps93
    go_wp2
    go_ret
    exact ⟨rfl, Below.refl _ _⟩
end Go.Proofs.YtcognkgabdaneaaGreatDoor

namespace Go.Proofs.YtcognkgabdaneaaGreatDoor
open Go.RowKit
open Ig (nth encI encR grp low off diffs prv)
open Ty (encU num)
theorem Ig.diff_wrap {x y : Int} : wrap64 (IntKind.u64.wrap (IntKind.u64.wrap x - IntKind.u64.wrap y)) = wrap64 (x - y) := by
  simp only [IntKind.wrap_u64]
  unfold wrap64
  omega
theorem Ig.len_encP {L : List Int} (hi : ∀ x ∈ L, Ty.I64 x) (hl : L.length ≤ 65536) : (Ig.encP L).length ≤ 524298 := by
  unfold Ig.encP
  split
  · simp
  · have h1 := Ig.len_encI (low L)
    have hq : Bt.wid L.length (off L) ≤ 64 := Bt.wid_64 (Ig.off_lt L hi)
    have h2 := Bt.mul_le L.length (Bt.wid L.length (off L)) hq
    rw [List.length_append, List.length_cons, Ig.len_bytes]
    unfold Bt.need
    omega
set_option maxHeartbeats 1000000 in
set_option maxRecDepth 100000 in
theorem Ig.rwith_good (u : Value) (L : List Int) (k : Nat) (hk : k ≤ 3) (w : World) (hL : Ig.At w.heap.size w u L) (hi : ∀ x ∈ L, Ty.I64 x) (hl : L.length ≤ 65536) :
    Calls Tryz.prog 61 #[u, .int .i64 k] w fun e w' => e = .returned (.tuple #[.string (Ty.S (Ig.enc k L)), .int .i64 0]) ∧ Below w.heap.size w w' := by
  have HE : Hid (Ig.enc k L = UInt8.ofNat k :: encU L.length ++ Ig.body k L) := Lib.hid (by unfold Ig.enc; simp)
  have HL := Lib.hid hL
  have HI := Lib.hid hi
  have hn2 : ¬ (65536 : Int) < (L.length : Int) := by omega
  have hn6 : (L.length : Int) ≤ 65536 := by omega
  have hn0 : (0 : Int) ≤ (L.length : Int) := by omega
  obtain ⟨a, c, rfl, hc, _, h⟩ := hL
  have HC := Lib.hid h
  have hk0 : (0 : Int) ≤ (k : Int) := by omega
  have hk3 : (k : Int) ≤ 3 := by omega
  obtain ⟨A, hA⟩ : ∃ A, A = Ty.S (encU L.length) := ⟨_, rfl⟩
  have hA9 : A.size ≤ 9 := by rw [hA]; exact Ty.encU_len9 _
  obtain ⟨B, hB⟩ : ∃ B, B = Ty.S [UInt8.ofNat k] := ⟨_, rfl⟩
  have hB9 : B.size ≤ 1 := by rw [hB]; exact Nat.le_refl _
  have n1 : ¬ 9223372036854775807 < B.size + A.size := by omega
  have hwn : IntKind.u64.wrap (L.length : Int) = (L.length : Int) := by rw [IntKind.wrap_u64]; omega
  have CU : Hid (∀ wz, Calls Tryz.prog 23 #[.int .u64 (L.length : Int)] wz fun e w' => e = .returned (.string A) ∧ Below wz.heap.size wz w') := Lib.hid fun wz => by rw [hA]; exact Ty.ruint_nat L.length wz
  have CV : Hid (∀ wz, Calls Tryz.prog 23 #[.int .u64 (IntKind.u64.wrap (L.length : Int))] wz fun e w' => e = .returned (.string A) ∧ Below wz.heap.size wz w') := Lib.hid fun wz => by rw [hwn]; exact CU.out wz
  have one1 := Ig.one_str k (by omega)
  have ONE2 := Lib.hid (Ig.one_str3 k (by omega))
  have ONE4 := Lib.hid (Ig.one_str4 k (by omega))
  have one5 := Ig.one_str5 k (by omega)
  rw [← hB] at one1 ONE2 ONE4 one5
  have ONE1 := Lib.hid one1
  have ONE5 := Lib.hid one5
  have HD : Hid (B ++ A = Ty.S (UInt8.ofNat k :: encU L.length)) := Lib.hid (by rw [hA, hB, Ig.S_add]; rfl)
  have h9 := Ty.encU_len9 L.length
  obtain ⟨D, hD⟩ : ∃ D, D = UInt8.ofNat k :: encU L.length := ⟨_, rfl⟩
  have hDl : D.length ≤ 10 := by rw [hD, List.length_cons]; omega
  rw [HE.out, ← hD]
  rw [← hD] at HD
  clear h hi one1 one5 hwn hA hB hD h9 HE
  go_enter Tryz.func61, Tryz.ntmps61
  go_upto_region 5 with fail
  go_cut [6] (fun s6 wx => s6 = .string (Ty.S D) ∧ Below w.heap.size w wx)
  case first =>
    have hw8 : IntKind.u8.wrap (k : Int) = (k : Int) := by rw [IntKind.wrap_u8]; omega
    have one1 := ONE1.out
    have one5 := ONE5.out
    go_region_with (first
      | (go_at_call 23; (with_reducible refine (CU.out _).mono ?_); rintro e wz ⟨rfl, gz⟩; have hcv := ONE2.out _ _ gz)
      | (go_at_call 23; (with_reducible refine (CU.out _).mono ?_); rintro e wz ⟨rfl, gz⟩; have hcv := ONE4.out _ _ gz)
      | (go_at_call 23; (with_reducible refine (CU.out _).mono ?_); rintro e wz ⟨rfl, gz⟩)
      | (go_at_call 23; (with_reducible refine (CV.out _).mono ?_); rintro e wz ⟨rfl, gz⟩; have hcv := ONE2.out _ _ gz)
      | (go_at_call 23; (with_reducible refine (CV.out _).mono ?_); rintro e wz ⟨rfl, gz⟩; have hcv := ONE4.out _ _ gz)
      | (go_at_call 23; (with_reducible refine (CV.out _).mono ?_); rintro e wz ⟨rfl, gz⟩))
    all_goals
      try clear hcv
      clear one1 one5 hw8
      first
        | have hbe : Below w.heap.size w wz := ((Below.refl _ w).drew.trans gz)
        | have hbe : Below w.heap.size w wz := (((Below.refl _ w).alloc (Nat.le_refl _) _).drew.trans (gz.mono (by simp)))
        | have hbe : Below w.heap.size w wz := (((Below.refl _ w).drew.alloc (Nat.le_refl _) _).trans (gz.mono (by simp)))
      go_wp2_with fail
      go_meet
      first
        | exact ⟨by rw [← HD.out], hbe⟩
        | exact ⟨by rw [← HD.out], hbe.alloc hbe.size _⟩
  case rest =>
    obtain ⟨rfl, hb⟩ := hcut
    have HB := Lib.hid hb
    have hat := HL.out.below hb
    have hbs := hb.size
    clear hb
    obtain ⟨S0, hS0⟩ : ∃ S0, S0 = Ty.S D := ⟨_, rfl⟩
    have hS9 : S0.size ≤ 10 := by rw [hS0]; exact hDl
    rcases (by omega : k = 2 ∨ k = 3 ∨ k < 2) with hkk | hkk | hkk
    · have k2 : ((k : Int) == 2) = true := by rw [beq_iff_eq]; omega
      have hR := Ig.rruns_c _ L _ hat.bufs HI.out hl
      have hbd : Ig.body k L = (grp L).flatMap encR := by rw [hkk]; rfl
      obtain ⟨R, hRR⟩ : ∃ R, R = Ty.S ((grp L).flatMap encR) := ⟨_, rfl⟩
      have hR9 : R.size ≤ 1179648 := by rw [hRR, Ty.size_S]; have := Ig.len_runs L; omega
      have HF : Hid (S0 ++ R = Ty.S (D ++ Ig.body k L)) := Lib.hid (by rw [hS0, hRR, Ig.S_add, hbd])
      unfold Ty.Str at hR
      rw [← hRR] at hR
      rw [← hS0]
      clear hat hkk hbd hRR hS0
      go_wp2_with fail
      refine hR.mono ?_
      rintro e w2 ⟨rfl, g2⟩
      have HB2 := Lib.hid (HB.out.trans (g2.mono hbs))
      clear hR g2
      go_wp2
      go_ret2
      exact ⟨by rw [← HF.out]; rfl, HB2.out⟩
    · have k2 : ((k : Int) == 2) = false := by rw [beq_eq_false_iff_ne]; omega
      have k3 : ((k : Int) == 3) = true := by rw [beq_iff_eq]; omega
      have hR := Ig.rpacked_c _ L _ hat.bufs HI.out hl
      have hbd : Ig.body k L = Ig.encP L := by rw [hkk]; rfl
      obtain ⟨R, hRR⟩ : ∃ R, R = Ty.S (Ig.encP L) := ⟨_, rfl⟩
      have hR9 : R.size ≤ 524298 := by rw [hRR, Ty.size_S]; exact Ig.len_encP HI.out hl
      have HF : Hid (S0 ++ R = Ty.S (D ++ Ig.body k L)) := Lib.hid (by rw [hS0, hRR, Ig.S_add, hbd])
      unfold Ty.Str at hR
      rw [← hRR] at hR
      rw [← hS0]
      clear hat hkk hbd hRR hS0
      go_wp2_with fail
      refine hR.mono ?_
      rintro e w2 ⟨rfl, g2⟩
      have HB2 := Lib.hid (HB.out.trans (g2.mono hbs))
      clear hR g2
      go_wp2
      go_ret2
      exact ⟨by rw [← HF.out]; rfl, HB2.out⟩
    · have k2 : ((k : Int) == 2) = false := by rw [beq_eq_false_iff_ne]; omega
      have k3 : ((k : Int) == 3) = false := by rw [beq_eq_false_iff_ne]; omega
      obtain ⟨E, hE⟩ : ∃ E, E = if k = 0 then L else diffs 0 L := ⟨_, rfl⟩
      have hEl : E.length = L.length := by rw [hE]; split; rfl; exact Ig.diffs_len L 0
      have HBD : Hid (Ig.body k L = E.flatMap encI) := Lib.hid (by
        rw [hE]
        rcases (by omega : k = 0 ∨ k = 1) with e | e
        · subst e; rfl
        · subst e; rfl)
      have HEI : Hid (∀ j, j < L.length → nth E j = if k = 0 then nth L j else wrap64 (nth L j - prv L j)) := Lib.hid (fun j hj => by
        rw [hE]
        split
        · rfl
        · exact Ig.diffs_at hj)
      have HEL := Lib.hid hEl
      clear hE hEl hat hS9 hS0
      go_wp2_with fail
      go_loopw [6, 7] (fun s i wr => ∃ j : Nat, j ≤ L.length ∧ i = .int .i64 j ∧ s = .string (Ty.S (D ++ (E.take j).flatMap encI)) ∧ Below w.heap.size w wr) (fun _ i _ => L.length - (intOf i).toNat)
      case atStart => exact ⟨0, by omega, rfl, by simp, HB.out⟩
      case round =>
        obtain ⟨j, hj, rfl, rfl, hb2⟩ := hrel
        have HB2 := Lib.hid hb2
        have hbs2 := hb2.size
        clear hb2
        by_cases hjl : j < L.length
        · rcases HC.out with h | ⟨b, o, rfl, hlt, h⟩
          · exact absurd hjl (by rw [h]; simp)
          have hc1 := (HB2.out.cell (p := ⟨b, o + j, none⟩) hlt).trans (h j hjl)
          have hji : (j : Int) < (L.length : Int) := by omega
          have hj0 : (0 : Int) ≤ (j : Int) := by omega
          have hEj := HEI.out j hjl
          have HN : Hid ((E.take (j + 1)).flatMap encI = (E.take j).flatMap encI ++ encI (nth E j)) := Lib.hid (Ig.flat_next (by rw [HEL.out]; exact hjl))
          have hx := Ig.nth_i64 HI.out hjl
          have hln := Ig.len_flat_take E j
          obtain ⟨T, hT⟩ : ∃ T, T = Ty.S (D ++ (E.take j).flatMap encI) := ⟨_, rfl⟩
          have hT9 : T.size ≤ 600000 := by rw [hT, Ty.size_S, List.length_append]; omega
          obtain ⟨Z, hZ⟩ : ∃ Z, Z = Ty.S (Ty.encU (Ty.zig (nth E j)).toNat) := ⟨_, rfl⟩
          have hZ9 : Z.size ≤ 9 := by rw [hZ]; exact Ty.encU_len9 _
          have HF : Hid (T ++ Z = Ty.S (D ++ (E.take (j + 1)).flatMap encI)) := Lib.hid (by
            rw [hT, hZ, Ig.S_add, HN.out]
            simp [encI, Ig.encI])
          have cI : Ty.I64 (nth E j) → ∀ wz, Calls Tryz.prog 94 #[.int .i64 (nth E j)] wz fun e w' => e = .returned (.string Z) ∧ Below wz.heap.size wz w' := fun hx wz => by rw [hZ]; exact Ty.rint_c _ wz hx
          rw [← hT]
          have HIX := Lib.hid (⟨h, hlt⟩ : (∀ i, i < L.length → w.cell? ⟨b, o + i, none⟩ = some (.int .i64 (nth L i))) ∧ b < w.heap.size)
          clear h hln hT hZ
          rcases (by omega : k = 0 ∨ (k = 1 ∧ j = 0) ∨ (k = 1 ∧ 0 < j)) with e | ⟨e, e2⟩ | ⟨e, e2⟩
          · rw [if_pos e] at hEj
            rw [hEj] at cI
            have ci := cI hx
            have k1 : ((k : Int) == 1) = false := by rw [beq_eq_false_iff_ne]; omega
            generalize nth L j = x at hc1 ci
            clear e hEj cI hx
            go_wp2_with fail
            refine (ci _).mono ?_
            rintro e w3 ⟨rfl, g3⟩
            have HB3 := Lib.hid (HB2.out.trans (g3.mono hbs2))
            clear ci g3
            go_wp2
            go_roundw
            case rel => exact ⟨j + 1, by omega, by simp, by rw [← HF.out], HB3.out⟩
            case measure => simp [intOf]; omega
          · rw [if_neg (by omega), e2] at hEj
            have hEj2 : nth E j = nth L j := by
              rw [e2] at hx ⊢
              rw [hEj, show prv L 0 = 0 from rfl]
              unfold Ty.I64 at hx
              unfold wrap64
              omega
            rw [hEj2] at cI
            have ci := cI hx
            have k1 : ((k : Int) == 1) = true := by rw [beq_iff_eq]; omega
            have hjz : ¬ (0 : Int) < (j : Int) := by omega
            generalize nth L j = x at hc1 ci
            clear e e2 hEj hEj2 cI hx
            go_wp2_with fail
            refine (ci _).mono ?_
            rintro e w3 ⟨rfl, g3⟩
            have HB3 := Lib.hid (HB2.out.trans (g3.mono hbs2))
            clear ci g3
            go_wp2
            go_roundw
            case rel => exact ⟨j + 1, by omega, by simp, by rw [← HF.out], HB3.out⟩
            case measure => simp [intOf]; omega
          · rw [if_neg (by omega)] at hEj
            have k1 : ((k : Int) == 1) = true := by rw [beq_iff_eq]; omega
            have hjz : (0 : Int) < (j : Int) := by omega
            have hjo : (1 : Int) ≤ (j : Int) := by omega
            have hp : prv L j = nth L (j - 1) := by
              obtain ⟨q, rfl⟩ : ∃ q, j = q + 1 := ⟨j - 1, by omega⟩
              rfl
            have hc2 := (HB2.out.cell (p := ⟨b, o + (j - 1), none⟩) hlt).trans (HIX.out.1 (j - 1) (by omega))
            rw [hEj, hp] at cI
            have ci := cI (Ig.wrap_i64 _)
            have hsub : IntKind.i64.wrap ((j : Int) - 1) = (j : Int) - 1 := by rw [IntKind.wrap_i64]; omega
            have htn : ((j : Int) - 1).toNat = j - 1 := by omega
            have hs1 : (0 : Int) ≤ (j : Int) - 1 := by omega
            have hs2 : (j : Int) - 1 < (L.length : Int) := by omega
            generalize nth L j = x at hc1 ci
            generalize nth L (j - 1) = y at hc2 ci
            rw [← Ig.diff_wrap] at ci
            clear e e2 hEj hp cI hx
            go_wp2_with fail
            go_quiet (fail)
            clear hsub htn
            have hbq : Below w.heap.size w (wr.drewN nq) := HB2.out.trans ((Bt.drewN_below _ _).mono HB2.out.size)
            have hbqs := hbq.size
            go_wp2_with fail
            refine (ci _).mono ?_
            rintro e w3 ⟨rfl, g3⟩
            have HB3 := Lib.hid (hbq.trans (g3.mono hbqs))
            clear ci g3 hbq
            go_wp2
            go_roundw
            case rel => exact ⟨j + 1, by omega, by simp, by rw [← HF.out], HB3.out⟩
            case measure => simp [intOf]; omega
        · obtain rfl : j = L.length := by omega
          have hji : ¬ (L.length : Int) < (L.length : Int) := by omega
          go_wp2
          go_ret2
          exact ⟨by have := HEL.out; rw [← this, List.take_length, HBD.out]; rfl, HB2.out⟩
set_option maxHeartbeats 1000000 in
/-- WITH, as the document has it. -/
theorem Ig.rwith_c (u : Value) (L : List Int) (z : Int) (w : World) (hL : Ig.At w.heap.size w u L) (hi : ∀ x ∈ L, Ty.I64 x) (hl : L.length ≤ 140737488355328) :
    Calls Tryz.prog 61 #[u, .int .i64 z] w fun e w' => e = .returned (Ig.withV L z) ∧ Below w.heap.size w w' := by
  by_cases hz : 0 ≤ z ∧ z ≤ 3
  · by_cases hln : 65536 < L.length
    · rw [Ig.withV_long hz hln]
      obtain ⟨h1, h2⟩ := hz
      have hli : (65536 : Int) < (L.length : Int) := by omega
      obtain ⟨a, c, rfl, hc, _, h⟩ := hL
      clear h hi hln
      go_enter Tryz.func61, Tryz.ntmps61
      go_wp2
      go_ret2
      exact ⟨rfl, Below.refl _ _⟩
    · obtain ⟨k, rfl⟩ := Int.eq_ofNat_of_zero_le hz.1
      rw [Ig.withV_good (by omega) hln]
      exact Ig.rwith_good u L k (by omega) w hL hi (by omega)
  · rw [Ig.withV_bad hz]
    obtain ⟨a, c, rfl, hc, _, h⟩ := hL
    clear h hi
    by_cases h0 : z < 0
    · go_enter Tryz.func61, Tryz.ntmps61
      go_wp2
      go_ret2
      exact ⟨rfl, Below.refl _ _⟩
    · have h4 : (3 : Int) < z := by omega
      clear hz
      go_enter Tryz.func61, Tryz.ntmps61
      go_wp2
      go_ret2
      exact ⟨rfl, Below.refl _ _⟩
set_option maxHeartbeats 2000000 in
/-- BEST, as the document has it. -/
theorem Ig.rbest_c (u : Value) (L : List Int) (w : World) (hL : Ig.At w.heap.size w u L) (hi : ∀ x ∈ L, Ty.I64 x) (hl : L.length ≤ 140737488355328) :
    Calls Tryz.prog 42 #[u] w fun e w' => e = .returned (Ig.bestV L) ∧ Below w.heap.size w w' := by
  by_cases hln : 65536 < L.length
  · have c0 := Ig.rwith_c u L 0 w hL hi hl
    rw [Ig.withV_long (by omega) hln] at c0
    rw [Ig.bestV_long hln]
    clear hln hi hl
    obtain ⟨a, c, rfl, hc, _, h⟩ := hL
    clear h
    go_enter Tryz.func42, Tryz.ntmps42
    go_wp2_with fail
    refine c0.mono ?_
    rintro e w1 ⟨rfl, hb1⟩
    go_wp2
    refine wp_loop_rounds 1 ?_; rw [rounds_succ]
    go_wp2
    go_ret2
    exact ⟨rfl, hb1⟩
  · rw [Ig.bestV_good hln]
    have cw : Hid (∀ k : Nat, k ≤ 3 → ∀ wz, Below w.heap.size w wz → Calls Tryz.prog 61 #[u, .int .i64 (k : Int)] wz fun e w' => e = .returned (.tuple #[.string (Ty.S (Ig.enc k L)), .int .i64 0]) ∧ Below w.heap.size w w') := Lib.hid fun k hk wz hb => by
      have := Ig.rwith_c u L (k : Int) wz (hL.below hb).bufs hi hl
      rw [Ig.withV_good hk hln] at this
      exact this.mono fun e w' ⟨he, hg⟩ => ⟨he, hb.trans (hg.mono hb.size)⟩
    have c0 := cw.out 0 (by decide) w (Below.refl _ _)
    obtain ⟨a, c, rfl, hc, _, h⟩ := hL
    clear h hi hl hln
    have e0 : ((0 : Nat) : Int) = 0 := rfl
    rw [e0] at c0
    clear e0
    go_enter Tryz.func42, Tryz.ntmps42
    go_wp2_with fail
    refine c0.mono ?_
    rintro e w1 ⟨rfl, hb1⟩
    clear c0
    go_wp2
    go_loopw [4, 6] (fun s i wr => ∃ k : Nat, 1 ≤ k ∧ k ≤ 4 ∧ i = .int .i64 k ∧ s = .string (Ty.S (Ig.enc (Ig.bk L (k - 1)) L)) ∧ Below w.heap.size w wr) (fun _ i _ => 4 - (intOf i).toNat)
    case atStart => exact ⟨1, by omega, by omega, rfl, rfl, hb1⟩
    case round =>
      obtain ⟨k, hk1, hk, rfl, rfl, hb⟩ := hrel
      clear hb1
      have hs := hb.size
      by_cases hk4 : k < 4
      · have hki : (k : Int) < 4 := by omega
        have hk0 : (0 : Int) ≤ (k : Int) := by omega
        have HBK : Hid (Ig.bk L k = if (Ig.enc k L).length < (Ig.enc (Ig.bk L (k - 1)) L).length then k else Ig.bk L (k - 1)) := Lib.hid (by
          obtain ⟨j, rfl⟩ : ∃ j, k = j + 1 := ⟨k - 1, by omega⟩
          rfl)
        obtain ⟨s0, es0⟩ : ∃ s0, s0 = Ty.S (Ig.enc (Ig.bk L (k - 1)) L) := ⟨_, rfl⟩
        obtain ⟨s1, es1⟩ : ∃ s1, s1 = Ty.S (Ig.enc k L) := ⟨_, rfl⟩
        have HN : Hid (s1.size < s0.size → Ty.S (Ig.enc (Ig.bk L k) L) = s1) := Lib.hid (fun h => by
          rw [es0, es1, Ty.size_S, Ty.size_S] at h
          rw [es1, HBK.out, if_pos h])
        have HM : Hid (¬ s1.size < s0.size → Ty.S (Ig.enc (Ig.bk L k) L) = s0) := Lib.hid (fun h => by
          rw [es0, es1, Ty.size_S, Ty.size_S] at h
          rw [es0, HBK.out, if_neg h])
        have c1 := cw.out k (by omega)
        rw [← es1] at c1
        rw [← es0]
        have c2 := c1 _ hb
        clear c1 es0 es1 hb
        by_cases hlt : (s1.size : Int) < (s0.size : Int)
        all_goals
          go_wp2_with fail
          refine c2.mono ?_
          rintro e w3 ⟨rfl, hb3⟩
          clear c2
          go_wp2
          go_roundw
          case rel => exact ⟨k + 1, by omega, by omega, by simp, by first | rw [show k + 1 - 1 = k by omega, HN.out (by omega)] | rw [show k + 1 - 1 = k by omega, HM.out (by omega)], hb3⟩
          case measure => simp [intOf]; omega
      · obtain rfl : k = 4 := by omega
        go_wp2
        go_ret2
        exact ⟨rfl, hb⟩
end Go.Proofs.YtcognkgabdaneaaGreatDoor
