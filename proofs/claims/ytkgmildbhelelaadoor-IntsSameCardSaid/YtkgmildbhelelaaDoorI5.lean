/-
  Contracts of package ints: the writer of runs.
-/
import Derived.Test.YtkgmildbhelelaaDoorI4
import Derived.Deep.RegionHeld3
namespace Go.Proofs.YtkgmildbhelelaaDoor
open Go.RowKit
open Ig (nth encI encR grp diffs prv low)
open Ty (encU)
theorem Ig.grew_below {w w1 w2 : World} {v x : Value} (h : Ty.Grew w w1 v x) (g : Below w1.heap.size w1 w2) : Ty.Grew w w2 v x :=
  h.trans ⟨⟨g.os, g.tape, g.output, g.size, fun k hk _ => g.block k hk⟩, .inl rfl⟩
theorem Ig.grew_drew {w w1 : World} {v x : Value} (h : Ty.Grew w w1 v x) : Ty.Grew w w1.drew v x := Ig.grew_below h (Bt.drewN_below _ 1)
theorem Ig.buf_drew {base : Nat} {w : World} {v : Value} {bs : List UInt8} (h : Ty.Buf base w v bs) : Ty.Buf base w.drew v bs := h
/-- What is behind the first k numbers. -/
theorem Ig.At.drop {B : Nat} {w : World} {b o c k : Nat} {M : List Int} (h : Ig.At B w (.slice (some ⟨b, o, none⟩) M.length c) M) (hk : k ≤ M.length) : Ig.At B w (.slice (if c = k then some ⟨b, o, none⟩ else some ⟨b, o + k, none⟩) (M.length - k) (c - k)) (M.drop k) := by
  obtain ⟨a, c', e, hc, hB, h⟩ := h
  simp only [Value.slice.injEq] at e
  obtain ⟨ea, _, rfl⟩ := e
  refine ⟨_, c - k, by rw [List.length_drop], by rw [List.length_drop]; omega, hB, ?_⟩
  rcases h with h | ⟨b', o', rfl, hlt, h⟩
  · left; rw [h]; simp
  · simp only [Option.some.injEq, Addr.mk.injEq, and_true] at ea
    obtain ⟨rfl, rfl⟩ := ea
    by_cases he : M.length ≤ k
    · left; exact List.drop_eq_nil_of_le he
    · right
      refine ⟨b, o + k, by rw [if_neg (by omega)], hlt, fun i hi => ?_⟩
      rw [List.length_drop] at hi
      rw [Ig.nth_drop, Nat.add_assoc]
      exact h (k + i) (by omega)
set_option maxHeartbeats 2000000 in
theorem Ig.writeRuns_c (base : Nat) (v : Value) (bs : List UInt8) (u : Value) (L : List Int) (w : World) (hw : Ty.Tabs w) (hown : Ty.Buf base w v bs) (hb : base ≤ w.heap.size) (hG : Ty.G ≤ base)
    (hL : Ig.At base w u L) (hi : ∀ x ∈ L, Ty.I64 x) (hlen : bs.length ≤ 100) (hl : L.length ≤ 65536) :
    Calls Tryd.prog 64 #[v, u] w (Ty.Written base w v (bs ++ (grp L).flatMap encR)) := by
  have hL0 := hL
  obtain ⟨a, c, rfl, hc, _, h⟩ := hL
  have H0 := Lib.hid hown.base
  clear h
  go_enter Tryd.func64, Tryd.ntmps64
  go_wp2
  go_loopw [0, 1] (fun x1 lv wr => ∃ M done, Ig.At base wr lv M ∧ (grp L).flatMap encR = done ++ (grp M).flatMap encR ∧ done.length + 18 * M.length ≤ 18 * L.length ∧ (∀ x ∈ M, Ty.I64 x) ∧ Ty.Buf base wr x1 (bs ++ done) ∧ Ty.Grew w wr v x1) (fun _ lv _ => match lv with | .slice _ n _ => n | _ => 0)
  case atStart => exact ⟨L, [], hL0, rfl, by simp, hi, by simpa using hown, Ty.Grew.refl _ _⟩
  case round =>
    obtain ⟨M, done, hM, hg, hd, hMi, hB, hGr⟩ := hrel
    have hb1 := Ig.take_full hGr hb H0.out
    have hT := hw.below hb1 hG
    have hs := hb1.size
    have HM := Lib.hid hM
    have HE := Lib.hid hg
    have HI := Lib.hid hMi
    have HB := Lib.hid hB
    have HG := Lib.hid hGr
    obtain ⟨a2, e, rfl, he, _, h⟩ := hM
    clear hg hB hGr hMi hi hL0 hown
    have hml : M.length ≤ 65536 := by omega
    by_cases h0 : 0 < M.length
    · rcases h with h | ⟨b2, o2, rfl, hlt2, h⟩
      · exact absurd h0 (by rw [h]; simp)
      · have hcell := h 0 h0
        rw [Nat.add_zero] at hcell
        have hkl : (0 : Int) < (M.length : Int) := by omega
        have cR := Ig.runLength_c _ M wr (HM.out.mono (by omega) (Nat.le_refl _)) h0 hml
        have hx := Ig.nth_i64 HI.out h0
        clear h hc
        go_wp2_with fail
        refine cR.mono ?_
        rintro e0 w1 ⟨k, rfl, hR, g1⟩
        have HR := Lib.hid hR
        have hk1 : k ≤ M.length := hR.2.1
        have hk0 : 0 < k := hR.1
        have hu : Ty.U64 ((k : Int)).toNat := by unfold Ty.U64; omega
        have hcell1 : w1.cell? ⟨b2, o2, none⟩ = some (.int .i64 (nth M 0)) := (g1.cell (p := ⟨b2, o2, none⟩) (show b2 < wr.heap.size by omega)).trans hcell
        have hs1 := g1.size
        have hT1 : Ty.Tabs w1 := hT.below g1 (by omega)
        have cU := Ty.uint_c base _ _ (k : Int) (by omega) hu w1.drew hT1.drew (Ig.buf_drew (HB.out.later g1)) (by simp; omega) (by rw [List.length_append]; omega)
        have HG1 := Lib.hid (Ig.grew_below HG.out g1)
        have hbase : ∀ j, (Value.ownBlock u0) = some j → base ≤ j := HB.out.base
        have HX : Hid (∀ wz vz, Ty.Grew w1.drew wz u0 vz → Below base w1 wz) := Lib.hid fun wz vz g => ((Bt.drewN_below w1 1).mono (by omega)).trans (g.below (by simp; omega) hbase)
        have HS : Hid (∀ wz, Below base w1 wz → wz.cell? ⟨b2, o2, none⟩ = some (.int .i64 (nth M 0))) := Lib.hid fun wz g => (g.cell (p := ⟨b2, o2, none⟩) hlt2).trans hcell1
        have HD : Hid (Below base w1 w1.drew) := Lib.hid ((Bt.drewN_below w1 1).mono (by omega))
        have CI : Hid (∀ wz vz, Ty.Buf base wz vz (bs ++ done ++ Ty.encU ((k : Int)).toNat) → Ty.Grew w1.drew wz u0 vz → Calls Tryd.prog 94 #[vz, .int .i64 (nth M 0)] wz (Ty.Written base wz vz (bs ++ done ++ Ty.encU ((k : Int)).toNat ++ Ty.encU (Ty.zig (nth M 0)).toNat))) := Lib.hid fun wz vz hB hG => by
          have hz := HX.out wz vz hG
          have h9 := Ty.encU_len9 ((k : Int)).toNat
          exact Ty.int_c base vz _ (nth M 0) hx wz (hT1.below hz (by omega)) hB (by have := hz.size; omega) (by simp only [List.length_append]; omega)
        have hwk : IntKind.u64.wrap (k : Int) = (k : Int) := by rw [IntKind.wrap_u64]; omega
        have CU : Hid (Calls Tryd.prog 32 #[u0, .int .u64 (IntKind.u64.wrap (k : Int))] w1.drew (Ty.Written base w1.drew u0 (bs ++ done ++ Ty.encU ((k : Int)).toNat))) := Lib.hid (by rw [hwk]; exact cU)
        clear hwk
        have hdr := Ig.At.drop (k := k) (HM.out.below (g1.mono (by omega))) hk1
        have HDR := Lib.hid hdr
        have HRN : Hid ((grp M).flatMap encR = (encU k ++ encI (nth M 0)) ++ (grp (M.drop k)).flatMap encR) := Lib.hid (Ig.runs_next hR)
        have HDI : Hid (∀ x ∈ M.drop k, Ty.I64 x) := Lib.hid fun x hx => HI.out x (List.mem_of_mem_drop hx)
        generalize nth M 0 = xx at *
        clear cU hR hdr cR hx hu
        go_wp2_with fail
        go_region_held3 (fun wx => wx.cell? ⟨b2, o2, none⟩ = some (.int .i64 xx))
          (first
            | exact HS.out _ HD.out
            | exact HS.out _ (HX.out _ _ (hGz.trans hGy))
            | exact HS.out _ (HX.out _ _ hGz))
          (first
            | (go_at_call 32; (with_reducible refine CU.out.mono ?_); rintro e wz ⟨vz, rfl, hBz, hGz⟩)
            | (go_at_call 94; (with_reducible refine (CI.out _ _ hBz hGz).mono ?_); rintro e wy ⟨vy, rfl, hBy, hGy⟩))
        have hyz : Below base w1 wy := HX.out _ _ (hGz.trans hGy)
        go_wp2
        refine ⟨⟨M.drop k, done ++ (encU k ++ encI xx), HDR.out.below hyz, ?_, ?_, HDI.out, ?_, ?_⟩, ?_⟩
        · rw [HE.out, HRN.out]; simp
        · have h9 := Ty.encU_len9 k
          have h10 := Ig.len_encI xx
          rw [List.length_drop, List.length_append, List.length_append]
          omega
        · have := hBy
          simpa [encI] using this
        · exact (Ig.grew_drew HG1.out).trans (hGz.trans hGy)
        · show M.length - k < M.length
          omega
    · have hM0 : M = [] := List.eq_nil_of_length_eq_zero (by omega)
      subst hM0
      clear h
      go_wp2
      go_ret
      exact ⟨_, rfl, by have := HE.out; simp only [grp, Ig.grp, List.flatMap_nil, List.append_nil] at this; rw [this]; exact HB.out, HG.out⟩
end Go.Proofs.YtkgmildbhelelaaDoor
