/-
  Contracts of the document's answers for zone: the zone of values.
-/
import Derived.Test.YtdjnjhlcdcmeaaaZ8
namespace Go.Proofs.Ytdjnjhlcdcmeaaa
open Go.RowKit
theorem Zn.St.put {w W : World} {z : Zn.Zo} (h : Zn.St w z W) (y : Zn.Zo) : Zn.St w y (Zn.put W (w.heap.size + 1) y) :=
  ⟨((((((((h.res.other (by omega) _ _).other (by omega) _ _).other (by omega) _ _).other (by omega) _ _).other (by omega) _ _).other (by omega) _ _).other (by omega) _ _).other (by omega) _ _), h.blk.put y, Zn.put_below h.bel (by omega) y⟩
theorem Zn.of_z {l : List Kn.V} (h : ∀ x ∈ l, Kn.Z x) : Kn.Z (Zn.of l).lo ∧ Kn.Z (Zn.of l).hi := by
  have hz : ∀ v : Kn.V, v = Zn.zv ∨ v ∈ l → Kn.Z v := fun v hv => by
    rcases hv with rfl | hv
    · unfold Kn.Z Zn.zv; decide
    · exact h v hv
  exact ⟨hz _ (Zn.of_mem l).1, hz _ (Zn.of_mem l).2⟩
set_option maxHeartbeats 4000000 in
set_option maxRecDepth 100000 in
theorem Zn.rof_c (v : Value) (l : List Kn.V) (w : World) (hv : Kn.Vals w v l) (hz : ∀ x ∈ l, Kn.Z x) : Calls Try.prog 12 #[v] w fun e w' => e = .returned (Zn.of l).val ∧ Below w.heap.size w w' := by
  obtain ⟨a, c, rfl, h⟩ := hv
  have HH := Lib.hid h
  have HZ := Lib.hid hz
  have HST := Lib.hid (Zn.St.start w)
  clear h hz
  go_enter Try.func12, Try.ntmps12
  go_wp2_with fail
  go_loopw [4] (fun i wr => ∃ k : Nat, k ≤ l.length ∧ i = .int .i64 k ∧ Zn.St w (Zn.of (l.take k)) wr) (fun i _ => l.length - (intOf i).toNat)
  case atStart => exact ⟨0, Nat.zero_le _, rfl, HST.out⟩
  case round =>
    obtain ⟨k, hk, rfl, hst⟩ := hrel
    by_cases hkl : k < l.length
    · rcases HH.out with rfl | ⟨b, o, rfl, hlt, hm, hc⟩
      · simp at hkl
      · have hx := List.getElem?_eq_getElem hkl
        have hxz : Kn.Z l[k] := HZ.out _ (List.getElem_mem hkl)
        have htz := Zn.of_z (l := l.take k) fun x hx => HZ.out x (List.mem_of_mem_take hx)
        generalize l[k] = x at hx hxz
        have HA := Lib.hid (Zn.of_take hx)
        generalize Zn.of (l.take k) = z at hst HA htz
        have CA := Lib.hid (Zn.radd_c z x htz.1 htz.2 hxz)
        obtain ⟨e0, e1, e2⟩ := (hc k x hx).later hst.bel
        have dk : (k : Int) < (l.length : Int) := by omega
        have dk0 : (0 : Int) ≤ (k : Int) := by omega
        have HK := Lib.hid hkl
        have HS := Lib.hid hst
        obtain ⟨z0, z1, z2, z3, z4, z5, z6, z7⟩ := hst.blk.cells
        clear hx hc hst hkl hk hxz htz
        obtain ⟨xn, xi, xs⟩ := x
        obtain ⟨zn, zw, ⟨ln, li, ls⟩, ⟨hn, hi, hs⟩⟩ := z
        simp only at e0 e1 e2 z0 z1 z2 z3 z4 z5 z6 z7
        go_upto_region 5 with (fail)
        refine wp_region_still_tail 5 (by kernel_rfl) (by kernel_rfl) ?_
        simp only [List.take_succ_cons, List.take_zero, List.drop_succ_cons, List.drop_zero]
        change wpStill _ _ (World.drew _) (fun a' => wpList _ _ _ _ a' (World.drew _)) _ _
        still_step
        still_step
        still_step
        still_step
        still_step
        refine wpStill_nil ?_
        go_wp2_with fail
        with_reducible refine (CA.out _).mono ?_
        rintro e w1 ⟨rfl, g1⟩
        have HST2 := Lib.hid ((HS.out.kept (Kn.drewN_below wr 1)).kept g1)
        clear z0 z1 z2 z3 z4 z5 z6 z7 e0 e1 e2 g1
        obtain ⟨z0, z1, z2, z3, z4, z5, z6, z7⟩ := HST2.out.blk.cells
        obtain ⟨f0, f1, f2, f3, f4, f5, f6, f7⟩ := HST2.out.blk.frozens
        simp only at z0 z1 z2 z3 z4 z5 z6 z7
        generalize Zn.add ⟨zn, zw, ⟨ln, li, ls⟩, ⟨hn, hi, hs⟩⟩ ⟨xn, xi, xs⟩ = y at HA ⊢
        obtain ⟨yn, yw, ⟨ml, mi, ms⟩, ⟨kn, ki, ks⟩⟩ := y
        go_wp2
        go_roundw
        case rel => exact ⟨k + 1, HK.out, by simp, by rw [HA.out]; exact HST2.out.put ⟨yn, yw, ⟨ml, mi, ms⟩, ⟨kn, ki, ks⟩⟩⟩
        case measure => (have := HK.out; simp [intOf]; omega)
    · obtain rfl : k = l.length := by omega
      rw [List.take_length] at hst
      have dk : ¬ (l.length : Int) < (l.length : Int) := by omega
      generalize hzz : Zn.of l = z at hst
      have HZZ := Lib.hid hzz
      have HE := Lib.hid hst
      clear hzz hst hk hkl
      obtain ⟨zn, zw, ⟨ln, li, ls⟩, ⟨hn, hi, hs⟩⟩ := z
      obtain ⟨z0, z1, z2, z3, z4, z5, z6, z7⟩ := HE.out.blk.cells
      obtain ⟨r0, r1, r2, r3, r4, r5, r6, r7⟩ := HE.out.res.cells
      obtain ⟨f0, f1, f2, f3, f4, f5, f6, f7⟩ := HE.out.res.frozens
      simp only at z0 z1 z2 z3 z4 z5 z6 z7
      go_wp2
      have HP := Lib.hid (Zn.put_below (q := w.heap.size) HE.out.bel (Nat.le_refl _) ⟨zn, zw, ⟨ln, li, ls⟩, ⟨hn, hi, hs⟩⟩)
      (try simp only [Exit.inBlock, Exit.then])
      refine bodyPost_ret (v := .agg #[.bool zn, .bool zw, .bool ln, .int .i64 li, .string ls, .bool hn, .int .i64 hi, .string hs]) ?_ rfl ⟨by rw [HZZ.out], HP.out⟩
      rw [Zn.results_cell rfl]
      go_simp
end Go.Proofs.Ytdjnjhlcdcmeaaa
