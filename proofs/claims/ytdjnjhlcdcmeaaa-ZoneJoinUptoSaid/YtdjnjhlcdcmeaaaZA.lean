/-
  The laws' own 'lives' of zone answers true.
-/
import Derived.Test.YtdjnjhlcdcmeaaaZ7
import Derived.Test.YtdjnjhlcdcmeaaaZ6
namespace Go.Proofs.Ytdjnjhlcdcmeaaa
open Go.RowKit
theorem Zn.vals3 (w : World) (x y z : Kn.V) (t : TypeId) : Kn.Vals (w.alloc (.cells #[.bool x.null, .int .i64 x.n, .string x.s, .bool y.null, .int .i64 y.n, .string y.s, .bool z.null, .int .i64 z.n, .string z.s] t)) (.slice (some ⟨w.heap.size, 0, none⟩) 3 3) [x, y, z] := by
  refine ⟨_, _, rfl, .inr ⟨w.heap.size, 0, rfl, by simp, by simp, fun i u hu => ?_⟩⟩
  match i, hu with
  | 0, hu => obtain rfl : x = u := by simpa using hu
             exact ⟨Kn.cell_new w _ t 0 _ rfl, Kn.cell_new w _ t 1 _ rfl, Kn.cell_new w _ t 2 _ rfl⟩
  | 1, hu => obtain rfl : y = u := by simpa using hu
             exact ⟨Kn.cell_new w _ t 3 _ rfl, Kn.cell_new w _ t 4 _ rfl, Kn.cell_new w _ t 5 _ rfl⟩
  | 2, hu => obtain rfl : z = u := by simpa using hu
             exact ⟨Kn.cell_new w _ t 6 _ rfl, Kn.cell_new w _ t 7 _ rfl, Kn.cell_new w _ t 8 _ rfl⟩
  | i + 3, hu => simp at hu
theorem Zn.lives_of : Zn.of [⟨false, 5, ⟨#[]⟩⟩, ⟨true, 0, ⟨#[]⟩⟩, ⟨false, 2, ⟨#[]⟩⟩] = ⟨true, true, ⟨false, 2, ⟨#[]⟩⟩, ⟨false, 5, ⟨#[]⟩⟩⟩ := by
  have c1 : Kn.cmp ⟨false, 2, ⟨#[]⟩⟩ ⟨false, 5, ⟨#[]⟩⟩ = -1 := by simp [Kn.cmp, Kn.or2, Kn.ncmp]
  simp [Zn.of, Zn.add, Zn.z0, c1]
theorem Zn.lives_3 : Zn.may ⟨2, 0, ⟨false, 3, ⟨#[]⟩⟩⟩ ⟨true, true, ⟨false, 2, ⟨#[]⟩⟩, ⟨false, 5, ⟨#[]⟩⟩⟩ = true := by
  rw [Zn.may2 _ _ _ _ _ rfl]
  simp [Zn.bare, Kn.cmp, Kn.or2, Kn.ncmp]
theorem Zn.lives_2 : Zn.may ⟨2, 0, ⟨false, 2, ⟨#[]⟩⟩⟩ ⟨true, true, ⟨false, 2, ⟨#[]⟩⟩, ⟨false, 5, ⟨#[]⟩⟩⟩ = false := by
  rw [Zn.may2 _ _ _ _ _ rfl]
  rw [show Zn.bare ⟨false, 2, ⟨#[]⟩⟩ = ⟨false, 2, ⟨#[]⟩⟩ from rfl, Zn.self]
  rfl
theorem Zn.lives_h : Zn.holds ⟨1, 0, ⟨false, 0, ⟨#[]⟩⟩⟩ ⟨false, 0, ⟨#[]⟩⟩ = true := by
  simp [Zn.holds, Zn.self]
set_option maxHeartbeats 2000000 in
set_option maxRecDepth 100000 in
theorem Zn.lives_c (w : World) :
    Calls Try.prog 8 #[] w fun e w' => e = .returned (.bool true) ∧ Below w.heap.size w w' := by
  have hV := Zn.vals3 w ⟨false, 5, ⟨#[]⟩⟩ ⟨true, 0, ⟨#[]⟩⟩ ⟨false, 2, ⟨#[]⟩⟩ 23
  have cO := Zn.of_c _ _ _ hV (fun x hx => by
    simp only [List.mem_cons, List.not_mem_nil, or_false] at hx
    rcases hx with rfl | rfl | rfl <;> (unfold Kn.Z; decide))
  rw [Zn.lives_of] at cO
  have c3 := fun w => Zn.may_c ⟨2, 0, ⟨false, 3, ⟨#[]⟩⟩⟩ ⟨true, true, ⟨false, 2, ⟨#[]⟩⟩, ⟨false, 5, ⟨#[]⟩⟩⟩ w
  have c2 := fun w => Zn.may_c ⟨2, 0, ⟨false, 2, ⟨#[]⟩⟩⟩ ⟨true, true, ⟨false, 2, ⟨#[]⟩⟩, ⟨false, 5, ⟨#[]⟩⟩⟩ w
  have cH := fun w => Zn.holds_c ⟨1, 0, ⟨false, 0, ⟨#[]⟩⟩⟩ ⟨false, 0, ⟨#[]⟩⟩ w
  rw [Zn.lives_3] at c3
  rw [Zn.lives_2] at c2
  rw [Zn.lives_h] at cH
  have hb : Below w.heap.size w (w.alloc (.cells #[.bool false, .int .i64 5, .string ⟨#[]⟩, .bool true, .int .i64 0, .string ⟨#[]⟩, .bool false, .int .i64 2, .string ⟨#[]⟩] 23)) := (Below.refl _ _).alloc (Nat.le_refl _) _
  have C3 : Hid (∀ w, _) := Lib.hid c3
  have C2 : Hid (∀ w, _) := Lib.hid c2
  have CH : Hid (∀ w, _) := Lib.hid cH
  have HB := Lib.hid hb
  simp only at cO
  clear c3 c2 cH hb hV
  go_enter Try.func8, Try.ntmps8
  go_wp2_with fail
  with_reducible refine cO.mono ?_
  rintro e w1 ⟨rfl, g1⟩
  have HB1 := Lib.hid (Zn.grow HB.out g1)
  clear cO g1
  go_upto_region 2 with (fail)
  have HZ := Lib.hid (Zn.Blk.new w1 ⟨true, true, ⟨false, 2, ⟨#[]⟩⟩, ⟨false, 5, ⟨#[]⟩⟩⟩)
  have HB2 := Lib.hid (HB1.out.alloc HB1.out.size (.cells (Zn.cs ⟨true, true, ⟨false, 2, ⟨#[]⟩⟩, ⟨false, 5, ⟨#[]⟩⟩⟩) 30))
  simp only [Zn.cs] at HB2 HZ
  generalize w1.alloc (.cells #[.bool true, .bool true, .bool false, .int .i64 2, .string ⟨#[]⟩, .bool false, .int .i64 5, .string ⟨#[]⟩] 30) = wb at HZ HB2 ⊢
  obtain ⟨z0, z1, z2, z3, z4, z5, z6, z7⟩ := HZ.out.cells
  simp only at z0 z1 z2 z3 z4 z5 z6 z7
  go_wp2_with fail
  with_reducible refine (C3.out _).mono ?_
  rintro e w2 ⟨rfl, g2⟩
  have HZ2 := Lib.hid (HZ.out.kept g2)
  have HB3 := Lib.hid (Zn.grow HB2.out g2)
  clear z0 z1 z2 z3 z4 z5 z6 z7 g2
  obtain ⟨z0, z1, z2, z3, z4, z5, z6, z7⟩ := HZ2.out.cells
  simp only at z0 z1 z2 z3 z4 z5 z6 z7
  go_wp2_with fail
  with_reducible refine (C2.out _).mono ?_
  rintro e w3 ⟨rfl, g3⟩
  have HB4 := Lib.hid (Zn.grow HB3.out g3)
  clear z0 z1 z2 z3 z4 z5 z6 z7 g3
  go_wp2_with fail
  with_reducible refine (CH.out _).mono ?_
  rintro e w4 ⟨rfl, g4⟩
  go_wp2
  go_ret
  exact ⟨rfl, Zn.grow HB4.out g4⟩
end Go.Proofs.Ytdjnjhlcdcmeaaa
