/-
  The walk of the law TallyWrites.
-/
import Derived.Test.YthfcpdifkgjjhaaDoorL6
import Derived.Test.YthfcpdifkgjjhaaDoorR1
import Derived.Test.YthfcpdifkgjjhaaDoorIn
import Derived.Lib.QuietBelow
namespace Go.Proofs.YthfcpdifkgjjhaaDoor
open Go.RowKit
theorem Ty.Buf.drew {base : Nat} {w : World} {v : Value} {bs : List UInt8} (h : Ty.Buf base w v bs) : Ty.Buf base w.drew v bs := h.kept fun _ _ => rfl
theorem Ty.InB.drew {w : World} {v : Value} {bs : List UInt8} (h : Ty.InB w v bs) : Ty.InB w.drew v bs := h
theorem Ty.S_add (a b : List UInt8) : Ty.S a ++ Ty.S b = Ty.S (a ++ b) := ByteArray.mk_append_mk a b
theorem Ty.S_add_beq (a b : List UInt8) : ((Ty.S (a ++ b)).toList == (Ty.S a ++ Ty.S b).toList) = true := by rw [Ty.S_add, Ty.S_beq]; simp
theorem Ty.S_self_beq (a : List UInt8) : ((Ty.S a).toList == (Ty.S a).toList) = true := by rw [Ty.S_beq]; simp
theorem Ty.wrap_u64_u (n : Int) : 0 ≤ IntKind.u64.wrap n ∧ Ty.U64 (IntKind.u64.wrap n).toNat := by rw [IntKind.wrap_u64]; unfold Ty.U64; omega
/-- What the law holds in hand: three buffers and the slice that came in. -/
structure Ty.Held (B : Nat) (vx vy vz v : Value) (bx by_ bz bs : List UInt8) (w : World) : Prop where
  x : Ty.Buf B w vx bx
  y : Ty.Buf B w vy by_
  z : Ty.Buf B w vz bz
  i : Ty.InB w v bs
theorem Ty.Held.later {B : Nat} {vx vy vz v : Value} {bx by_ bz bs : List UInt8} {w w' : World} (h : Ty.Held B vx vy vz v bx by_ bz bs w) (hb : Below w.heap.size w w') : Ty.Held B vx vy vz v bx by_ bz bs w' :=
  ⟨h.x.later hb, h.y.later hb, h.z.later hb, h.i.later hb⟩
theorem Ty.Held.drew {B : Nat} {vx vy vz v : Value} {bx by_ bz bs : List UInt8} {w : World} (h : Ty.Held B vx vy vz v bx by_ bz bs w) : Ty.Held B vx vy vz v bx by_ bz bs w.drew := ⟨h.x.drew, h.y.drew, h.z.drew, h.i.drew⟩
theorem Ty.Buf.mono {b b' : Nat} {w : World} {v : Value} {bs : List UInt8} (h : Ty.Buf b w v bs) (hb : b' ≤ b) : Ty.Buf b' w v bs := by
  refine ⟨h.1, ?_⟩
  rcases h.2 with hn | ⟨g, cap, cur, rfl, hbb, rest⟩
  · exact .inl hn
  · exact .inr ⟨g, cap, cur, rfl, Nat.le_trans hb hbb, rest⟩
set_option maxHeartbeats 1000000 in
theorem Ty.writes_w (v : Value) (bs : List UInt8) (hbs : bs.length ≤ 1048576) (n : Int) (hn : Ty.I64 n) (s : ByteArray) (hs : s.size ≤ 1048576) (w : World) (hw : Ty.Tabs w) (hin : Ty.InB w v bs) :
    Calls Tryd.prog 3 #[v, .int .i64 n, .string s] w fun e w' => e = .returned (.bool true) ∧ Below w.heap.size w w' := by
  obtain ⟨z, hz⟩ : ∃ z, IntKind.u64.wrap n = z := ⟨_, rfl⟩
  obtain ⟨z0, uz⟩ : 0 ≤ z ∧ Ty.U64 z.toNat := by rw [← hz]; exact Ty.wrap_u64_u n
  go_enter Tryd.func3, Tryd.ntmps3
  go_wp2_with fail
  refine (Ty.lives_c _ hw).mono ?_
  rintro e w1 ⟨rfl, hb1⟩
  have hT1 := hw.below hb1 hw.two
  have hi1 := hin.later hb1
  have hc1 := hi1.str
  clear hin hw
  go_wp2_with (at_builtin; refine Ty.wpList_append_in hi1 (by omega) (.const (.slice none 0 0)) (.tmp 15) rfl rfl rfl rfl ?_; intro va wa hBa ga)
  clear hc1
  have hTa := hT1.by ga (by intro k hk; cases hk)
  have hia := hi1.later (Ty.below_none ga (Nat.le_refl _))
  refine (Ty.uint_c _ _ _ z z0 uz _ hTa hBa ga.size (by omega)).mono ?_
  rintro e wx ⟨vx, rfl, hX, gX⟩
  have hbx : Below w1.heap.size w1 wx := (Ty.below_none ga (Nat.le_refl _)).trans (gX.below ga.size hBa.base)
  have hTx := hT1.below hbx hT1.two
  have hix := hi1.later hbx
  clear hBa ga hTa hia gX
  go_wp2_with (at_builtin; refine Ty.wpList_append_in hix (by omega) (.const (.slice none 0 0)) (.tmp 20) rfl rfl rfl rfl ?_; intro va wa hBa ga)
  have hTa := hTx.by ga (by intro k hk; cases hk)
  refine (Ty.int_c _ _ _ n hn _ hTa hBa ga.size (by omega)).mono ?_
  rintro e wy ⟨vy, rfl, hY, gY⟩
  have hby : Below wx.heap.size wx wy := (Ty.below_none ga (Nat.le_refl _)).trans (gY.below ga.size hBa.base)
  have hTy := hTx.below hby hTx.two
  have hiy := hix.later hby
  have hXy := hX.later hby
  clear hBa ga hTa gY
  go_wp2_with (at_builtin; refine Ty.wpList_append_in hiy (by omega) (.const (.slice none 0 0)) (.tmp 24) rfl rfl rfl rfl ?_; intro va wa hBa ga)
  have hTa := hTy.by ga (by intro k hk; cases hk)
  refine (Ty.text_c _ _ _ s _ hTa hBa ga.size (by omega)).mono ?_
  rintro e wz ⟨vz, rfl, hZ, gZ⟩
  have hbz : Below wy.heap.size wy wz := (Ty.below_none ga (Nat.le_refl _)).trans (gZ.below ga.size hBa.base)
  have hH : Ty.Held w1.heap.size vx vy vz v _ _ _ bs wz := ⟨hXy.later hbz, (hY.later hbz).mono hbx.size, hZ.mono (Nat.le_trans hbx.size hby.size), hiy.later hbz⟩
  have hend : Below w.heap.size w wz := hb1.trans (((hbx.trans (hby.mono hbx.size)).trans (hbz.mono (Nat.le_trans hbx.size hby.size))).mono hb1.size)
  clear hBa ga hTa gZ hXy hY hZ hiy hX hix hi1 hTx hTy hT1 hbx hby hbz hb1
  have p0 : (Ty.S bs).size ≤ 1048576 := hbs
  have p1 : (Ty.S (Ty.encU z.toNat)).size ≤ 9 := Ty.encU_len9 _
  have p2 : (Ty.S (Ty.encU (Ty.zig n).toNat)).size ≤ 9 := Ty.encU_len9 _
  have p3 : (Ty.S (Ty.encU s.size ++ s.data.toList)).size ≤ 1048586 := by have := Ty.encU_len9 s.size; rw [Ty.size_S, List.length_append, Ty.length_data]; omega
  have n1 : ¬ 9223372036854775807 < (Ty.S bs).size + (Ty.S (Ty.encU z.toNat)).size := by omega
  have n2 : ¬ 9223372036854775807 < (Ty.S bs).size + (Ty.S (Ty.encU (Ty.zig n).toNat)).size := by omega
  have n3 : ¬ 9223372036854775807 < (Ty.S bs).size + (Ty.S (Ty.encU s.size ++ s.data.toList)).size := by omega
  have q1 := Ty.S_add_beq bs (Ty.encU z.toNat)
  have q2 := Ty.S_add_beq bs (Ty.encU (Ty.zig n).toNat)
  have q3 := Ty.S_add_beq bs (Ty.encU s.size ++ s.data.toList)
  have q4 := Ty.S_self_beq bs
  have cU : ∀ d os, Calls Tryd.prog 14 #[.int .u64 z] (Sort.grow (redrawn wz d) os) fun e w'' => e = .returned (.string (Ty.S (Ty.encU z.toNat))) ∧ ∃ p : Regrown, w'' = Sort.grow (redrawn wz p.d) p.os := fun d os => Calls.regrown_of (Ty.ruint_c z z0 _)
  have cI : ∀ d os, Calls Tryd.prog 15 #[.int .i64 n] (Sort.grow (redrawn wz d) os) fun e w'' => e = .returned (.string (Ty.S (Ty.encU (Ty.zig n).toNat))) ∧ ∃ p : Regrown, w'' = Sort.grow (redrawn wz p.d) p.os := fun d os => Calls.regrown_of (Ty.rint_c n _ hn)
  have cT : ∀ d os, Calls Tryd.prog 16 #[.string s] (Sort.grow (redrawn wz d) os) fun e w'' => e = .returned (.string (Ty.S (Ty.encU s.size ++ s.data.toList))) ∧ ∃ p : Regrown, w'' = Sort.grow (redrawn wz p.d) p.os := fun d os => Calls.regrown_of (Ty.rtext_c s (by omega) _)
  have CU := Lib.hid cU
  have CI := Lib.hid cI
  have CT := Lib.hid cT
  have k1 : ∀ d os, (convert 22 9 vx).run Tryd.prog (Sort.grow (redrawn wz d) os) = .ok (.string (Ty.S (bs ++ Ty.encU z.toNat))) (Sort.grow (redrawn wz d) os) := fun d os => (hH.later (below_regrown wz d os)).x.str
  have k2 : ∀ d os, (convert 22 9 vy).run Tryd.prog (Sort.grow (redrawn wz d) os) = .ok (.string (Ty.S (bs ++ Ty.encU (Ty.zig n).toNat))) (Sort.grow (redrawn wz d) os) := fun d os => (hH.later (below_regrown wz d os)).y.str
  have k3 : ∀ d os, (convert 22 9 vz).run Tryd.prog (Sort.grow (redrawn wz d) os) = .ok (.string (Ty.S (bs ++ (Ty.encU s.size ++ s.data.toList)))) (Sort.grow (redrawn wz d) os) := fun d os => by rw [← List.append_assoc]; exact (hH.later (below_regrown wz d os)).z.str
  have k4 : ∀ d os, (convert 22 9 v).run Tryd.prog (Sort.grow (redrawn wz d) os) = .ok (.string (Ty.S bs)) (Sort.grow (redrawn wz d) os) := fun d os => (hH.later (below_regrown wz d os)).i.str
  clear cU cI cT
  go_wp2_with fail
  refine wp_region_quiet_below (by kernel_rfl) (by kernel_rfl) ?_
  repeat (quiet_step (first | exact CU.out _ _ | exact CI.out _ _ | exact CT.out _ _))
  refine wpQuiet_nil ?_
  intro _ hw'
  obtain ⟨⟨dq, osq⟩, hw''⟩ := hw'
  subst hw''
  go_wp2
  go_ret
  exact ⟨rfl, hend.trans ((below_regrown wz dq osq).mono hend.size)⟩
end Go.Proofs.YthfcpdifkgjjhaaDoor
