/-
  Contracts of package zone: the zone of two lists together.
-/
import Derived.Test.YtdjnjhlcdcmeaaaZE
import Derived.Test.YtdjnjhlcdcmeaaaZ6
import Derived.Test.YtdjnjhlcdcmeaaaZ7
namespace Go.Proofs.Ytdjnjhlcdcmeaaa
open Go.RowKit
theorem Zn.ends_len (z : Zn.Zo) : (Zn.ends z).length ≤ 2 := by unfold Zn.ends; split <;> simp
theorem Zn.ends_z {x y : Zn.Zo} (h1 : Kn.Z x.lo) (h2 : Kn.Z x.hi) (h3 : Kn.Z y.lo) (h4 : Kn.Z y.hi) : ∀ v ∈ Zn.ends x ++ Zn.ends y, Kn.Z v := by
  have h : ∀ z : Zn.Zo, Kn.Z z.lo → Kn.Z z.hi → ∀ v ∈ Zn.ends z, Kn.Z v := fun z a b v hv => by
    unfold Zn.ends at hv
    split at hv
    · simp only [List.mem_cons, List.not_mem_nil, or_false] at hv
      rcases hv with rfl | rfl
      · exact a
      · exact b
    · cases hv
  intro v hv
  rcases List.mem_append.1 hv with hv | hv
  · exact h x h1 h2 v hv
  · exact h y h3 h4 v hv
theorem Zn.boxedJ (w : World) (x y : Zn.Zo) : Zn.Blk (((w.alloc (.cells (Zn.cs x) 30)).alloc (.cells (Zn.cs y) 30)).alloc (.cells (Zn.cs Zn.z0) 30)) w.heap.size x ∧
    Zn.Blk (((w.alloc (.cells (Zn.cs x) 30)).alloc (.cells (Zn.cs y) 30)).alloc (.cells (Zn.cs Zn.z0) 30)) (w.heap.size + 1) y ∧
    Zn.Blk (((w.alloc (.cells (Zn.cs x) 30)).alloc (.cells (Zn.cs y) 30)).alloc (.cells (Zn.cs Zn.z0) 30)) (w.heap.size + 2) Zn.z0 ∧
    Below w.heap.size w (((w.alloc (.cells (Zn.cs x) 30)).alloc (.cells (Zn.cs y) 30)).alloc (.cells (Zn.cs Zn.z0) 30)) := by
  refine ⟨((Zn.Blk.new w x).alloc _).alloc _, ?_, ?_, (((Below.refl _ w).alloc (Nat.le_refl _) _).alloc (by simp) _).alloc (by simp; omega) _⟩
  · have := (Zn.Blk.new (w.alloc (.cells (Zn.cs x) 30)) y).alloc (.cells (Zn.cs Zn.z0) 30)
    rwa [World.size_alloc] at this
  · have := Zn.Blk.new ((w.alloc (.cells (Zn.cs x) 30)).alloc (.cells (Zn.cs y) 30)) Zn.z0
    rwa [World.size_alloc, World.size_alloc] at this
/-- A zone's block that is new since wo, as it was made. -/
structure Zn.Fresh (wo W : World) (p : Nat) : Prop where
  blk : W.heap[p]? = some (.cells #[.bool false, .bool false, .bool false, .int .i64 0, .string ⟨#[]⟩, .bool false, .int .i64 0, .string ⟨#[]⟩] 30 (0, 0))
  le : wo.heap.size ≤ p
theorem Zn.Fresh.new {wo X : World} (h : Below wo.heap.size wo X) : Zn.Fresh wo (X.alloc (.cells #[.bool false, .bool false, .bool false, .int .i64 0, .string ⟨#[]⟩, .bool false, .int .i64 0, .string ⟨#[]⟩] 30)) X.heap.size := ⟨heap_alloc_new X _, h.size⟩
theorem Zn.Fresh.lt {wo W : World} {p : Nat} (h : Zn.Fresh wo W p) : p < W.heap.size := lt_of_block h.blk
theorem Zn.Fresh.kept {wo W W' : World} {p : Nat} (h : Zn.Fresh wo W p) (g : Below W.heap.size W W') : Zn.Fresh wo W' p := ⟨(g.block p h.lt).trans h.blk, h.le⟩
theorem Zn.Fresh.alloc {wo W : World} {p : Nat} (h : Zn.Fresh wo W p) (o : Obj) : Zn.Fresh wo (W.alloc o) p := h.kept ((Below.refl _ W).alloc (Nat.le_refl _) o)
theorem Zn.Fresh.drew {wo W : World} {p : Nat} (h : Zn.Fresh wo W p) : Zn.Fresh wo W.drew p := ⟨h.blk, h.le⟩
theorem Zn.Fresh.zo {wo W : World} {p : Nat} (h : Zn.Fresh wo W p) : Zn.Blk W p Zn.z0 := h.blk
theorem Zn.Fresh.cells {wo W : World} {p : Nat} (h : Zn.Fresh wo W p) :
    (W.cell? ⟨p, 0, none⟩ = some (.bool false) ∧ W.cell? ⟨p, 1, none⟩ = some (.bool false) ∧ W.cell? ⟨p, 2, none⟩ = some (.bool false) ∧ W.cell? ⟨p, 3, none⟩ = some (.int .i64 0) ∧ W.cell? ⟨p, 4, none⟩ = some (.string ⟨#[]⟩) ∧ W.cell? ⟨p, 5, none⟩ = some (.bool false) ∧ W.cell? ⟨p, 6, none⟩ = some (.int .i64 0) ∧ W.cell? ⟨p, 7, none⟩ = some (.string ⟨#[]⟩)) ∧
    W.frozen? ⟨p, 0, none⟩ = false ∧ W.frozen? ⟨p, 1, none⟩ = false ∧ W.frozen? ⟨p, 2, none⟩ = false ∧ W.frozen? ⟨p, 3, none⟩ = false ∧ W.frozen? ⟨p, 4, none⟩ = false ∧ W.frozen? ⟨p, 5, none⟩ = false ∧ W.frozen? ⟨p, 6, none⟩ = false ∧ W.frozen? ⟨p, 7, none⟩ = false := ⟨h.zo.cells, h.zo.frozens⟩
set_option maxHeartbeats 8000000 in
set_option maxRecDepth 100000 in
theorem Zn.join_c (x y : Zn.Zo) (hx1 : Kn.Z x.lo) (hx2 : Kn.Z x.hi) (hy1 : Kn.Z y.lo) (hy2 : Kn.Z y.hi) (w : World) : Calls Try.prog 14 #[x.val, y.val] w fun e w' => e = .returned (Zn.join x y).val ∧ Below w.heap.size w w' := by
  obtain ⟨hX, hY, hR, hb⟩ := Zn.boxedJ w x y
  have C1 := Lib.hid (fun wz => Zn.ends_c x wz)
  have C2 := Lib.hid (fun wz => Zn.ends_c y wz)
  have hlen : ((Zn.ends x).length + (Zn.ends y).length) * 32 ≤ 140737488355328 := by have := Zn.ends_len x; have := Zn.ends_len y; omega
  have CC := Lib.hid fun q u1 u2 wz => Zn.concat_c q u1 u2 (Zn.ends x) (Zn.ends y) hlen wz
  have hz := Zn.ends_z hx1 hx2 hy1 hy2
  have hOF : ∀ v wz, Kn.Vals wz v (Zn.ends x ++ Zn.ends y) → Calls Try.prog 11 #[v] wz fun e w' => e = .returned (Zn.of (Zn.ends x ++ Zn.ends y)).val ∧ Below wz.heap.size wz w' := fun v wz h => Zn.of_c v _ wz h hz
  have hJ : Zn.join x y = ⟨x.nulls || y.nulls, (Zn.of (Zn.ends x ++ Zn.ends y)).values, (Zn.of (Zn.ends x ++ Zn.ends y)).lo, (Zn.of (Zn.ends x ++ Zn.ends y)).hi⟩ := rfl
  rw [hJ]
  clear hJ hz hlen hx1 hx2 hy1 hy2
  obtain ⟨N, hN⟩ : ∃ N, N = (x.nulls || y.nulls) := ⟨_, rfl⟩
  rw [← hN]
  have HNN := Lib.hid hN
  clear hN
  generalize Zn.of (Zn.ends x ++ Zn.ends y) = Y at hOF ⊢
  have CO := Lib.hid hOF
  clear hOF
  generalize Zn.ends x = E1 at C1 CC CO
  generalize Zn.ends y = E2 at C2 CC CO
  obtain ⟨xn, xw, ⟨x3, x4, x5⟩, ⟨x6, x7, x8⟩⟩ := x
  obtain ⟨yn, yw, ⟨y3, y4, y5⟩, ⟨y6, y7, y8⟩⟩ := y
  obtain ⟨Yn, Yw, ⟨Y3, Y4, Y5⟩, ⟨Y6, Y7, Y8⟩⟩ := Y
  unfold Zn.Zo.val at C1 C2 CO
  simp only [Zn.cs, Zn.z0, Zn.zv] at hX hY hR hb C1 C2 CO HNN
  have HX := Lib.hid hX
  have HY := Lib.hid hY
  have HR := Lib.hid hR
  have HB := Lib.hid hb
  clear hX hY hR hb
  go_enter Try.func14, Try.ntmps14
  go_upto_region 1 with (fail)
  generalize ((w.alloc _).alloc _).alloc _ = wo at HX HY HR HB ⊢
  have HS : Hid (∀ W, Below wo.heap.size wo W → (W.cell? ⟨w.heap.size, 0, none⟩ = some (.bool xn) ∧ W.cell? ⟨w.heap.size, 1, none⟩ = some (.bool xw) ∧ W.cell? ⟨w.heap.size, 2, none⟩ = some (.bool x3) ∧ W.cell? ⟨w.heap.size, 3, none⟩ = some (.int .i64 x4) ∧ W.cell? ⟨w.heap.size, 4, none⟩ = some (.string x5) ∧ W.cell? ⟨w.heap.size, 5, none⟩ = some (.bool x6) ∧ W.cell? ⟨w.heap.size, 6, none⟩ = some (.int .i64 x7) ∧ W.cell? ⟨w.heap.size, 7, none⟩ = some (.string x8)) ∧
      W.cell? ⟨w.heap.size + 1, 0, none⟩ = some (.bool yn) ∧ W.cell? ⟨w.heap.size + 1, 1, none⟩ = some (.bool yw) ∧ W.cell? ⟨w.heap.size + 1, 2, none⟩ = some (.bool y3) ∧ W.cell? ⟨w.heap.size + 1, 3, none⟩ = some (.int .i64 y4) ∧ W.cell? ⟨w.heap.size + 1, 4, none⟩ = some (.string y5) ∧ W.cell? ⟨w.heap.size + 1, 5, none⟩ = some (.bool y6) ∧ W.cell? ⟨w.heap.size + 1, 6, none⟩ = some (.int .i64 y7) ∧ W.cell? ⟨w.heap.size + 1, 7, none⟩ = some (.string y8)) := Lib.hid fun W g => ⟨(HX.out.kept g).cells, (HY.out.kept g).cells⟩
  have HO := Lib.hid (Below.refl wo.heap.size wo)
  have HD : Hid (Below wo.heap.size wo wo.drew) := Lib.hid (Kn.drewN_below wo 1)
  go_cut [5] (fun s5 wx => ∃ p : Nat, s5 = .pointer (some ⟨p, 0, none⟩) ∧ wo.heap.size ≤ p ∧ Zn.Blk wx p ⟨Yn, Yw, ⟨Y3, Y4, Y5⟩, ⟨Y6, Y7, Y8⟩⟩ ∧ Below wo.heap.size wo wx)
  case first =>
    go_region_held3 (fun W => (W.cell? ⟨w.heap.size, 0, none⟩ = some (.bool xn) ∧ W.cell? ⟨w.heap.size, 1, none⟩ = some (.bool xw) ∧ W.cell? ⟨w.heap.size, 2, none⟩ = some (.bool x3) ∧ W.cell? ⟨w.heap.size, 3, none⟩ = some (.int .i64 x4) ∧ W.cell? ⟨w.heap.size, 4, none⟩ = some (.string x5) ∧ W.cell? ⟨w.heap.size, 5, none⟩ = some (.bool x6) ∧ W.cell? ⟨w.heap.size, 6, none⟩ = some (.int .i64 x7) ∧ W.cell? ⟨w.heap.size, 7, none⟩ = some (.string x8)) ∧
      W.cell? ⟨w.heap.size + 1, 0, none⟩ = some (.bool yn) ∧ W.cell? ⟨w.heap.size + 1, 1, none⟩ = some (.bool yw) ∧ W.cell? ⟨w.heap.size + 1, 2, none⟩ = some (.bool y3) ∧ W.cell? ⟨w.heap.size + 1, 3, none⟩ = some (.int .i64 y4) ∧ W.cell? ⟨w.heap.size + 1, 4, none⟩ = some (.string y5) ∧ W.cell? ⟨w.heap.size + 1, 5, none⟩ = some (.bool y6) ∧ W.cell? ⟨w.heap.size + 1, 6, none⟩ = some (.int .i64 y7) ∧ W.cell? ⟨w.heap.size + 1, 7, none⟩ = some (.string y8))
      ((refine HS.out _ ?_; repeat' (first | with_reducible exact hb6 | with_reducible exact hb5 | with_reducible exact hb3 | with_reducible exact hb1 | with_reducible exact HD.out | with_reducible exact HO.out | with_reducible refine Zn.below_set ?_ hy.le _ _ | with_reducible refine Zn.below_alloc ?_ _ | with_reducible refine Below.drew ?_ | with_reducible refine Zn.grow ?_ g6 | with_reducible refine Zn.grow ?_ g5 | with_reducible refine Zn.grow ?_ g3 | with_reducible refine Zn.grow ?_ g1 )))
      (first
        | (go_at_call 23
           (with_reducible refine (C1.out _).mono ?_)
           rintro e w1 ⟨v1, rfl, hv1, hn1, g1⟩
           obtain ⟨b1, d1, ev1, _⟩ := hv1.is
           subst ev1
           have HN1 := Lib.hid hn1
           have HV1 := Lib.hid hv1
           clear hn1 hv1
           have hb1 : Below wo.heap.size wo w1 := by (refine Zn.grow ?_ g1; repeat' (first | with_reducible exact hb6 | with_reducible exact hb5 | with_reducible exact hb3 | with_reducible exact hb1 | with_reducible exact HD.out | with_reducible exact HO.out | with_reducible refine Zn.below_alloc ?_ _ | with_reducible refine Below.drew ?_ | with_reducible refine Zn.grow ?_ g6 | with_reducible refine Zn.grow ?_ g5 | with_reducible refine Zn.grow ?_ g3 | with_reducible refine Zn.grow ?_ g1 )))
        | (go_at_call 23
           (with_reducible refine (C2.out _).mono ?_)
           rintro e w3 ⟨v3, rfl, hv3, hn3, g3⟩
           obtain ⟨b3, d3, ev3, _⟩ := hv3.is
           subst ev3
           have HN3 := Lib.hid hn3
           have HV3 := Lib.hid hv3
           clear hn3 hv3
           have hb3 : Below wo.heap.size wo w3 := by (refine Zn.grow ?_ g3; repeat' (first | with_reducible exact hb6 | with_reducible exact hb5 | with_reducible exact hb3 | with_reducible exact hb1 | with_reducible exact HD.out | with_reducible exact HO.out | with_reducible refine Zn.below_alloc ?_ _ | with_reducible refine Below.drew ?_ | with_reducible refine Zn.grow ?_ g6 | with_reducible refine Zn.grow ?_ g5 | with_reducible refine Zn.grow ?_ g3 | with_reducible refine Zn.grow ?_ g1 )))
        | (go_at_call 22
           (with_reducible refine (CC.out _ _ _ _ ⟨HV1.out.later ?k1, HN1.out⟩ ⟨HV3.out.later ?k3, HN3.out⟩ ⟨?k4, ?k5⟩).mono ?_)
           case k1 => (repeat' (first | exact Below.refl _ _ | with_reducible refine Zn.grow ?_ g3 | with_reducible refine Zn.below_alloc ?_ _ | with_reducible refine Below.drew ?_))
           case k3 => (repeat' (first | exact Below.refl _ _ | with_reducible refine Zn.below_alloc ?_ _ | with_reducible refine Below.drew ?_))
           case k4 => go_simp
           case k5 => go_simp
           rintro e w5 ⟨v5, rfl, hv5, g5⟩
           have hb5 : Below wo.heap.size wo w5 := by (refine Zn.grow ?_ g5; repeat' (first | with_reducible exact hb6 | with_reducible exact hb5 | with_reducible exact hb3 | with_reducible exact hb1 | with_reducible exact HD.out | with_reducible exact HO.out | with_reducible refine Zn.below_alloc ?_ _ | with_reducible refine Below.drew ?_ | with_reducible refine Zn.grow ?_ g6 | with_reducible refine Zn.grow ?_ g5 | with_reducible refine Zn.grow ?_ g3 | with_reducible refine Zn.grow ?_ g1 )))
        | (go_at_call 11
           (with_reducible refine (CO.out v5 _ (hv5.later ?k5)).mono ?_)
           case k5 => (repeat' (first | exact Below.refl _ _ | with_reducible refine Zn.below_alloc ?_ _ | with_reducible refine Below.drew ?_))
           rintro e w6 ⟨rfl, g6⟩
           have hb6 : Below wo.heap.size wo w6 := by (refine Zn.grow ?_ g6; repeat' (first | with_reducible exact hb6 | with_reducible exact hb5 | with_reducible exact hb3 | with_reducible exact hb1 | with_reducible exact HD.out | with_reducible exact HO.out | with_reducible refine Zn.below_alloc ?_ _ | with_reducible refine Below.drew ?_ | with_reducible refine Zn.grow ?_ g6 | with_reducible refine Zn.grow ?_ g5 | with_reducible refine Zn.grow ?_ g3 | with_reducible refine Zn.grow ?_ g1 ))
           (first
             | (have hy := (Zn.Fresh.new (wo := wo) (by repeat' (first | with_reducible exact hb6 | with_reducible exact hb5 | with_reducible exact hb3 | with_reducible exact hb1 | with_reducible exact HD.out | with_reducible exact HO.out | with_reducible refine Zn.below_alloc ?_ _ | with_reducible refine Below.drew ?_ | with_reducible refine Zn.grow ?_ g6 | with_reducible refine Zn.grow ?_ g5 | with_reducible refine Zn.grow ?_ g3 | with_reducible refine Zn.grow ?_ g1 ))).kept g6; (try simp only [World.size_alloc] at hy); obtain ⟨⟨t0, t1, t2, t3, t4, t5, t6, t7⟩, f0, f1, f2, f3, f4, f5, f6, f7⟩ := hy.cells)
             | (have hy := ((Zn.Fresh.new (wo := wo) (by repeat' (first | with_reducible exact hb6 | with_reducible exact hb5 | with_reducible exact hb3 | with_reducible exact hb1 | with_reducible exact HD.out | with_reducible exact HO.out | with_reducible refine Zn.below_alloc ?_ _ | with_reducible refine Below.drew ?_ | with_reducible refine Zn.grow ?_ g6 | with_reducible refine Zn.grow ?_ g5 | with_reducible refine Zn.grow ?_ g3 | with_reducible refine Zn.grow ?_ g1 ))).kept g5).kept g6; (try simp only [World.size_alloc] at hy); obtain ⟨⟨t0, t1, t2, t3, t4, t5, t6, t7⟩, f0, f1, f2, f3, f4, f5, f6, f7⟩ := hy.cells)
             | (have hy := (((Zn.Fresh.new (wo := wo) (by repeat' (first | with_reducible exact hb6 | with_reducible exact hb5 | with_reducible exact hb3 | with_reducible exact hb1 | with_reducible exact HD.out | with_reducible exact HO.out | with_reducible refine Zn.below_alloc ?_ _ | with_reducible refine Below.drew ?_ | with_reducible refine Zn.grow ?_ g6 | with_reducible refine Zn.grow ?_ g5 | with_reducible refine Zn.grow ?_ g3 | with_reducible refine Zn.grow ?_ g1 ))).alloc _).kept g5).kept g6; (try simp only [World.size_alloc] at hy); obtain ⟨⟨t0, t1, t2, t3, t4, t5, t6, t7⟩, f0, f1, f2, f3, f4, f5, f6, f7⟩ := hy.cells)
             | (have hy := ((((Zn.Fresh.new (wo := wo) (by repeat' (first | with_reducible exact hb6 | with_reducible exact hb5 | with_reducible exact hb3 | with_reducible exact hb1 | with_reducible exact HD.out | with_reducible exact HO.out | with_reducible refine Zn.below_alloc ?_ _ | with_reducible refine Below.drew ?_ | with_reducible refine Zn.grow ?_ g6 | with_reducible refine Zn.grow ?_ g5 | with_reducible refine Zn.grow ?_ g3 | with_reducible refine Zn.grow ?_ g1 ))).kept g3).alloc _).kept g5).kept g6; (try simp only [World.size_alloc] at hy); obtain ⟨⟨t0, t1, t2, t3, t4, t5, t6, t7⟩, f0, f1, f2, f3, f4, f5, f6, f7⟩ := hy.cells)
             | (have hy := ((((((Zn.Fresh.new (wo := wo) (by repeat' (first | with_reducible exact hb6 | with_reducible exact hb5 | with_reducible exact hb3 | with_reducible exact hb1 | with_reducible exact HD.out | with_reducible exact HO.out | with_reducible refine Zn.below_alloc ?_ _ | with_reducible refine Below.drew ?_ | with_reducible refine Zn.grow ?_ g6 | with_reducible refine Zn.grow ?_ g5 | with_reducible refine Zn.grow ?_ g3 | with_reducible refine Zn.grow ?_ g1 ))).drew).kept g1).kept g3).alloc _).kept g5).kept g6; (try simp only [World.size_alloc] at hy); obtain ⟨⟨t0, t1, t2, t3, t4, t5, t6, t7⟩, f0, f1, f2, f3, f4, f5, f6, f7⟩ := hy.cells)
             | skip)))
    all_goals go_wp2_with fail
    all_goals go_meet
    all_goals first
      | exact ⟨_, rfl, hy.le, hy.zo.put ⟨Yn, Yw, ⟨Y3, Y4, Y5⟩, ⟨Y6, Y7, Y8⟩⟩, Zn.put_below hb6 hy.le ⟨Yn, Yw, ⟨Y3, Y4, Y5⟩, ⟨Y6, Y7, Y8⟩⟩⟩
      | exact ⟨_, rfl, hb6.size, Zn.Blk.new w6 ⟨Yn, Yw, ⟨Y3, Y4, Y5⟩, ⟨Y6, Y7, Y8⟩⟩, Zn.below_alloc hb6 _⟩
  case rest =>
    obtain ⟨p, rfl, hp, hB, hE⟩ := hcut
    have HP := Lib.hid hp
    have HLT : Hid (w.heap.size + 2 < p) := Lib.hid (by have := HR.out.lt; omega)
    have HBL := Lib.hid hB
    have x0 := (HX.out.kept hE).cells.1
    have y0 := (HY.out.kept hE).cells.1
    obtain ⟨t0, t1, t2, t3, t4, t5, t6, t7⟩ := hB.cells
    have f0 := hB.frozen 0
    simp only at x0 y0 t0 t1 t2 t3 t4 t5 t6 t7
    have HRE := Lib.hid (HR.out.kept hE)
    have HEE := Lib.hid (HB.out.trans (hE.mono HB.out.size))
    clear hp hB hE C1 C2 CC CO HS HO HD
    cases xn
    · obtain rfl : N = yn := by rw [HNN.out]; rfl
      go_upto_region 3 with (fail)
      have HB2 := Lib.hid (HBL.out.set0 N)
      have HR2 := Lib.hid (HRE.out.other (show w.heap.size + 2 ≠ p by have := HLT.out; omega) 0 (.bool N))
      have HE2 := Lib.hid (Zn.below_set HEE.out (show w.heap.size ≤ p by have := HLT.out; omega) 0 (.bool N))
      clear x0 y0 t0 t1 t2 t3 t4 t5 t6 t7 f0
      generalize wc.setCell ⟨p, 0, none⟩ (.bool N) = wd at HB2 HR2 HE2 ⊢
      obtain ⟨t0, t1, t2, t3, t4, t5, t6, t7⟩ := HB2.out.cells
      obtain ⟨r0, r1, r2, r3, r4, r5, r6, r7⟩ := HR2.out.cells
      obtain ⟨f0, f1, f2, f3, f4, f5, f6, f7⟩ := HR2.out.frozens
      simp only at t0 t1 t2 t3 t4 t5 t6 t7
      go_wp2
      have HQ := Lib.hid (Zn.put_below (q := w.heap.size + 2) HE2.out (by omega) ⟨N, Yw, ⟨Y3, Y4, Y5⟩, ⟨Y6, Y7, Y8⟩⟩)
      (try simp only [Exit.inBlock, Exit.then])
      refine bodyPost_ret (v := .agg #[.bool N, .bool Yw, .bool Y3, .int .i64 Y4, .string Y5, .bool Y6, .int .i64 Y7, .string Y8]) ?_ rfl ⟨rfl, HQ.out⟩
      rw [Zn.results_cell rfl]
      go_simp
    · obtain rfl : N = true := by rw [HNN.out]; rfl
      go_upto_region 3 with (fail)
      have HB2 := Lib.hid (HBL.out.set0 true)
      have HR2 := Lib.hid (HRE.out.other (show w.heap.size + 2 ≠ p by have := HLT.out; omega) 0 (.bool true))
      have HE2 := Lib.hid (Zn.below_set HEE.out (show w.heap.size ≤ p by have := HLT.out; omega) 0 (.bool true))
      clear x0 y0 t0 t1 t2 t3 t4 t5 t6 t7 f0
      generalize wc.setCell ⟨p, 0, none⟩ (.bool true) = wd at HB2 HR2 HE2 ⊢
      obtain ⟨t0, t1, t2, t3, t4, t5, t6, t7⟩ := HB2.out.cells
      obtain ⟨r0, r1, r2, r3, r4, r5, r6, r7⟩ := HR2.out.cells
      obtain ⟨f0, f1, f2, f3, f4, f5, f6, f7⟩ := HR2.out.frozens
      simp only at t0 t1 t2 t3 t4 t5 t6 t7
      go_wp2
      have HQ := Lib.hid (Zn.put_below (q := w.heap.size + 2) HE2.out (by omega) ⟨true, Yw, ⟨Y3, Y4, Y5⟩, ⟨Y6, Y7, Y8⟩⟩)
      (try simp only [Exit.inBlock, Exit.then])
      refine bodyPost_ret (v := .agg #[.bool true, .bool Yw, .bool Y3, .int .i64 Y4, .string Y5, .bool Y6, .int .i64 Y7, .string Y8]) ?_ rfl ⟨rfl, HQ.out⟩
      rw [Zn.results_cell rfl]
      go_simp
end Go.Proofs.Ytdjnjhlcdcmeaaa
