/-
  
-/
import Derived.Test.YtbelkhkllneifaaGreatDoorWCBD
import Derived.Test.YtbelkhkllneifaaGreatDoorWCBE
import Derived.Deep.RegionHeld3
namespace Go.Proofs.YtbelkhkllneifaaGreatDoor
open Go Go.RowKit
set_option maxHeartbeats 8000000 in
set_option maxRecDepth 100000 in
theorem Rn.lawBack_w (vs v : Value) (s : List Kn.C) (L : List Dd.D) (w : World) (hT : Ty.Tabs w) (hs : Dd.Cols w vs s) (hv : Bk.Ds w v L) (hz : Bk.Zs L) (hi : ∀ d ∈ L, ∀ x ∈ d.row, Ty.I64 x.n) :
 Calls Tryz.prog 4 #[vs, v] w fun e w' => e = .returned (.bool true) ∧ Below w.heap.size w w' := by
 have HT := Lib.hid hT
 have HS := Lib.hid hs
 have HV := Lib.hid hv
 have HZ := Lib.hid (Rn.zs_take hz 200)
 have HI := Lib.hid (Rn.i64_take hi 200)
 have HK2 : Hid ((L.take 200).length ≤ 200) := Lib.hid Rn.take_le
 obtain ⟨a, c, rfl, -⟩ := hv
 obtain ⟨⟨sa, sc, rfl, -⟩, -⟩ := hs
 clear hT hz hi
 go_enter Tryz.func4, Tryz.ntmps4
 go_wp2_with fail
 with_reducible refine (Rn.lives_c w HT.out).mono ?_
 rintro e w1 ⟨rfl, g1⟩
 have HG1 := Lib.hid g1
 have ce := Rn.early_c (HV.out.later g1)
 clear g1
 go_wp2_with fail
 with_reducible refine ce.mono ?_
 rintro e w2 ⟨a2, n2, c2, rfl, hd2, g2⟩
 have HG2 := Lib.hid (Rn.grow HG1.out g2)
 have HD2 := Lib.hid hd2
 have cw := Rn.pwrite_c _ _ s (L.take 200) w2 (Rn.tb2 HT.out HG2.out) (HS.out.later HG2.out) hd2 HZ.out HI.out HK2.out
 have CL := Lib.hid fun (wz : World) (g : Below w2.heap.size w2 wz) => Rn.loaded_c _ _ s (L.take 200) wz (Rn.tb2 HT.out (Rn.grow HG2.out g)) (HS.out.later (Rn.grow HG2.out g)) (HD2.out.later g) HZ.out HI.out HK2.out
 generalize L.take 200 = K at HD2 HZ HI HK2 cw CL
 clear ce g2 hd2
 by_cases h0 : Rn.wE s K = 0
 ·rw [Rn.wV_ok h0] at cw
  have HG : Hid (Rn.Gd s K) := Lib.hid ⟨h0, HK2.out⟩
  have H0 := Lib.hid h0
  clear h0
  generalize Ty.S (Rn.enc s K) = T at cw
  go_wp2_with fail
  with_reducible refine cw.mono ?_
  rintro e w3 ⟨rfl, g3⟩
  have HG3 := Lib.hid (Rn.grow HG2.out g3)
  have cl := CL.out w3 g3
  have HD3 := Lib.hid (HD2.out.later g3)
  clear cw g3 CL
  go_wp2_with fail
  with_reducible refine cl.mono ?_
  rintro e w4 ⟨hp, g4⟩
  have HG4 := Lib.hid (Rn.grow HG3.out g4)
  have HD4 := Lib.hid (HD3.out.later g4)
  rcases hp with ⟨h, _⟩ | ⟨p, _, rfl, hp⟩
  ·exact absurd H0.out h
  have HP := Lib.hid hp
  have hl1 : 1 ≤ K.length := (Rn.wE_0 H0.out).2.1
  obtain ⟨x, hx⟩ : ∃ x, K[0]? = some x := ⟨_, List.getElem?_eq_getElem hl1⟩
  obtain ⟨y, hy⟩ : ∃ y, K[K.length - 1]? = some y := ⟨_, List.getElem?_eq_getElem (by omega)⟩
  have cb := Rn.bounds_c hp HG.out hx hy
  have HXY := Lib.hid (And.intro hx hy)
  clear cl g4 hp
  generalize hX : Bk.key x = X at cb
  generalize hY : Bk.key y = Y at cb
  have HKEY := Lib.hid (And.intro hX hY)
  obtain ⟨Xn, Xi, Xs⟩ := X
  obtain ⟨Yn, Yi, Ys⟩ := Y
  unfold Kn.V.val at cb
  simp only at cb
  have hl2 := HK2.out
  have HN : Hid (K ≠ []) := Lib.hid (by intro h; rw [h] at hl1; simp at hl1)
  obtain ⟨n, hn⟩ : ∃ n, n = K.length - 1 := ⟨_, rfl⟩
  have HLn : Hid (K.length = n + 1 ∧ n = K.length - 1) := Lib.hid ⟨by omega, hn⟩
  have hn7 : (n : Int) ≤ 200 := by omega
  have hn0 : (0 : Int) ≤ (n : Int) := by omega
  clear hx hy hX hY hl1 hl2 hn
  go_upto_region 9 with (with_reducible refine cb.mono ?_; rintro e w5 ⟨rfl, g5⟩; have HG5 := Lib.hid g5; clear g5)
  obtain ⟨w7, hw7⟩ : ∃ w7, w7 = (w5.alloc (.cells #[.bool Xn, .int .i64 Xi, .string Xs] 33)).alloc (.cells #[.bool Yn, .int .i64 Yi, .string Ys] 33) := ⟨_, rfl⟩
  have HB7 : Hid (Below w5.heap.size w5 w7) := Lib.hid (by rw [hw7]; exact Kn.box2 _ _ _)
  have q0 : Kn.At w7 w5.heap.size 0 ⟨Xn, Xi, Xs⟩ := by rw [hw7]; exact (Kn.At.new w5 ⟨Xn, Xi, Xs⟩ 33).alloc _
  have q1 : Kn.At w7 (w5.heap.size + 1) 0 ⟨Yn, Yi, Ys⟩ := by
   rw [hw7]
   have := Kn.At.new (w5.alloc (.cells #[.bool Xn, .int .i64 Xi, .string Xs] 33)) ⟨Yn, Yi, Ys⟩ 33
   rwa [World.size_alloc] at this
  rw [← hw7]
  have HD7 := Lib.hid ((HD4.out.later HG5.out).later HB7.out)
  have HP7 := Lib.hid ((HP.out.later HG5.out).later HB7.out)
  have HG7 := Lib.hid (Rn.grow (Rn.grow HG4.out HG5.out) HB7.out)
  have HS7 : Hid (w5.heap.size + 2 ≤ w7.heap.size) := Lib.hid (by rw [hw7]; simp)
  clear hw7 cb
  obtain ⟨q, hq⟩ : ∃ q, q = w5.heap.size := ⟨_, rfl⟩
  rw [← hq] at q0 q1 HS7 ⊢
  clear hq
  obtain ⟨a', c', e9, hlc, hcm, hds⟩ := id HD7.out
  simp only [Value.slice.injEq] at e9
  obtain ⟨rfl, rfl, rfl⟩ := e9
  rcases hds with h9 | ⟨b, o, rfl, hb, hc⟩
  ·exact absurd h9 HN.out
  obtain ⟨u, _, e1, hu⟩ := hc 0 x HXY.out.1
  obtain ⟨v, _, e2, hv⟩ := hc (K.length - 1) y HXY.out.2
  obtain ⟨ua, uc, rfl, -⟩ := id hu
  obtain ⟨va, vc, rfl, -⟩ := id hv
  have nx := HG.out.ne x (List.mem_of_getElem? HXY.out.1)
  have ny := HG.out.ne y (List.mem_of_getElem? HXY.out.2)
  obtain ⟨_, xb, xo, rfl, hxb, hxa⟩ := Rn.row_at hu (Rn.key_at nx)
  obtain ⟨_, yb, yo, rfl, hyb, hya⟩ := Rn.row_at hv (Rn.key_at ny)
  rw [HKEY.out.1] at hxa
  rw [HKEY.out.2] at hya
  obtain ⟨x0, x1, x2⟩ := hxa
  obtain ⟨y0, y1, y2⟩ := hya
  simp only [Nat.zero_mul, Nat.add_zero] at e1 x0 x1 x2 y0 y1 y2
  rw [← HLn.out.2] at e2
  have hnx : (0 : Int) < (x.row.length : Int) := by have := List.length_pos_iff.2 nx; omega
  have hny : (0 : Int) < (y.row.length : Int) := by have := List.length_pos_iff.2 ny; omega
  have hnx2 : 0 < x.row.length := List.length_pos_iff.2 nx
  have hny2 : 0 < y.row.length := List.length_pos_iff.2 ny
  have hn1 : (n : Int) < (n : Int) + 1 := by omega
  have hn2 : n < n + 1 := by omega
  have hwr : IntKind.i64.wrap ((n : Int) + 1 - 1) = (n : Int) := by rw [IntKind.wrap_i64]; omega
  have hwr2 : IntKind.i64.wrap (n : Int) = (n : Int) := by rw [IntKind.wrap_i64]; omega
  rw [HLn.out.1]
  generalize x.row.length = xl at e1 hnx hnx2
  generalize y.row.length = yl at e2 hny hny2
  obtain ⟨p0, p1, p2⟩ := q0
  obtain ⟨r0, r1, r2⟩ := q1
  simp only [Nat.zero_add] at p0 p1 p2 r0 r1 r2
  have HS : Hid (∀ W, Below w7.heap.size w7 W → W.cell? ⟨q, 0, none⟩ = some (.bool Xn) ∧ W.cell? ⟨q, 1, none⟩ = some (.int .i64 Xi) ∧ W.cell? ⟨q, 2, none⟩ = some (.string Xs) ∧ W.cell? ⟨q + 1, 0, none⟩ = some (.bool Yn) ∧ W.cell? ⟨q + 1, 1, none⟩ = some (.int .i64 Yi) ∧ W.cell? ⟨q + 1, 2, none⟩ = some (.string Ys) ∧
   W.cell? ⟨b, o + 1, none⟩ = some (.slice (some ⟨xb, xo, none⟩) xl uc) ∧ W.cell? ⟨b, o + n * 2 + 1, none⟩ = some (.slice (some ⟨yb, yo, none⟩) yl vc) ∧
   W.cell? ⟨xb, xo, none⟩ = some (.bool Xn) ∧ W.cell? ⟨xb, xo + 1, none⟩ = some (.int .i64 Xi) ∧ W.cell? ⟨xb, xo + 2, none⟩ = some (.string Xs) ∧ W.cell? ⟨yb, yo, none⟩ = some (.bool Yn) ∧ W.cell? ⟨yb, yo + 1, none⟩ = some (.int .i64 Yi) ∧ W.cell? ⟨yb, yo + 2, none⟩ = some (.string Ys)) := Lib.hid fun W g => by
   have hk : ∀ {a : Addr} {z : Value}, w7.cell? a = some z → W.cell? a = some z := fun {a z} h => (g.cell (World.block_lt_of_cell? w7 _ h)).trans h
   exact ⟨hk p0, hk p1, hk p2, hk r0, hk r1, hk r2, hk e1, hk e2, hk x0, hk x1, hk x2, hk y0, hk y1, hk y2⟩
  have HDW : Hid (Below w7.heap.size w7 w7.drew) := Lib.hid (Below.refl _ w7).drew
  have CT := Lib.hid (Rn.told_c HP7.out.drew HG.out)
  have HSA : Hid (∀ W v, Below w7.heap.size w7 W → Bk.Ds W v K → Calls Tryz.prog 15 #[v, .slice (some ⟨b, o, none⟩) (n + 1) c2] W fun e w' => e = .returned (.bool true) ∧ Below W.heap.size W w') := Lib.hid fun W v g h => by
   have := HD7.out.later g
   rw [HLn.out.1] at this
   exact Bk.rsame_c v _ K W h this
  clear p0 p1 p2 r0 r1 r2 e1 e2 x0 x1 x2 y0 y1 y2 hxb hyb hu hv hb hc nx ny hlc hcm HKEY HXY
  go_region_held3 (fun W => W.cell? ⟨q, 0, none⟩ = some (.bool Xn) ∧ W.cell? ⟨q, 1, none⟩ = some (.int .i64 Xi) ∧ W.cell? ⟨q, 2, none⟩ = some (.string Xs) ∧ W.cell? ⟨q + 1, 0, none⟩ = some (.bool Yn) ∧ W.cell? ⟨q + 1, 1, none⟩ = some (.int .i64 Yi) ∧ W.cell? ⟨q + 1, 2, none⟩ = some (.string Ys) ∧
   W.cell? ⟨b, o + 1, none⟩ = some (.slice (some ⟨xb, xo, none⟩) xl uc) ∧ W.cell? ⟨b, o + n * 2 + 1, none⟩ = some (.slice (some ⟨yb, yo, none⟩) yl vc) ∧
   W.cell? ⟨xb, xo, none⟩ = some (.bool Xn) ∧ W.cell? ⟨xb, xo + 1, none⟩ = some (.int .i64 Xi) ∧ W.cell? ⟨xb, xo + 2, none⟩ = some (.string Xs) ∧ W.cell? ⟨yb, yo, none⟩ = some (.bool Yn) ∧ W.cell? ⟨yb, yo + 1, none⟩ = some (.int .i64 Yi) ∧ W.cell? ⟨yb, yo + 2, none⟩ = some (.string Ys))
   (first
    | exact HS.out _ HDW.out
    | exact HS.out _ (HDW.out.trans (g8.mono HDW.out.size))
    | exact HS.out _ (HDW.out.trans ((Rn.grow g8 g9).mono HDW.out.size)))
   (first
    | (go_at_call 16; (with_reducible refine CT.out.mono ?_); rintro e w8 ⟨v8, rfl, hv8, g8⟩)
    | (go_at_call 15; (with_reducible refine (HSA.out _ v8 (HDW.out.trans (g8.mono HDW.out.size)) hv8).mono ?_); rintro e w9 ⟨rfl, g9⟩))
  all_goals
   have HE : Hid (Below w.heap.size w w9) := Lib.hid (Rn.grow HG7.out (HDW.out.trans ((Rn.grow g8 g9).mono HDW.out.size)))
   clear hv8 g8 g9
   go_wp2
   go_ret
   exact ⟨rfl, HE.out⟩
 ·rw [Rn.wV_bad rfl h0] at cw
  have H0 := Lib.hid h0
  generalize Rn.wE s K = E at cw h0
  generalize Ty.S [] = T at cw
  go_wp2_with fail
  with_reducible refine cw.mono ?_
  rintro e w3 ⟨rfl, g3⟩
  have HG3 := Lib.hid (Rn.grow HG2.out g3)
  have cl := CL.out w3 g3
  clear cw g3 CL
  go_wp2_with fail
  with_reducible refine cl.mono ?_
  rintro e w4 ⟨hp, g4⟩
  have HG4 := Lib.hid (Rn.grow HG3.out g4)
  rcases hp with ⟨_, rfl⟩ | ⟨p, h, _⟩
  ·clear cl g4
   have hb : (E != 0) = true := by simp [h0]
   go_wp2
   go_ret
   exact ⟨rfl, HG4.out⟩
  ·exact absurd h H0.out
end Go.Proofs.YtbelkhkllneifaaGreatDoor
