/-
  The laws of disk: a call that answers an error has done nothing: two disks of the program side by side.
-/
import Derived.Test.YtfkdkdkdpenblaaL94
namespace Go.Proofs.Ytfkdkdkdpenblaa
open Go.RowKit
/-- Two disks of the program, side by side, their blocks from B on. -/
structure Dk.Twin (B : Nat) (Sa Sb : Nat → Prop) (w : World) (pa pb : Nat) (da db : Dk.D) : Prop where
  a : Dk.PAt Sa w pa da
  b : Dk.PAt Sb w pb db
  apart : ∀ x, Sa x → ¬ Sb x
  fromA : ∀ x, Sa x → B ≤ x
  fromB : ∀ x, Sb x → B ≤ x
theorem Dk.Twin.swap {B : Nat} {Sa Sb : Nat → Prop} {w : World} {pa pb : Nat} {da db : Dk.D} (h : Dk.Twin B Sa Sb w pa pb da db) : Dk.Twin B Sb Sa w pb pa db da := ⟨h.b, h.a, fun x hx hy => h.apart x hy hx, h.fromB, h.fromA⟩
theorem Dk.Twin.left {B : Nat} {Sa Sb : Nat → Prop} {w w1 : World} {pa pb : Nat} {da db d' : Dk.D} (h : Dk.Twin B Sa Sb w pa pb da db) (hB : B ≤ w.heap.size) (h1 : Dk.PDid Sa w pa d' w1) :
    Dk.Twin B (Dk.More Sa w w1) Sb w1 pa pb d' db ∧ Below B w w1 := by
  have hb := h.b.alive
  refine ⟨⟨h1.1, h.b.apart h1.2 fun x hx hs => h.apart x hs hx, fun x hx hs => ?_, fun x hx => ?_, h.fromB⟩, h1.2.below hB h.fromA⟩
  · rcases hx with hx | hx
    · exact h.apart x hx hs
    · have := hb x hs; omega
  · rcases hx with hx | hx
    · exact h.fromA x hx
    · omega
def Dk.TW (B : Nat) (w : World) (pa pb : Nat) (da db : Dk.D) : Prop := ∃ Sa Sb, Dk.Twin B Sa Sb w pa pb da db
section
variable {B : Nat} {w w' : World} {pa pb : Nat} {da db : Dk.D} {k : Nat}
theorem Dk.TW.swap (h : Dk.TW B w pa pb da db) : Dk.TW B w pb pa db da := by
  obtain ⟨Sa, Sb, h⟩ := h
  exact ⟨Sb, Sa, h.swap⟩
theorem Dk.TW.kept (h : Dk.TW B w pa pb da db) (g : Below w.heap.size w w') : Dk.TW B w' pa pb da db := by
  obtain ⟨Sa, Sb, h⟩ := h
  exact ⟨Sa, Sb, h.a.kept g, h.b.kept g, h.apart, h.fromA, h.fromB⟩
theorem Dk.TW.does (h : Dk.TW B w pa pb da db) (hg : Dk.Good k da) (hk : k ≤ 100000) {x : Dk.Step} (hx : x.Ok ∧ Ty.I64 x.n) {vK : Value} (hK : Ig.At B w vK x.keep) :
    Calls Try.prog 15 #[.pointer (some ⟨pa, 0, none⟩), .agg #[.int .i64 x.k, .string (Ty.S x.a), .string (Ty.S x.b), .int .i64 x.n, vK]] w fun e w' => e = .returned (.int .i64 (((Dk.step da x.op).2 : Nat) : Int)) ∧ Dk.TW B w' pa pb (Dk.step da x.op).1 db ∧ Below B w w' := by
  obtain ⟨_, _, _, _, hB, _⟩ := hK.is
  obtain ⟨Sa, Sb, h⟩ := h
  refine (Dk.does_c h.a (hg.fit hk) x hx.1 hx.2 B vK hK h.fromA).mono ?_
  rintro e w' ⟨he, hd⟩
  obtain ⟨t1, t2⟩ := h.left hB hd
  exact ⟨he, ⟨_, _, t1⟩, t2⟩
theorem Dk.TW.crash (h : Dk.TW B w pa pb da db) (hg : Dk.Good k da) (hk : k ≤ 100000) {x : Dk.Step} (hx : x.Ok ∧ Ty.I64 x.n) {vK : Value} (hK : Ig.At B w vK x.keep) :
    Calls Try.prog 24 #[.pointer (some ⟨pa, 0, none⟩), .int .i64 x.n, vK] w fun e w' => e = .returned (.tuple #[]) ∧ Dk.TW B w' pa pb (Dk.crash da x.n x.keep) db ∧ Below B w w' := by
  obtain ⟨_, _, _, _, hB, _⟩ := hK.is
  obtain ⟨Sa, Sb, h⟩ := h
  refine (Dk.pcrash_c h.a (hg.fit hk) x.n hx.2 x.keep vK (Dk.Keep.of hK h.fromA hx.1.keep)).mono ?_
  rintro e w' ⟨he, hd⟩
  obtain ⟨t1, t2⟩ := h.left hB hd
  exact ⟨he, ⟨_, _, t1⟩, t2⟩
theorem Dk.TW.names (h : Dk.TW B w pa pb da db) (hg : Dk.Good k da) (hk : k ≤ 100000) : Calls Try.prog 22 #[.pointer (some ⟨pa, 0, none⟩)] w fun e w' => ∃ v, e = .returned v ∧ Tx.Own w.heap.size w' v (Dk.names da) ∧ Below w.heap.size w w' := by
  obtain ⟨Sa, Sb, h⟩ := h
  exact Dk.pnames_c h.a (hg.fit hk)
theorem Dk.TW.held (h : Dk.TW B w pa pb da db) (hg : Dk.Good k da) (hk : k ≤ 100000) : Calls Try.prog 17 #[.pointer (some ⟨pa, 0, none⟩)] w fun e w' => e = .returned (.int .i64 ((Dk.held da : Nat) : Int)) ∧ Below w.heap.size w w' := by
  obtain ⟨Sa, Sb, h⟩ := h
  exact Dk.pheld_c h.a (hg.fit hk)
theorem Dk.TW.read (h : Dk.TW B w pa pb da db) (hg : Dk.Good k da) (hk : k ≤ 100000) (s : Dk.Str) (hs : s.length ≤ 140737488351232) :
    Calls Try.prog 19 #[.pointer (some ⟨pa, 0, none⟩), .string (Ty.S s)] w fun e w' => e = .returned (.tuple #[.string (Ty.S (Dk.read da s).1), .int .i64 (((Dk.read da s).2 : Nat) : Int)]) ∧ Below w.heap.size w w' := by
  obtain ⟨Sa, Sb, h⟩ := h
  exact Dk.pread_c h.a (hg.fit hk) s hs
end
theorem Dk.Good.tick {k : Nat} {d : Dk.D} (h : Dk.Good k d) : Dk.Good (k + 1) (Dk.tick d) := ⟨h.inv.tick, h.sz.tick, h.room0, h.room, h.dir, h.sure, h.chg⟩
set_option maxHeartbeats 8000000 in
set_option maxRecDepth 100000 in
theorem Dk.lawRefused_w (v : Value) (L : List Dk.Step) (x y : Dk.Step) (vx vy : Value) (w : World) (hv : Dk.Ops w.heap.size w v L) (hl : L.length ≤ 1048576) (hok : Dk.Steps L) (hx : x.Ok ∧ Ty.I64 x.n) (hy : y.Ok ∧ Ty.I64 y.n) (hvx : Ig.At w.heap.size w vx x.keep) (hvy : Ig.At w.heap.size w vy y.keep) :
    Calls Try.prog 6 #[v, x.val vx, y.val vy] w fun e w' => e = .returned (.bool true) ∧ Below w.heap.size w w' := by
  obtain ⟨wa, hwa⟩ : ∃ wa, wa = w.alloc (.cells #[.int .i64 x.k, .string (Ty.S x.a), .string (Ty.S x.b), .int .i64 x.n, vx] 33) := ⟨_, rfl⟩
  obtain ⟨wb, hwb⟩ : ∃ wb, wb = wa.alloc (.cells #[.int .i64 y.k, .string (Ty.S y.a), .string (Ty.S y.b), .int .i64 y.n, vy] 33) := ⟨_, rfl⟩
  have hsa : wa.heap.size = w.heap.size + 1 := by rw [hwa]; exact World.size_alloc ..
  have hba : Below w.heap.size w wa := by rw [hwa]; exact (Below.refl _ w).alloc (Nat.le_refl _) _
  have hbb : Below wa.heap.size wa wb := by rw [hwb]; exact (Below.refl _ wa).alloc (Nat.le_refl _) _
  have hb0 : Below w.heap.size w wb := hba.trans (hbb.mono (by omega))
  have hlt : w.heap.size < wb.heap.size := by have := hbb.size; omega
  have hlt2 : wa.heap.size < wb.heap.size := by rw [hwb, World.size_alloc]; omega
  have hxc : ∀ i u, #[Value.int .i64 x.k, .string (Ty.S x.a), .string (Ty.S x.b), .int .i64 x.n, vx][i]? = some u → wb.cell? ⟨w.heap.size, i, none⟩ = some u := fun i u h => (hbb.cell (p := ⟨w.heap.size, i, none⟩) (by show w.heap.size < wa.heap.size; omega)).trans (by rw [hwa]; exact Kn.cell_new w _ _ i _ h)
  have y3 : wb.cell? ⟨wa.heap.size, 3, none⟩ = some (.int .i64 y.n) := by rw [hwb]; exact Kn.cell_new wa _ _ 3 _ rfl
  have y4 : wb.cell? ⟨wa.heap.size, 4, none⟩ = some vy := by rw [hwb]; exact Kn.cell_new wa _ _ 4 _ rfl
  rw [hsa] at y3 y4
  obtain ⟨ax, cx, hvx2⟩ : ∃ a c, vx = .slice a x.keep.length c := by obtain ⟨a, c, h, _⟩ := hvx.is; exact ⟨a, c, h⟩
  obtain ⟨ay, cy, hvy2⟩ : ∃ a c, vy = .slice a y.keep.length c := by obtain ⟨a, c, h, _⟩ := hvy.is; exact ⟨a, c, h⟩
  -- everything below wb stays
  have HXC : Hid (∀ W, Below wb.heap.size wb W → W.cell? ⟨w.heap.size, 0, none⟩ = some (.int .i64 x.k) ∧ W.cell? ⟨w.heap.size, 1, none⟩ = some (.string (Ty.S x.a)) ∧ W.cell? ⟨w.heap.size, 2, none⟩ = some (.string (Ty.S x.b)) ∧ W.cell? ⟨w.heap.size, 3, none⟩ = some (.int .i64 x.n) ∧ W.cell? ⟨w.heap.size, 4, none⟩ = some vx) := Lib.hid fun W g =>
    ⟨(g.cell (p := ⟨w.heap.size, 0, none⟩) hlt).trans (hxc 0 _ rfl), (g.cell (p := ⟨w.heap.size, 1, none⟩) hlt).trans (hxc 1 _ rfl), (g.cell (p := ⟨w.heap.size, 2, none⟩) hlt).trans (hxc 2 _ rfl), (g.cell (p := ⟨w.heap.size, 3, none⟩) hlt).trans (hxc 3 _ rfl), (g.cell (p := ⟨w.heap.size, 4, none⟩) hlt).trans (hxc 4 _ rfl)⟩
  have HYC : Hid (∀ W, Below wb.heap.size wb W → W.cell? ⟨w.heap.size + 1, 3, none⟩ = some (.int .i64 y.n) ∧ W.cell? ⟨w.heap.size + 1, 4, none⟩ = some vy) := Lib.hid fun W g =>
    ⟨(g.cell (p := ⟨w.heap.size + 1, 3, none⟩) (by rw [← hsa]; exact hlt2)).trans y3, (g.cell (p := ⟨w.heap.size + 1, 4, none⟩) (by rw [← hsa]; exact hlt2)).trans y4⟩
  have HVB := Lib.hid (hv.below hb0)
  have HB0 := Lib.hid hb0
  have HX := Lib.hid hx
  have HY := Lib.hid hy
  have HVX := Lib.hid (hvx.below hb0)
  have HVY := Lib.hid (hvy.below hb0)
  have HLT := Lib.hid hlt
  have HM : Hid (Dk.Steps (L.take 300) ∧ (L.take 300).length ≤ 300) := Lib.hid ⟨hok.take 300, List.length_take_le _ _⟩
  have CE : Hid (∀ W, Below wb.heap.size wb W → Calls Try.prog 12 #[v] W fun e w' => ∃ u, e = .returned u ∧ Dk.Ops w.heap.size W u (L.take 300) ∧ w' = W) := Lib.hid fun W g => Dk.early_c (HVB.out.below (g.mono (Nat.le_of_lt hlt))) hl
  have CN : Hid (∀ W, Calls Try.prog 13 #[.int .i64 500] W fun e w' => ∃ p, e = .returned (.pointer (some ⟨p, 0, none⟩)) ∧ Dk.PAt (fun b => W.heap.size ≤ b ∧ b < w'.heap.size) w' p (Dk.new 500) ∧ Below W.heap.size W w') := Lib.hid fun W => Dk.pnew_c 500 (by unfold Ty.I64; omega) W
  have HG0 : Hid (Dk.Good 0 (Dk.new 500)) := Lib.hid (Dk.Good.new 500 (by decide))
  have CK : Hid (∀ W, Calls Try.prog 31 #[.agg #[.int .i64 x.k, .string (Ty.S x.a), .string (Ty.S x.b), .int .i64 x.n, vx]] W fun e w' => e = .returned (.int .i64 ((Dk.kindOf x.k : Nat) : Int)) ∧ Below W.heap.size W w') := Lib.hid fun W => Dk.kind_c x vx W
  have CDX : Hid (∀ (k : Nat) (W : World) (pa pb : Nat) (da db : Dk.D), Below wb.heap.size wb W → Dk.TW wb.heap.size W pa pb da db → Dk.Good k da → k ≤ 100000 → Calls Try.prog 15 #[.pointer (some ⟨pa, 0, none⟩), .agg #[.int .i64 x.k, .string (Ty.S x.a), .string (Ty.S x.b), .int .i64 x.n, vx]] W fun e w' => e = .returned (.int .i64 (((Dk.step da x.op).2 : Nat) : Int)) ∧ Dk.TW wb.heap.size w' pa pb (Dk.step da x.op).1 db ∧ Below wb.heap.size W w') := Lib.hid fun k W pa pb da db g h hg hk =>
    h.does hg hk hx (HVX.out.below (g.mono (Nat.le_of_lt hlt)) |>.mono (Nat.le_of_lt hlt) g.size)
  have CCY : Hid (∀ (k : Nat) (W : World) (pa pb : Nat) (da db : Dk.D), Below wb.heap.size wb W → Dk.TW wb.heap.size W pa pb da db → Dk.Good k da → k ≤ 100000 → Calls Try.prog 24 #[.pointer (some ⟨pa, 0, none⟩), .int .i64 y.n, vy] W fun e w' => e = .returned (.tuple #[]) ∧ Dk.TW wb.heap.size w' pa pb (Dk.crash da y.n y.keep) db ∧ Below wb.heap.size W w') := Lib.hid fun k W pa pb da db g h hg hk =>
    h.crash hg hk hy (HVY.out.below (g.mono (Nat.le_of_lt hlt)) |>.mono (Nat.le_of_lt hlt) g.size)
  generalize L.take 300 = M at CE HM
  generalize hkx : x.keep.length = kx at hvx2
  generalize hky : y.keep.length = ky at hvy2
  unfold Dk.Step.val
  rw [hvx2] at hwa HXC CK CDX ⊢
  rw [hvy2] at hwb HYC CCY ⊢
  generalize Ty.S x.a = xa at hwa HXC CK CDX ⊢
  generalize Ty.S x.b = xb at hwa HXC CK CDX ⊢
  generalize Ty.S y.a = ya at hwb ⊢
  generalize Ty.S y.b = yb at hwb ⊢
  clear hv hl hok hx hy hvx hvy hxc y3 y4 hvx2 hvy2 hkx hky hsa hba hbb hb0 hlt hlt2 HVX HVY
  go_enter Try.func6, Try.ntmps6
  go_wp2_with fail
  rw [← hwa, ← hwb]
  clear hwa hwb
  with_reducible refine (Dk.lives_c _).mono ?_
  rintro e w1 ⟨rfl, g1⟩
  have ce := CE.out w1 g1
  have HB1 := Lib.hid g1
  clear g1 CE
  go_wp2_with fail
  with_reducible refine ce.mono ?_
  rintro e w2 ⟨u, rfl, hu, h2⟩
  subst w2
  have HU := Lib.hid hu
  obtain ⟨aU, cU, hvU, _⟩ := hu.is
  subst hvU
  clear ce hu
  go_wp2_with fail
  with_reducible refine (CN.out _).mono ?_
  rintro e w3 ⟨pa, rfl, hpa, g3⟩
  go_wp2_with fail
  with_reducible refine (CN.out _).mono ?_
  rintro e w4 ⟨pb, rfl, hpb, g4⟩
  have hg34 := g3.trans (g4.mono g3.size)
  have HU4 := Lib.hid (HU.out.below (hg34.mono (Nat.le_trans (Nat.le_of_lt HLT.out) HB1.out.size)))
  have HT4 : Hid (Dk.TW wb.heap.size w4 pa pb (Dk.new 500) (Dk.new 500)) := Lib.hid ⟨_, _, hpa.kept g4, hpb, fun x h1 h2 => by omega, fun x h1 => by have := HB1.out.size; omega, fun x h1 => by have := HB1.out.size; have := g3.size; omega⟩
  have HB4 := Lib.hid (HB1.out.trans (hg34.mono HB1.out.size))
  have hml := HM.out.2
  clear hpa hpb g3 g4 hg34 CN
  go_wp2_with fail
  go_loopw [9] (fun i wr => ∃ (q : Nat) (d : Dk.D), q ≤ M.length ∧ i = .int .i64 q ∧ Dk.Good q d ∧ Dk.TW wb.heap.size wr pa pb d d ∧ Below wb.heap.size wb wr ∧ Dk.Ops w.heap.size wr (.slice aU M.length cU) M) (fun i _ => M.length - (intOf i).toNat)
  case atStart => exact ⟨0, Dk.new 500, by omega, rfl, HG0.out, HT4.out, HB4.out, HU4.out⟩
  case round =>
    obtain ⟨q, d, hq, rfl, hG, hT, hB, hU⟩ := hrel
    have HG := Lib.hid hG
    have HB := Lib.hid hB
    have HUU := Lib.hid hU
    have hq0 : (0 : Int) ≤ (q : Int) := by omega
    by_cases hql : q < M.length
    · obtain ⟨z, hz⟩ : ∃ z, M[q]? = some z := ⟨_, List.getElem?_eq_getElem hql⟩
      have hzo := HM.out.1 z (List.mem_of_getElem? hz)
      obtain ⟨a', c', he, _, hbB, hh2⟩ := hU.is
      simp only [Value.slice.injEq, true_and] at he
      obtain ⟨rfl, rfl⟩ := he
      rcases hh2 with ⟨h0, _⟩ | ⟨b, o, rfl, hbl, hh2⟩
      · rw [h0] at hql; simp at hql
      · obtain ⟨e0, e1, e2, e3, vK, e4, hK⟩ := hh2 q z hz
        obtain ⟨aK, cK, hvK, _⟩ := hK.is
        have hKB := hK.mono (Nat.le_of_lt HLT.out) hB.size
        have hqm : q ≤ 100000 := by have := HM.out.2; omega
        have cd := hT.does HG.out hqm hzo hKB
        have CD2 : Hid (∀ W, Below wb.heap.size wr W → Dk.TW wb.heap.size W pa pb (Dk.step d z.op).1 d → (W.cell? ⟨b, o + q * 5, none⟩ = some (.int .i64 z.k) ∧ W.cell? ⟨b, o + q * 5 + 1, none⟩ = some (.string (Ty.S z.a)) ∧ W.cell? ⟨b, o + q * 5 + 2, none⟩ = some (.string (Ty.S z.b)) ∧ W.cell? ⟨b, o + q * 5 + 3, none⟩ = some (.int .i64 z.n) ∧ W.cell? ⟨b, o + q * 5 + 4, none⟩ = some vK) ∧
            Calls Try.prog 15 #[.pointer (some ⟨pb, 0, none⟩), .agg #[.int .i64 z.k, .string (Ty.S z.a), .string (Ty.S z.b), .int .i64 z.n, vK]] W fun e w' => e = .returned (.int .i64 (((Dk.step d z.op).2 : Nat) : Int)) ∧ Dk.TW wb.heap.size w' pa pb (Dk.step d z.op).1 (Dk.step d z.op).1 ∧ Below wb.heap.size W w') := Lib.hid fun W g hT1 => by
          have hbl2 : b < wb.heap.size := Nat.lt_trans hbl HLT.out
          refine ⟨⟨(g.cell (p := ⟨b, o + q * 5, none⟩) hbl2).trans e0, (g.cell (p := ⟨b, o + q * 5 + 1, none⟩) hbl2).trans e1, (g.cell (p := ⟨b, o + q * 5 + 2, none⟩) hbl2).trans e2, (g.cell (p := ⟨b, o + q * 5 + 3, none⟩) hbl2).trans e3, (g.cell (p := ⟨b, o + q * 5 + 4, none⟩) hbl2).trans e4⟩, ?_⟩
          refine (hT1.swap.does HG.out hqm hzo (hKB.below g)).mono ?_
          rintro e w' ⟨he, ht, hb⟩
          exact ⟨he, ht.swap, hb⟩
        have HGN := Lib.hid (HG.out.op hzo)
        rw [hvK] at cd e4 CD2
        generalize Ty.S z.a = sa at cd e1 CD2
        generalize Ty.S z.b = sb at cd e2 CD2
        have hqi : (q : Int) < (M.length : Int) := by omega
        clear hzo hh2 hK hKB hvK hG hT hB hU hql hz
        go_wp2_with fail
        with_reducible refine cd.mono ?_
        rintro e wd ⟨rfl, hTd, gd⟩
        obtain ⟨⟨f0, f1, f2, f3, f4⟩, cd2⟩ := CD2.out wd gd hTd
        have HBd := Lib.hid (HB.out.trans gd)
        have HUd := Lib.hid (HUU.out.below (gd.mono (Nat.le_of_lt HLT.out)))
        clear cd hTd gd e0 e1 e2 e3 e4 CD2
        go_wp2_with fail
        with_reducible refine cd2.mono ?_
        rintro e we ⟨rfl, hTe, ge⟩
        have HTe := Lib.hid hTe
        have HBe := Lib.hid (HBd.out.trans ge)
        have HUe := Lib.hid (HUd.out.below (ge.mono (Nat.le_of_lt HLT.out)))
        clear cd2 hTe ge f0 f1 f2 f3 f4
        go_wp2
        go_roundw
        case rel => exact ⟨q + 1, _, by omega, by simp, HGN.out, HTe.out, HBe.out, HUe.out⟩
        case measure => simp [intOf]; omega
    · obtain rfl : q = M.length := by omega
      have hqi : ¬ (M.length : Int) < (M.length : Int) := by omega
      have hqm : M.length + 5 ≤ 100000 := by have := HM.out.2; omega
      have HQM := Lib.hid hqm
      obtain ⟨x0, x1, x2, x3, x4⟩ := HXC.out wr hB
      have HT := Lib.hid hT
      clear hG hU hq hT hml hB
      go_wp2_with fail
      with_reducible refine (CK.out _).mono ?_
      rintro e wk ⟨rfl, gk⟩
      have HBk := Lib.hid (HB.out.trans (gk.mono HB.out.size))
      have HTk := Lib.hid (HT.out.kept gk)
      have hkl := Dk.kind_lt x.k
      obtain ⟨x0, x1, x2, x3, x4⟩ := HXC.out wk HBk.out
      have cdx := CDX.out M.length wk pa pb d d HBk.out HTk.out HG.out (by omega)
      have HER : Hid (Dk.kindOf x.k ≤ 5 → (Dk.step d x.op).2 ≠ 0 → (Dk.step d x.op).1 = Dk.tick d) := Lib.hid fun h1 h2 => Dk.err_tick d x.op h1 h2
      clear gk CK CDX
      by_cases hk5 : Dk.kindOf x.k ≤ 5
      · have hki : ¬ ((Dk.kindOf x.k : Nat) : Int) > 5 := by omega
        have HER' := Lib.hid (HER.out hk5)
        generalize Dk.kindOf x.k = K at hki
        generalize hst : Dk.step d x.op = r at cdx HER'
        obtain ⟨D1, E⟩ := r
        simp only at cdx HER'
        clear hk5 hkl HER hst
        by_cases hE : E = 0
        · subst hE
          go_wp2_with fail
          with_reducible refine cdx.mono ?_
          rintro e wd ⟨rfl, hTd, gd⟩
          have HBd := Lib.hid (HBk.out.trans gd)
          clear cdx hTd gd x0 x1 x2 x3 x4
          go_wp2
          go_ret
          exact ⟨rfl, HB0.out.trans (HBd.out.mono (Nat.le_of_lt HLT.out))⟩
        · have hEb : ((E : Int) == 0) = false := by rw [beq_eq_false_iff_ne]; omega
          have hD1 := HER'.out hE
          subst hD1
          clear HER' hE
          go_wp2_with fail
          with_reducible refine cdx.mono ?_
          rintro e wd ⟨rfl, hTd, gd⟩
          have HBd := Lib.hid (HBk.out.trans gd)
          have HTd := Lib.hid hTd
          clear cdx hTd gd x0 x1 x2 x3 x4
          have HGt := Lib.hid HG.out.tick
          have CNM : Hid (∀ W, Below wd.heap.size wd W → Calls Try.prog 22 #[.pointer (some ⟨pa, 0, none⟩)] W (fun e w' => ∃ v, e = .returned v ∧ Tx.Own W.heap.size w' v (Dk.names d) ∧ Below W.heap.size W w') ∧
              Calls Try.prog 22 #[.pointer (some ⟨pb, 0, none⟩)] W (fun e w' => ∃ v, e = .returned v ∧ Tx.Own W.heap.size w' v (Dk.names d) ∧ Below W.heap.size W w') ∧
              Calls Try.prog 17 #[.pointer (some ⟨pa, 0, none⟩)] W (fun e w' => e = .returned (.int .i64 ((Dk.held d : Nat) : Int)) ∧ Below W.heap.size W w') ∧
              Calls Try.prog 17 #[.pointer (some ⟨pb, 0, none⟩)] W (fun e w' => e = .returned (.int .i64 ((Dk.held d : Nat) : Int)) ∧ Below W.heap.size W w')) := Lib.hid fun W g =>
            have h := HTd.out.kept g
            ⟨h.names HGt.out (by have := HQM.out; omega), h.swap.names HG.out (by have := HQM.out; omega), h.held HGt.out (by have := HQM.out; omega), h.swap.held HG.out (by have := HQM.out; omega)⟩
          have hnl := Dk.names_len HG.out
          generalize Dk.names d = Nm at CNM hnl
          generalize Dk.held d = hd at CNM
          have hHH : ((hd : Int) == (hd : Int)) = true := by simp
          have cn1 := (CNM.out wd (Below.refl _ _)).1
          go_wp2_with fail
          with_reducible refine cn1.mono ?_
          rintro e wn1 ⟨va, rfl, hOa, g1⟩
          have HOa := Lib.hid hOa
          have G1 := Lib.hid g1
          have cn2 := (CNM.out wn1 g1).2.1
          clear cn1 hOa g1
          go_wp2_with fail
          with_reducible refine cn2.mono ?_
          rintro e wn2 ⟨vb, rfl, hOb, g2⟩
          have G2 := Lib.hid (G1.out.trans (g2.mono G1.out.size))
          have csm := Tx.same_c va vb Nm wn2 (Tx.Own.at (Bt.Buf.kept HOa.out g2)) (Tx.Own.at hOb) (by have := HQM.out; omega)
          clear cn2 hOb g2 HOa
          go_wp2_with fail
          with_reducible refine csm.mono ?_
          rintro e wn3 ⟨rfl, g3⟩
          have G3 := Lib.hid (G2.out.trans (g3.mono G2.out.size))
          have ch1 := (CNM.out wn3 G3.out).2.2.1
          clear csm g3
          go_wp2_with fail
          with_reducible refine ch1.mono ?_
          rintro e wn4 ⟨rfl, g4⟩
          have G4 := Lib.hid (G3.out.trans (g4.mono G3.out.size))
          have ch2 := (CNM.out wn4 G4.out).2.2.2
          clear ch1 g4
          go_wp2_with fail
          with_reducible refine ch2.mono ?_
          rintro e wn5 ⟨rfl, g5⟩
          have g5' := G4.out.trans (g5.mono G4.out.size)
          have HB5 := Lib.hid (HBd.out.trans (g5'.mono HBd.out.size))
          have hT5 := HTd.out.kept g5'
          obtain ⟨y3, y4⟩ := HYC.out wn5 HB5.out
          have cc1 := CCY.out (M.length + 1) wn5 pa pb (Dk.tick d) d HB5.out hT5 HGt.out (by have := HQM.out; omega)
          have HGA := Lib.hid (HGt.out.crash y.n HY.out.2 y.keep)
          have HGB := Lib.hid (HG.out.crash y.n HY.out.2 y.keep)
          have HQ : Hid ((∀ s, Dk.read (Dk.crash (Dk.tick d) y.n y.keep) s = Dk.read (Dk.crash d y.n y.keep) s) ∧ Dk.names (Dk.crash (Dk.tick d) y.n y.keep) = Dk.names (Dk.crash d y.n y.keep)) := Lib.hid ⟨fun _ => rfl, rfl⟩
          clear ch2 g5 g5' hT5 G1 G2 G3 G4 CNM hnl
          go_wp2_with fail
          with_reducible refine cc1.mono ?_
          rintro e wc1 ⟨rfl, hT6, g6⟩
          have HB6 := Lib.hid (HB5.out.trans g6)
          obtain ⟨y3, y4⟩ := HYC.out wc1 HB6.out
          have cc2 := CCY.out M.length wc1 pb pa d _ HB6.out hT6.swap HG.out (by have := HQM.out; omega)
          clear cc1 hT6 g6
          go_wp2_with fail
          with_reducible refine cc2.mono ?_
          rintro e wc2 ⟨rfl, hT7, g7⟩
          have HB7 := Lib.hid (HB6.out.trans g7)
          have HT7 := Lib.hid hT7.swap
          generalize Dk.crash (Dk.tick d) y.n y.keep = dA at HGA HQ HT7
          generalize Dk.crash d y.n y.keep = dB at HGB HQ HT7
          have CRD : Hid (∀ W s, Below wc2.heap.size wc2 W → s.length ≤ 140737488351232 → Calls Try.prog 19 #[.pointer (some ⟨pa, 0, none⟩), .string (Ty.S s)] W (fun e w' => e = .returned (.tuple #[.string (Ty.S (Dk.read dB s).1), .int .i64 (((Dk.read dB s).2 : Nat) : Int)]) ∧ Below W.heap.size W w') ∧
              Calls Try.prog 19 #[.pointer (some ⟨pb, 0, none⟩), .string (Ty.S s)] W (fun e w' => e = .returned (.tuple #[.string (Ty.S (Dk.read dB s).1), .int .i64 (((Dk.read dB s).2 : Nat) : Int)]) ∧ Below W.heap.size W w')) := Lib.hid fun W s g hs => by
            have h := HT7.out.kept g
            refine ⟨?_, h.swap.read HGB.out (by have := HQM.out; omega) s hs⟩
            have := h.read HGA.out (by have := HQM.out; omega) s hs
            rwa [HQ.out.1 s] at this
          have CNM : Hid (∀ W, Below wc2.heap.size wc2 W → Calls Try.prog 22 #[.pointer (some ⟨pa, 0, none⟩)] W (fun e w' => ∃ v, e = .returned v ∧ Tx.Own W.heap.size w' v (Dk.names dB) ∧ Below W.heap.size W w') ∧
              Calls Try.prog 22 #[.pointer (some ⟨pb, 0, none⟩)] W (fun e w' => ∃ v, e = .returned v ∧ Tx.Own W.heap.size w' v (Dk.names dB) ∧ Below W.heap.size W w')) := Lib.hid fun W g => by
            have h := HT7.out.kept g
            refine ⟨?_, h.swap.names HGB.out (by have := HQM.out; omega)⟩
            have := h.names HGA.out (by have := HQM.out; omega)
            rwa [HQ.out.2] at this
          have HRS : Hid (∀ i, ((Dk.names dB).getD i []).length ≤ 140737488351232) := Lib.hid fun i => by have := Dk.name_short HGB.out i; omega
          have hnl := Dk.names_len HGB.out
          generalize Dk.names dB = Nm2 at CNM HRS hnl
          have cn1 := (CNM.out wc2 (Below.refl _ _)).1
          clear cc2 hT7 g7 y3 y4
          go_wp2_with fail
          with_reducible refine cn1.mono ?_
          rintro e wn ⟨vn, rfl, hN, gn⟩
          have HN := Lib.hid hN
          have HGN := Lib.hid gn
          obtain ⟨aN, cN, hvN⟩ := Dk.own_slice hN
          subst hvN
          have hnl2 : Nm2.length ≤ 100000 := by have := HQM.out; omega
          clear cn1 hN gn hnl
          go_wp2_with fail
          go_loopw [10, 12, 13, 14, 15, 16] (fun sv i _ _ _ _ wr => ∃ q : Nat, q ≤ Nm2.length ∧ sv = .bool true ∧ i = .int .i64 q ∧ Below wn.heap.size wn wr) (fun _ i _ _ _ _ _ => Nm2.length - (intOf i).toNat)
          case atStart => exact ⟨0, by omega, rfl, rfl, Below.refl _ _⟩
          case round =>
            obtain ⟨q, hq, rfl, rfl, hB⟩ := hrel
            have HBq := Lib.hid hB
            have hq0 : (0 : Int) ≤ (q : Int) := by omega
            by_cases hql : q < Nm2.length
            · obtain ⟨g, c, he, hcell⟩ := Dk.own_at HN.out hql
              simp only [Value.slice.injEq, true_and] at he
              obtain ⟨rfl, rfl⟩ := he
              have HCW : Hid (∀ W, Below wn.heap.size wn W → W.cell? ⟨g, q, none⟩ = some (.string (Ty.S (Nm2.getD q [])))) := Lib.hid fun W gW => (gW.cell (p := ⟨g, q, none⟩) (World.block_lt_of_cell? wn _ hcell)).trans hcell
              have hc1 := HCW.out wr hB
              have CR : Hid (∀ W, Below wn.heap.size wn W → Calls Try.prog 19 #[.pointer (some ⟨pa, 0, none⟩), .string (Ty.S (Nm2.getD q []))] W (fun e w' => e = .returned (.tuple #[.string (Ty.S (Dk.read dB (Nm2.getD q [])).1), .int .i64 (((Dk.read dB (Nm2.getD q [])).2 : Nat) : Int)]) ∧ Below W.heap.size W w') ∧
                  Calls Try.prog 19 #[.pointer (some ⟨pb, 0, none⟩), .string (Ty.S (Nm2.getD q []))] W (fun e w' => e = .returned (.tuple #[.string (Ty.S (Dk.read dB (Nm2.getD q [])).1), .int .i64 (((Dk.read dB (Nm2.getD q [])).2 : Nat) : Int)]) ∧ Below W.heap.size W w')) := Lib.hid fun W g => CRD.out W _ (HGN.out.trans (g.mono HGN.out.size)) (HRS.out q)
              have hyes := Tx.S_yes (Dk.read dB (Nm2.getD q [])).1
              generalize (Dk.read dB (Nm2.getD q [])).2 = RE at CR
              generalize Ty.S (Dk.read dB (Nm2.getD q [])).1 = sx at CR hyes
              generalize Ty.S (Nm2.getD q []) = sn at CR HCW hc1
              have cr1 := (CR.out wr hB).1
              have hqi2 : (q : Int) < (Nm2.length : Int) := by omega
              clear hcell hB hql
              go_wp2_with fail
              with_reducible refine cr1.mono ?_
              rintro e we ⟨rfl, ge⟩
              have HBe := Lib.hid (HBq.out.trans (ge.mono HBq.out.size))
              have hc2 := HCW.out we HBe.out
              have cr2 := (CR.out we HBe.out).2
              clear cr1 ge hc1
              go_wp2_with fail
              with_reducible refine cr2.mono ?_
              rintro e wf ⟨rfl, gf⟩
              have HBf := Lib.hid (HBe.out.trans (gf.mono HBe.out.size))
              clear cr2 gf hc2
              go_wp2
              go_roundw
              case rel => exact ⟨q + 1, by omega, rfl, by simp, HBf.out⟩
              case measure => simp [intOf]; omega
            · obtain rfl : q = Nm2.length := by omega
              have hqi2 : ¬ (Nm2.length : Int) < (Nm2.length : Int) := by omega
              have HBw := Lib.hid (HGN.out.trans (hB.mono HGN.out.size))
              have cn2 := (CNM.out wr HBw.out).2
              clear hB
              go_wp2_with fail
              with_reducible refine cn2.mono ?_
              rintro e wg ⟨vg, rfl, hOg, gg⟩
              have HBg := Lib.hid (HBq.out.trans (gg.mono HBq.out.size))
              have csm := Tx.same_c _ vg Nm2 wg (Tx.Own.at (Bt.Buf.kept HN.out HBg.out)) (Tx.Own.at hOg) (by omega)
              clear cn2 hOg gg
              go_wp2_with fail
              with_reducible refine csm.mono ?_
              rintro e wh ⟨rfl, gh⟩
              have HBh := Lib.hid (HBg.out.trans (gh.mono HBg.out.size))
              clear csm gh
              go_wp2
              go_ret
              exact ⟨rfl, HB0.out.trans ((HB7.out.trans ((HGN.out.trans (HBh.out.mono HGN.out.size)).mono HB7.out.size)).mono (Nat.le_of_lt HLT.out))⟩
      · have hki : ((Dk.kindOf x.k : Nat) : Int) > 5 := by omega
        generalize Dk.kindOf x.k = K at hki
        clear hk5 hkl HER cdx
        go_wp2
        go_ret
        exact ⟨rfl, HB0.out.trans (HBk.out.mono (Nat.le_of_lt HLT.out))⟩
end Go.Proofs.Ytfkdkdkdpenblaa
