/-
  The laws of disk: DiskLoad.
-/
import Derived.Test.YtfkdkdkdpenblaaVL
import Derived.Test.YtfkdkdkdpenblaaVO
namespace Go.Proofs.Ytfkdkdkdpenblaa
open Go.RowKit Go.Maps
open Ig (nth)
/-- A disk loaded with the texts of two steps. -/
def Dk.Pair (x y : Dk.Step) (d : Dk.D) : Prop := ∃ T, Dk.Loaded T d ∧ (∀ u, T u ≠ none ↔ (u = x.a ∨ u = y.a)) ∧ (x.a ≠ y.a → T x.a = some x.b ∧ T y.a = some y.b)
theorem Dk.Pair.crash {x y : Dk.Step} {d : Dk.D} (h : Dk.Pair x y d) (n : Int) (keep : List Int) : Dk.Pair x y (Dk.crash d n keep) := by
  obtain ⟨T, h1, h2, h3⟩ := h
  exact ⟨T, h1.crash n keep, h2, h3⟩
theorem Dk.Pair.fit {x y : Dk.Step} {d : Dk.D} (h : Dk.Pair x y d) : Dk.FitL d := by
  obtain ⟨T, h1, _⟩ := h
  exact h1.fit
theorem Dk.Pair.reads {x y : Dk.Step} {d : Dk.D} (h : Dk.Pair x y d) : ∃ s t, Dk.read d y.a = (s, 0) ∧ Dk.read d x.a = (t, 0) ∧ (x.a ≠ y.a → s = y.b ∧ t = x.b) := by
  obtain ⟨T, h1, h2, h3⟩ := h
  have hy := (h2 y.a).2 (.inr rfl)
  have hx := (h2 x.a).2 (.inl rfl)
  obtain ⟨s, hs⟩ := Option.ne_none_iff_exists'.1 hy
  obtain ⟨t, ht⟩ := Option.ne_none_iff_exists'.1 hx
  refine ⟨s, t, h1.read hs, h1.read ht, fun hne => ?_⟩
  obtain ⟨e1, e2⟩ := h3 hne
  rw [e1] at ht
  rw [e2] at hs
  simp only [Option.some.injEq] at hs ht
  exact ⟨hs.symm, ht.symm⟩
theorem Dk.Pair.names {x y : Dk.Step} {d : Dk.D} (h : Dk.Pair x y d) : (Dk.names d).length = if x.a = y.a then 1 else 2 := by
  obtain ⟨T, h1, h2, _⟩ := h
  have ha := h1.fit.inv.dir.asc
  have hm : ∀ s, s ∈ Dk.names d ↔ (s = x.a ∨ s = y.a) := fun s => by
    unfold Dk.names
    rw [← Dk.look_isSome ha, ← h2 s]
    cases hl : Dk.look d.dir s with
    | none => rw [h1.none s hl]; simp
    | some f => rw [h1.some s f hl]; simp
  have hnd := Dk.names_nodup ha
  by_cases e : x.a = y.a
  · rw [if_pos e]
    have hp : (Dk.names d).Perm [x.a] := (List.perm_ext_iff_of_nodup hnd (by simp)).2 fun s => by
      show s ∈ Dk.names d ↔ _
      rw [hm s, e]
      simp
    exact hp.length_eq
  · rw [if_neg e]
    have hp : (Dk.names d).Perm [x.a, y.a] := (List.perm_ext_iff_of_nodup hnd (by simp [e])).2 fun s => by
      show s ∈ Dk.names d ↔ _
      rw [hm s]
      simp
    exact hp.length_eq
theorem Dk.Pair.one {x y : Dk.Step} {d : Dk.D} {T : Dk.Str → Option Dk.Str} (h : Dk.Loaded T d) (hT : T = (fun u => if u = y.a then some y.b else if u = x.a then some x.b else none) ∨ T = (fun u => if u = x.a then some x.b else if u = y.a then some y.b else none)) : Dk.Pair x y d := by
  refine ⟨T, h, fun u => ?_, fun hne => ?_⟩
  · rcases hT with rfl | rfl
    · show (if u = y.a then some y.b else if u = x.a then some x.b else none) ≠ none ↔ _
      split
      · next e => exact ⟨fun _ => .inr e, fun _ h => by cases h⟩
      · next e =>
        split
        · next e' => exact ⟨fun _ => .inl e', fun _ h => by cases h⟩
        · next e' => exact ⟨fun h => absurd rfl h, fun h => h.elim (fun h => absurd h e') (fun h => absurd h e)⟩
    · show (if u = x.a then some x.b else if u = y.a then some y.b else none) ≠ none ↔ _
      split
      · next e => exact ⟨fun _ => .inl e, fun _ h => by cases h⟩
      · next e =>
        split
        · next e' => exact ⟨fun _ => .inr e', fun _ h => by cases h⟩
        · next e' => exact ⟨fun h => absurd rfl h, fun h => h.elim (fun h => absurd h e) (fun h => absurd h e')⟩
  · rcases hT with rfl | rfl
    · exact ⟨by simp [hne], by simp⟩
    · exact ⟨by simp, by simp only [if_neg (fun e : y.a = x.a => hne e.symm), if_true]⟩
/-- A map of two texts. -/
theorem Dk.two_texts {w : World} {b : Nat} {x y : Dk.Step} (h : w.ownsMap Try.prog 9 Dk.strR b 0 (.map [])) (hx : x.a.length ≤ 140737488351232 ∧ x.b.length ≤ 140737488351232) (hy : y.a.length ≤ 140737488351232 ∧ y.b.length ≤ 140737488351232) :
    ∃ w1 w2, (Instr.mapUpdate 52 (.map (some b)) (.string (Ty.S x.a)) (.string (Ty.S x.b))).run Try.prog w = .ok () w1 ∧ (Instr.mapUpdate 52 (.map (some b)) (.string (Ty.S y.a)) (.string (Ty.S y.b))).run Try.prog w1 = .ok () w2 ∧
      w.grownBy w1 (some b) ∧ w1.grownBy w2 (some b) ∧ ∃ D, w2.ownsMap Try.prog 9 Dk.strR b 2 D ∧ Dk.Txs D (fun u => if u = y.a then some y.b else if u = x.a then some x.b else none) := by
  obtain ⟨w1, r1, h1, g1⟩ := h.update (e := 9) Dk.keyed Try.underlying52 (by unfold maxLen; omega) (Dk.key x.a hx.1) (val := .string (Ty.S x.b)) (d := .lit (.string x.b)) (ps := []) rfl
  obtain ⟨w2, r2, h2, g2⟩ := h1.update (e := 9) Dk.keyed Try.underlying52 (by unfold maxLen; omega) (Dk.key y.a hy.1) (val := .string (Ty.S y.b)) (d := .lit (.string y.b)) (ps := []) rfl
  exact ⟨w1, w2, r1, r2, g1, g2, _, h2, (Dk.Txs.nil.put h.isMap x.a x.b).put h1.isMap y.a y.b⟩
/-- Load of it, in either order. -/
theorem Dk.pair_c {w w2 : World} {b : Nat} {x y : Dk.Step} {T : Dk.Str → Option Dk.Str} {D : DataW Unit} (h : w2.ownsMap Try.prog 9 Dk.strR b 2 D) (hD : Dk.Txs D T) (hT : T = (fun u => if u = y.a then some y.b else if u = x.a then some x.b else none) ∨ T = (fun u => if u = x.a then some x.b else if u = y.a then some y.b else none))
    (hx : x.a.length ≤ 140737488351232 ∧ x.b.length ≤ 140737488351232) (hy : y.a.length ≤ 140737488351232 ∧ y.b.length ≤ 140737488351232) {B : Nat} (g : Below B w w2) (hB : B ≤ w2.heap.size) :
    Calls Try.prog 32 #[.map (some b)] w2 fun e w' => ∃ p, e = .returned (.pointer (some ⟨p, 0, none⟩)) ∧ (∃ d S, Dk.Pair x y d ∧ Dk.PAtM true S w' p d ∧ ∀ b, S b → B ≤ b) ∧ Below B w w' := by
  refine (Dk.pload_c h hD (by omega) fun s t hst => ?_).mono ?_
  · rcases hT with rfl | rfl
    · simp only at hst
      split at hst
      · next e => simp only [Option.some.injEq] at hst; rw [e, ← hst]; exact hy
      · split at hst
        · next e => simp only [Option.some.injEq] at hst; rw [e, ← hst]; exact hx
        · cases hst
    · simp only at hst
      split at hst
      · next e => simp only [Option.some.injEq] at hst; rw [e, ← hst]; exact hx
      · split at hst
        · next e => simp only [Option.some.injEq] at hst; rw [e, ← hst]; exact hy
        · cases hst
  · rintro e w' ⟨p, he, ⟨d, hd, hp⟩, g2⟩
    exact ⟨p, he, ⟨d, _, Dk.Pair.one hd hT, hp, fun b hb => by omega⟩, g.trans (g2.mono hB)⟩
set_option maxHeartbeats 8000000 in
set_option maxRecDepth 100000 in
theorem Dk.lawLoad_w (x y z : Dk.Step) (vx vy vz : Value) (w : World) (hx : x.a.length ≤ 140737488351232 ∧ x.b.length ≤ 140737488351232) (hy : y.a.length ≤ 140737488351232 ∧ y.b.length ≤ 140737488351232) (hz : z.keep.length ≤ 140737488355328) (hvz : Ig.At w.heap.size w vz z.keep) :
    Calls Try.prog 8 #[x.val vx, y.val vy, z.val vz] w fun e w' => e = .returned (.bool true) ∧ Below w.heap.size w w' := by
  obtain ⟨wa, hwa⟩ : ∃ wa, wa = w.alloc (.cells #[.int .i64 x.k, .string (Ty.S x.a), .string (Ty.S x.b), .int .i64 x.n, vx] 33) := ⟨_, rfl⟩
  obtain ⟨wb, hwb⟩ : ∃ wb, wb = wa.alloc (.cells #[.int .i64 y.k, .string (Ty.S y.a), .string (Ty.S y.b), .int .i64 y.n, vy] 33) := ⟨_, rfl⟩
  obtain ⟨wc, hwc⟩ : ∃ wc, wc = wb.alloc (.cells #[.int .i64 z.k, .string (Ty.S z.a), .string (Ty.S z.b), .int .i64 z.n, vz] 33) := ⟨_, rfl⟩
  have hsa : wa.heap.size = w.heap.size + 1 := by rw [hwa]; exact World.size_alloc ..
  have hsb : wb.heap.size = w.heap.size + 2 := by rw [hwb, World.size_alloc]; omega
  have hsc : wc.heap.size = w.heap.size + 3 := by rw [hwc, World.size_alloc]; omega
  have hba : Below w.heap.size w wa := by rw [hwa]; exact (Below.refl _ w).alloc (Nat.le_refl _) _
  have hbb : Below wa.heap.size wa wb := by rw [hwb]; exact (Below.refl _ wa).alloc (Nat.le_refl _) _
  have hbc : Below wb.heap.size wb wc := by rw [hwc]; exact (Below.refl _ wb).alloc (Nat.le_refl _) _
  have hac : Below wa.heap.size wa wc := hbb.trans (hbc.mono (by omega))
  have hb0 : Below w.heap.size w wc := hba.trans (hac.mono (by omega))
  have x1 : wc.cell? ⟨w.heap.size, 1, none⟩ = some (.string (Ty.S x.a)) := (hac.cell (p := ⟨w.heap.size, 1, none⟩) (by show w.heap.size < wa.heap.size; omega)).trans (by rw [hwa]; exact Kn.cell_new w _ _ 1 _ rfl)
  have x2 : wc.cell? ⟨w.heap.size, 2, none⟩ = some (.string (Ty.S x.b)) := (hac.cell (p := ⟨w.heap.size, 2, none⟩) (by show w.heap.size < wa.heap.size; omega)).trans (by rw [hwa]; exact Kn.cell_new w _ _ 2 _ rfl)
  have y1 : wc.cell? ⟨wa.heap.size, 1, none⟩ = some (.string (Ty.S y.a)) := (hbc.cell (p := ⟨wa.heap.size, 1, none⟩) (by show wa.heap.size < wb.heap.size; omega)).trans (by rw [hwb]; exact Kn.cell_new wa _ _ 1 _ rfl)
  have y2 : wc.cell? ⟨wa.heap.size, 2, none⟩ = some (.string (Ty.S y.b)) := (hbc.cell (p := ⟨wa.heap.size, 2, none⟩) (by show wa.heap.size < wb.heap.size; omega)).trans (by rw [hwb]; exact Kn.cell_new wa _ _ 2 _ rfl)
  have z3 : wc.cell? ⟨wb.heap.size, 3, none⟩ = some (.int .i64 z.n) := by rw [hwc]; exact Kn.cell_new wb _ _ 3 _ rfl
  have z4 : wc.cell? ⟨wb.heap.size, 4, none⟩ = some vz := by rw [hwc]; exact Kn.cell_new wb _ _ 4 _ rfl
  rw [hsa] at y1 y2
  rw [hsb] at z3 z4
  obtain ⟨az, cz, hvz2⟩ : ∃ a c, vz = .slice a z.keep.length c := by obtain ⟨a, c, h, _⟩ := hvz.is; exact ⟨a, c, h⟩
  have HXY : Hid (∀ W, Below wc.heap.size wc W → W.cell? ⟨w.heap.size, 1, none⟩ = some (.string (Ty.S x.a)) ∧ W.cell? ⟨w.heap.size, 2, none⟩ = some (.string (Ty.S x.b)) ∧ W.cell? ⟨w.heap.size + 1, 1, none⟩ = some (.string (Ty.S y.a)) ∧ W.cell? ⟨w.heap.size + 1, 2, none⟩ = some (.string (Ty.S y.b))) := Lib.hid fun W g =>
    ⟨(g.cell (p := ⟨w.heap.size, 1, none⟩) (by show w.heap.size < _; omega)).trans x1, (g.cell (p := ⟨w.heap.size, 2, none⟩) (by show w.heap.size < _; omega)).trans x2, (g.cell (p := ⟨w.heap.size + 1, 1, none⟩) (by show w.heap.size + 1 < _; omega)).trans y1, (g.cell (p := ⟨w.heap.size + 1, 2, none⟩) (by show w.heap.size + 1 < _; omega)).trans y2⟩
  have HZ : Hid (∀ W, Below wc.heap.size wc W → W.cell? ⟨w.heap.size + 2, 3, none⟩ = some (.int .i64 z.n) ∧ W.cell? ⟨w.heap.size + 2, 4, none⟩ = some vz) := Lib.hid fun W g =>
    ⟨(g.cell (p := ⟨w.heap.size + 2, 3, none⟩) (by show w.heap.size + 2 < _; omega)).trans z3, (g.cell (p := ⟨w.heap.size + 2, 4, none⟩) (by show w.heap.size + 2 < _; omega)).trans z4⟩
  have HB0 := Lib.hid hb0
  have HVZ := Lib.hid (hvz.below hb0)
  have HLC : Hid (w.heap.size ≤ wc.heap.size) := Lib.hid (by omega)
  -- the two texts, in either order
  have HMAP : Hid (∀ W, Below wc.heap.size wc W → ∀ WM N, WM = W.alloc (.map #[] 0) → N = W.heap.size → ∃ u1 u2 v1 v2,
      ((Instr.mapUpdate 52 (.map (some N)) (.string (Ty.S x.a)) (.string (Ty.S x.b))).run Try.prog WM = .ok () u1 ∧ (Instr.mapUpdate 52 (.map (some N)) (.string (Ty.S y.a)) (.string (Ty.S y.b))).run Try.prog u1 = .ok () u2) ∧
      ((Instr.mapUpdate 52 (.map (some N)) (.string (Ty.S y.a)) (.string (Ty.S y.b))).run Try.prog WM = .ok () v1 ∧ (Instr.mapUpdate 52 (.map (some N)) (.string (Ty.S x.a)) (.string (Ty.S x.b))).run Try.prog v1 = .ok () v2) ∧
      (Below wc.heap.size wc WM ∧ Below wc.heap.size wc u1 ∧ Below wc.heap.size wc u2 ∧ Below wc.heap.size wc v1 ∧ Below wc.heap.size wc v2) ∧
      (Calls Try.prog 32 #[.map (some N)] u2 fun e w' => ∃ p, e = .returned (.pointer (some ⟨p, 0, none⟩)) ∧ (∃ d S, Dk.Pair x y d ∧ Dk.PAtM true S w' p d ∧ ∀ b, S b → wc.heap.size ≤ b) ∧ Below wc.heap.size wc w') ∧
      Calls Try.prog 32 #[.map (some N)] v2 fun e w' => ∃ p, e = .returned (.pointer (some ⟨p, 0, none⟩)) ∧ (∃ d S, Dk.Pair x y d ∧ Dk.PAtM true S w' p d ∧ ∀ b, S b → wc.heap.size ≤ b) ∧ Below wc.heap.size wc w') := Lib.hid fun W g WM N hWM hN => by
    subst hN
    have hm0 := World.ownsMap_made W Try.prog 9 Dk.strR
    rw [← hWM] at hm0
    have gm : Below wc.heap.size wc WM := by rw [hWM]; exact g.alloc g.size _
    obtain ⟨u1, u2, r1, r2, g1, g2, D, hD, hT⟩ := Dk.two_texts (x := x) (y := y) hm0 hx hy
    obtain ⟨v1, v2, s1, s2, k1, k2, D', hD', hT'⟩ := Dk.two_texts (x := y) (y := x) hm0 hy hx
    have hu1 : Below wc.heap.size wc u1 := gm.grown g1 gm.size (fun j hj => by cases hj; exact g.size)
    have hu2 : Below wc.heap.size wc u2 := hu1.grown g2 hu1.size (fun j hj => by cases hj; exact g.size)
    have hv1 : Below wc.heap.size wc v1 := gm.grown k1 gm.size (fun j hj => by cases hj; exact g.size)
    have hv2 : Below wc.heap.size wc v2 := hv1.grown k2 hv1.size (fun j hj => by cases hj; exact g.size)
    exact ⟨u1, u2, v1, v2, ⟨r1, r2⟩, ⟨s1, s2⟩, ⟨gm, hu1, hu2, hv1, hv2⟩, Dk.pair_c hD hT (.inl rfl) hx hy hu2 hu2.size, Dk.pair_c hD' hT' (.inr rfl) hx hy hv2 hv2.size⟩
  have HXL := Lib.hid hx
  have HYL := Lib.hid hy
  have HZL := Lib.hid hz
  have hyx := Tx.S_yes x.a
  have hyxb := Tx.S_yes x.b
  have hyyb := Tx.S_yes y.b
  have HNE : Hid (x.a ≠ y.a → ((Ty.S x.a).toList == (Ty.S y.a).toList) = false) := Lib.hid Tx.S_no
  unfold Dk.Step.val
  rw [hvz2] at hwc HZ HVZ ⊢
  have hmm := @run_makeMap Try.prog
  clear hvz x1 x2 y1 y2 z3 z4 hvz2 hba hbb hbc hac hb0 hx hy hz
  go_enter Try.func8, Try.ntmps8
  go_wp2_with fail
  rw [← hwa, ← hwb, ← hwc]
  clear hwa hwb hwc
  with_reducible refine (Dk.lives_c _).mono ?_
  rintro e w1 ⟨rfl, g1⟩
  have HB1 := Lib.hid g1
  obtain ⟨WM, hWM⟩ : ∃ WM, WM = w1.drew.alloc (.map #[] 0) := ⟨_, rfl⟩
  obtain ⟨u1, u2, v1, v2, ⟨r1, r2⟩, ⟨s1, s2⟩, ⟨bm, b1, b2, b3, b4⟩, cu, cv⟩ := HMAP.out w1.drew ⟨g1.os, g1.tape, g1.output, g1.size, g1.block⟩ WM w1.heap.size hWM rfl
  have HD1 : Hid (Below wc.heap.size wc w1.drew) := Lib.hid ⟨g1.os, g1.tape, g1.output, g1.size, g1.block⟩
  have hmk : (Instr.makeMap 52 none).run Try.prog w1.drew = .ok (.map (some w1.heap.size)) WM := by rw [hWM]; rfl
  have HBM := Lib.hid bm
  have HBU1 := Lib.hid b1
  have HBU2 := Lib.hid b2
  have HBV1 := Lib.hid b3
  have HBV2 := Lib.hid b4
  have CU := Lib.hid cu
  have CV := Lib.hid cv
  obtain ⟨e1, e2, e3, e4⟩ := HXY.out w1 g1
  clear g1 hWM bm b1 b2 b3 b4 cu cv hmm HMAP hsa hsb
  go_wp2_with fail
  go_region_held3 (fun wx => wx.cell? ⟨w.heap.size, 1, none⟩ = some (.string (Ty.S x.a)) ∧ wx.cell? ⟨w.heap.size, 2, none⟩ = some (.string (Ty.S x.b)) ∧ wx.cell? ⟨w.heap.size + 1, 1, none⟩ = some (.string (Ty.S y.a)) ∧ wx.cell? ⟨w.heap.size + 1, 2, none⟩ = some (.string (Ty.S y.b)))
    (first
      | exact HXY.out _ HD1.out
      | exact HXY.out _ HBM.out
      | exact HXY.out _ HBU1.out
      | exact HXY.out _ HBU2.out
      | exact HXY.out _ HBV1.out
      | exact HXY.out _ HBV2.out
      | exact HXY.out _ g4)
    (first
      | (go_at_call 32; (with_reducible refine CU.out.mono ?_); rintro e w4 ⟨p, rfl, hd, g4⟩)
      | (go_at_call 32; (with_reducible refine CV.out.mono ?_); rintro e w4 ⟨p, rfl, hd, g4⟩))
  all_goals
    obtain ⟨d, S, hpair, hp, hS⟩ := hd
    have PAIR := Lib.hid (hpair.crash z.n z.keep)
    have cc : Calls Try.prog 24 #[.pointer (some ⟨p, 0, none⟩), .int .i64 z.n, .slice az z.keep.length cz] w4 fun e w' => e = .returned (.tuple #[]) ∧ ∃ S', Dk.PAtM true S' w' p (Dk.crash d z.n z.keep) ∧ Below wc.heap.size wc w' := by
      refine (Dk.pcrashM_c hp hpair.fit z.n z.keep _ (Dk.KeepL.of (HVZ.out.below (g4.mono HLC.out)) (fun b hb => Nat.le_trans HLC.out (hS b hb)) HZL.out)).mono ?_
      rintro e w' ⟨he, hd⟩
      exact ⟨he, _, hd.1, g4.trans (hd.2.below g4.size hS)⟩
    obtain ⟨z3, z4⟩ := HZ.out w4 g4
    generalize Dk.crash d z.n z.keep = dd at PAIR cc
    clear hp hS hpair r1 r2 s1 s2 hmk e1 e2 e3 e4 HBM HBU1 HBU2 HBV1 HBV2 CU CV HD1
    go_wp2_with fail
    with_reducible refine cc.mono ?_
    rintro e w5 ⟨rfl, S5, h5, g5⟩
    have H5 := Lib.hid h5
    have G5 := Lib.hid g5
    obtain ⟨s, t, hr1, hr2, hst⟩ := PAIR.out.reads
    have hst := Lib.hid hst
    have c1 := Dk.preadM_c h5 PAIR.out.fit.inv y.a HYL.out.1
    rw [hr1] at c1
    have C2 : Hid (∀ W, Below w5.heap.size w5 W → Calls Try.prog 19 #[.pointer (some ⟨p, 0, none⟩), .string (Ty.S x.a)] W fun e w' => e = .returned (.tuple #[.string (Ty.S t), .int .i64 0]) ∧ Below W.heap.size W w') := Lib.hid fun W g => by
      have c2 := Dk.preadM_c (H5.out.kept g) PAIR.out.fit.inv x.a HXL.out.1
      rw [hr2] at c2
      exact c2
    obtain ⟨e1, e2, e3, e4⟩ := HXY.out w5 g5
    clear cc z3 z4 h5 g5 hr1 hr2 g4
    go_wp2_with fail
    with_reducible refine c1.mono ?_
    rintro e w6 ⟨rfl, g6⟩
    have G6 := Lib.hid g6
    have c2 := C2.out w6 g6
    clear e1 e2 e3 e4 c1 C2
    obtain ⟨e1, e2, e3, e4⟩ := HXY.out w6 (G5.out.trans (g6.mono G5.out.size))
    clear g6
    go_wp2_with fail
    with_reducible refine c2.mono ?_
    rintro e w7 ⟨rfl, g7⟩
    have G7 : Hid (Below w5.heap.size w5 w7) := Lib.hid (G6.out.trans (g7.mono G6.out.size))
    have GC7 : Hid (Below wc.heap.size wc w7) := Lib.hid (G5.out.trans (G7.out.mono G5.out.size))
    have cn := Dk.pnamesM_c (H5.out.kept G7.out) PAIR.out.fit
    have hnl := PAIR.out.names
    generalize Dk.names dd = Nm at cn hnl
    clear e1 e2 e3 e4 c2 g7
    obtain ⟨e1, e2, e3, e4⟩ := HXY.out w7 GC7.out
    by_cases hab : x.a = y.a
    · rw [if_pos hab] at hnl
      have heq : ((Ty.S x.a).toList == (Ty.S y.a).toList) = true := by rw [hab]; exact Tx.S_yes _
      clear hab HNE hst
      go_wp2_with fail
      with_reducible refine cn.mono ?_
      rintro e w8 ⟨v8, rfl, hO, g8⟩
      have GC8 : Hid (Below wc.heap.size wc w8) := Lib.hid (GC7.out.trans (g8.mono GC7.out.size))
      obtain ⟨aN, cN, hvN⟩ := Dk.own_slice hO
      rw [hnl] at hvN
      subst hvN
      clear e1 e2 e3 e4 cn g8 hO
      obtain ⟨e1, e2, e3, e4⟩ := HXY.out w8 GC8.out
      go_wp2
      go_ret
      exact ⟨rfl, HB0.out.trans (GC8.out.mono HLC.out)⟩
    · rw [if_neg hab] at hnl
      have heq : ((Ty.S x.a).toList == (Ty.S y.a).toList) = false := HNE.out hab
      obtain ⟨rfl, rfl⟩ := hst.out hab
      clear hab HNE hst
      go_wp2_with fail
      with_reducible refine cn.mono ?_
      rintro e w8 ⟨v8, rfl, hO, g8⟩
      have GC8 : Hid (Below wc.heap.size wc w8) := Lib.hid (GC7.out.trans (g8.mono GC7.out.size))
      obtain ⟨aN, cN, hvN⟩ := Dk.own_slice hO
      rw [hnl] at hvN
      subst hvN
      clear e1 e2 e3 e4 cn g8 hO
      obtain ⟨e1, e2, e3, e4⟩ := HXY.out w8 GC8.out
      go_wp2
      go_ret
      exact ⟨rfl, HB0.out.trans (GC8.out.mono HLC.out)⟩
end Go.Proofs.Ytfkdkdkdpenblaa
