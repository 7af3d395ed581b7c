/-
  Contracts of package zone: a value that is not null; a zone's ends.
-/
import Derived.Test.YtdjnjhlcdcmeaaaZ3
import Derived.Deep.RegionWith
import Derived.Deep.RegionHeld3
import Derived.Test.YtdjnjhlcdcmeaaaK10
namespace Go.Proofs.Ytdjnjhlcdcmeaaa
open Go.RowKit
/-- A function's one result that lies in a cell. -/
theorem Zn.results_cell {fn : Func} {p : Tmp} {ty : TypeId} (h : fn.results = #[.cell p ty]) (tmps : Array Value) (P : Program) (w : World) :
    (results fn tmps).run P w = ((asAddr (tmps.getD p undef)).run P w).andThen fun a w1 => (loadVar ty a).run P w1 := by
  simp only [results, h]
  simp [Sem.run_bind, Result.andThen]
/-- A block of three cells, none frozen. -/
theorem Zn.three {w : World} {q : Nat} {x y z : Value} {t : TypeId} (h : w.heap[q]? = some (.cells #[x, y, z] t (0, 0))) : w.cell? ⟨q, 0, none⟩ = some x ∧ w.cell? ⟨q, 1, none⟩ = some y ∧ w.cell? ⟨q, 2, none⟩ = some z ∧ w.frozen? ⟨q, 0, none⟩ = false ∧ w.frozen? ⟨q, 1, none⟩ = false ∧ w.frozen? ⟨q, 2, none⟩ = false := by
  refine ⟨?_, ?_, ?_, ?_, ?_, ?_⟩ <;> simp [World.cell?, World.frozen?, h]
set_option maxHeartbeats 1000000 in
set_option maxRecDepth 100000 in
theorem Zn.filled_x (v : Kn.V) (w : World) : Calls Try.prog 21 #[v.val] w fun e w' => e = .returned (Zn.bare v).val ∧ w' = (w.alloc (.cells #[.bool v.null, .int .i64 v.n, .string v.s] 23)).alloc (.cells #[.bool false, .int .i64 v.n, .string v.s] 23) := by
  unfold Kn.V.val Zn.bare
  go_enter Try.func21, Try.ntmps21
  go_wp2
  (try simp only [Exit.inBlock, Exit.then])
  refine bodyPost_ret (v := .agg #[.bool false, .int .i64 v.n, .string v.s]) ?_ rfl ⟨rfl, rfl⟩
  rw [Zn.results_cell rfl]
  go_simp
theorem Zn.filled_c (v : Kn.V) (w : World) : Calls Try.prog 21 #[v.val] w fun e w' => e = .returned (Zn.bare v).val ∧ Below w.heap.size w w' :=
  (Zn.filled_x v w).mono fun e w' ⟨he, hw⟩ => ⟨he, by rw [hw]; exact ((Below.refl _ w).alloc (Nat.le_refl _) _).alloc (by simp) _⟩
/-- Two values made into a slice. -/
theorem Zn.vals2 (w : World) (x y : Kn.V) (t : TypeId) (q : Nat) (hq : q = w.heap.size) : Kn.Vals (w.alloc (.cells #[.bool x.null, .int .i64 x.n, .string x.s, .bool y.null, .int .i64 y.n, .string y.s] t)) (.slice (some ⟨q, 0, none⟩) 2 2) [x, y] := by
  subst hq
  exact Kn.vals2 w x y t
set_option maxHeartbeats 1000000 in
set_option maxRecDepth 100000 in
/-- A zone's ends: a slice of their own. -/
theorem Zn.ends_c (z : Zn.Zo) (w : World) : Calls Try.prog 23 #[z.val] w fun e w' => ∃ v, e = .returned v ∧ Kn.Vals w' v (Zn.ends z) ∧ (∀ n c, v = .slice none n c → c = 0) ∧ Below w.heap.size w w' := by
  have hG : Below w.heap.size w (w.alloc (.cells (Zn.cs z) 30)) := (Below.refl _ w).alloc (Nat.le_refl _) _
  obtain ⟨x0, x1, x2, x3, x4, x5, x6, x7⟩ := (Zn.Blk.new w z).cells
  have CF : Hid (∀ v w, _) := Lib.hid fun v w => Zn.filled_c v w
  obtain ⟨zn, zw, ⟨ln, li, ls⟩, ⟨hn, hi, hs⟩⟩ := z
  simp only [Zn.cs] at hG x0 x1 x2 x3 x4 x5 x6 x7
  unfold Zn.ends
  cases zw
  · go_enter Try.func23, Try.ntmps23
    go_wp2
    go_ret
    exact ⟨_, rfl, ⟨none, 0, rfl, .inl rfl⟩, (fun n c h => by cases h; rfl), hG⟩
  · have HG := Lib.hid hG
    have C1 := CF.out ⟨ln, li, ls⟩
    have C2 := CF.out ⟨hn, hi, hs⟩
    unfold Kn.V.val Zn.bare at C1 C2
    simp only at C1 C2
    clear CF hG
    simp only [if_true, Zn.bare]
    go_enter Try.func23, Try.ntmps23
    go_wp2_with fail
    have hsz : w.heap.size < (w.alloc (.cells #[.bool zn, .bool true, .bool ln, .int .i64 li, .string ls, .bool hn, .int .i64 hi, .string hs] 30)).heap.size := by simp
    generalize w.alloc _ = wo at HG x0 x1 x2 x3 x4 x5 x6 x7 hsz ⊢
    have HS : Hid (∀ W, Below wo.heap.size wo W → W.cell? ⟨w.heap.size, 2, none⟩ = some (.bool ln) ∧ W.cell? ⟨w.heap.size, 3, none⟩ = some (.int .i64 li) ∧ W.cell? ⟨w.heap.size, 4, none⟩ = some (.string ls) ∧ W.cell? ⟨w.heap.size, 5, none⟩ = some (.bool hn) ∧ W.cell? ⟨w.heap.size, 6, none⟩ = some (.int .i64 hi) ∧ W.cell? ⟨w.heap.size, 7, none⟩ = some (.string hs)) := Lib.hid fun W g =>
      ⟨(g.cell (p := ⟨w.heap.size, 2, none⟩) hsz).trans x2, (g.cell (p := ⟨w.heap.size, 3, none⟩) hsz).trans x3, (g.cell (p := ⟨w.heap.size, 4, none⟩) hsz).trans x4, (g.cell (p := ⟨w.heap.size, 5, none⟩) hsz).trans x5, (g.cell (p := ⟨w.heap.size, 6, none⟩) hsz).trans x6, (g.cell (p := ⟨w.heap.size, 7, none⟩) hsz).trans x7⟩
    have HD : Hid (Below wo.heap.size wo wo.drew) := Lib.hid (Kn.drewN_below wo 1)
    go_region_held3 (fun W => W.cell? ⟨w.heap.size, 2, none⟩ = some (.bool ln) ∧ W.cell? ⟨w.heap.size, 3, none⟩ = some (.int .i64 li) ∧ W.cell? ⟨w.heap.size, 4, none⟩ = some (.string ls) ∧ W.cell? ⟨w.heap.size, 5, none⟩ = some (.bool hn) ∧ W.cell? ⟨w.heap.size, 6, none⟩ = some (.int .i64 hi) ∧ W.cell? ⟨w.heap.size, 7, none⟩ = some (.string hs))
      (first
        | exact HS.out _ HD.out
        | exact HS.out _ (HD.out.trans (g1.mono HD.out.size))
        | exact HS.out _ (HD.out.trans ((g1.trans (g2.mono g1.size)).mono HD.out.size))
        | exact HS.out _ ((HD.out.trans ((g1.trans (g2.mono g1.size)).mono HD.out.size)).alloc (HD.out.trans ((g1.trans (g2.mono g1.size)).mono HD.out.size)).size _))
      (first
        | (go_at_call 21; (with_reducible refine (C1 _).mono ?_); rintro e w1 ⟨rfl, g1⟩)
        | (go_at_call 21; (with_reducible refine (C2 _).mono ?_); rintro e w2 ⟨rfl, g2⟩))
    have h2 := HD.out.trans ((g1.trans (g2.mono g1.size)).mono HD.out.size)
    have h3 := HG.out.trans (h2.mono HG.out.size)
    have HV := Lib.hid (Zn.vals2 w2 ⟨false, li, ls⟩ ⟨false, hi, hs⟩ 23 _ rfl)
    have HE := Lib.hid (h3.alloc h3.size (.cells #[.bool false, .int .i64 li, .string ls, .bool false, .int .i64 hi, .string hs] 23))
    clear h2 h3
    go_wp2
    go_ret
    exact ⟨_, rfl, HV.out, (fun n c h => by cases h), HE.out⟩
end Go.Proofs.Ytdjnjhlcdcmeaaa
