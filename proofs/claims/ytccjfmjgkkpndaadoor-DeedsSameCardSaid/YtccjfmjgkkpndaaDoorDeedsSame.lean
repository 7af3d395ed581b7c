/-
  The law DeedsSame holds: it answers true, whatever it is given, and what it was given reads behind the call as it read before. Conditions: those of the given row, no other.
-/
import Derived.Test.YtccjfmjgkkpndaaDoorCards
import Derived.Test.YtccjfmjgkkpndaaDoorTie
import Derived.Test.YtccjfmjgkkpndaaDoorL73
import Derived.Test.YtccjfmjgkkpndaaDoorPB
import Derived.ProofKit
import Derived.OpenShut
import Derived.Deep.DeepHandedRow
import Derived.Lib.LaidTab
namespace Go.Proofs.YtccjfmjgkkpndaaDoor.deedsSame
open Go.ChangeShapes Go.WideShapes Go.ChangeAt Go.RowKit
open Go.ChangeMaps (open_string shut_string)

theorem own : ownKnob Tryd.prog.godebug = none := by kernel_rfl
theorem tail {P : Program} {W : World} {x : String × DataW Unit} {rest : List (String × DataW Unit)} (h : laidMet P (x :: rest) W) : laidMet P rest W := by
  obtain ⟨ps, ⟨g, t, cs, f, p, q, hg, ht, hv, hd, hr, rfl⟩, hn, hx⟩ := h
  exact ⟨q, hr, (List.nodup_append.1 hn).2.1, fun b off hb => hx b off (List.mem_append_right _ hb)⟩
theorem gSmall : Tryd.prog.globalNamed "tithebarn/tally.smallest" = some 1 := by kernel_rfl
theorem gSizes : Tryd.prog.globalNamed "tithebarn/tally.sizes" = some 0 := by kernel_rfl
theorem tSmall : (Tryd.prog.globals[1]?).map (·.type) = some 96 := by kernel_rfl
theorem tSizes : (Tryd.prog.globals[0]?).map (·.type) = some 91 := by kernel_rfl
/-- What the row's list gives: the two tables' cells. -/
theorem tables {W : World} (h : laidMetH Tryd.prog Rows.deedsSameRow.laid W) : Ty.Tabs W := by
  have h1 : Lib.TabIs Tryd.prog W "tithebarn/tally.smallest" .u64 [0, 64, 16384, 1073741824] :=
    Lib.tabIs_of_head (rest := [("tithebarn/tally.sizes", Rows.laid_tithebarn_tally_sizes)]) gSmall tSmall Tryd.underlying96 Tryd.underlying74 (by kernel_rfl) (by kernel_rfl) h
  have h2 : Lib.TabIs Tryd.prog W "tithebarn/tally.sizes" .i64 [1, 2, 4, 9] :=
    Lib.tabIs_of_head (rest := []) gSizes tSizes Tryd.underlying91 Tryd.underlying3 (by kernel_rfl) (by kernel_rfl) (tail (x := ("tithebarn/tally.smallest", Rows.laid_tithebarn_tally_smallest)) h)
  have b1 := World.block_lt_of_cell? W _ (h1.cell gSmall 0 (by decide))
  have b2 := World.block_lt_of_cell? W _ (h2.cell gSizes 0 (by decide))
  exact ⟨h2.cell gSizes 0 (by decide), h2.cell gSizes 1 (by decide), h2.cell gSizes 2 (by decide), h2.cell gSizes 3 (by decide),
    h1.cell gSmall 0 (by decide), h1.cell gSmall 1 (by decide), h1.cell gSmall 2 (by decide), h1.cell gSmall 3 (by decide),
    Nat.succ_le_of_lt (Nat.max_lt.2 ⟨b2, b1⟩)⟩
/-- A block of cells with other cells. -/
def putCells (cs : Array Value) : Obj → Obj
  | .cells _ t frozen => .cells cs t frozen
  | o => o
/-- A world for the witness: the settled one, the tables holding what their initialisers lay. -/
noncomputable def laidWorld (os : Os) : World :=
  { World.holding Tryd.prog os ⟨#[], #[], []⟩ with heap := ((World.holding Tryd.prog os ⟨#[], #[], []⟩).heap.modify 0 (putCells #[.int .i64 1, .int .i64 2, .int .i64 4, .int .i64 9])).modify 1 (putCells #[.int .u64 0, .int .u64 64, .int .u64 16384, .int .u64 1073741824]) }
set_option maxRecDepth 100000 in
theorem contract (H : Type) (enc : TypeId × Value → H) (W : World) (base : Nat) (args : Array Value) (ds gs : List (DataW H)) (before : List MemPlace)
    (hval : ∀ (j : Nat) t v, Tryd.f7.params[j]? = some t → args[j]? = some v → Value.okWide Tryd.prog W .any base t v)
    (hW : DataW.Whole enc Tryd.prog Tryd.f7.params.toList Rows.deedsSameSpec.vars false W args.toList ds gs before) (hL : laidMetH Tryd.prog Rows.deedsSameRow.laid W)
    (hsz : (DataW.weightsEach Tryd.prog (Tryd.f7.params.toList ++ Rows.deedsSameSpec.plain.varTypes Tryd.prog) (ds ++ gs)).all (· ≤ reachBytes) = true) :
    Calls Tryd.prog 7 args W fun e W' => ∃ v, e = .returned v ∧ Rows.deedsSameSpec.post enc Tryd.prog Tryd.f7 false true false false W args v W' := by
  have hW' := hW
  obtain ⟨p, q, hA0, hV, rfl, hfz, hnd⟩ := hW
  have hA : DataW.TrodAll enc Tryd.prog W 0 (fun _ => true) true Tryd.f7.params.toList args.toList ds p := hA0
  have hAll := hA0
  rw [Tryd.params7] at hA hval hsz
  obtain ⟨v0, vs0, d0, ds0, p0, q0, hargs, rfl, rfl, h0, r0⟩ := trodAll_cons hA
  obtain ⟨v1, vs1, d1, ds1, p1, q1, rfl, rfl, rfl, h1, r1⟩ := trodAll_cons r0
  obtain ⟨v2, vs2, d2, ds2, p2, q2, rfl, rfl, rfl, h2, r2⟩ := trodAll_cons r1
  obtain ⟨rfl, rfl, rfl⟩ := trodAll_nil r2
  obtain rfl : args = #[v0, v1, v2] := by cases args; simp_all
  obtain ⟨rfl, rfl⟩ := trodVars_none hV
  obtain ⟨a0, n0, cap0, rfl⟩ := okWide_slice Tryd.underlying22 (hval 0 22 v0 rfl rfl)
  obtain ⟨s, k0⟩ := Kn.open_cols h0
  have hcap0 := Dd.cap_cols h0
  obtain ⟨b0, d0, e0, f0⟩ := k0.is
  simp only [Value.slice.injEq] at e0
  obtain ⟨rfl, rfl, rfl⟩ := e0
  obtain ⟨a, u1, rfl, k1, w1⟩ := Dd.open_deed (hval 1 26 v1 rfl rfl) h1
  obtain ⟨b, u2, rfl, k2, w2⟩ := Dd.open_deed (hval 2 26 v2 rfl rfl) h2
  clear hA0
  simp only [List.append_nil] at hW' hAll
  have walk := Dd.lawSame_w _ _ _ s a b W (tables hL) ⟨k0, Dd.Cap.of hcap0⟩ k1 k2 w1 w2
  refine walk.mono fun e W' ⟨he, hg⟩ => ?_
  subst he
  exact ⟨_, rfl, Ty.post_below (pa := _) (pv := []) hW' (fun _ _ _ => trodAll_cons_mk (shut_bool Tryd.underlying4 _) trodAll_mk0) (fun sp hsp => Ty.all_stay (by kernel_rfl) _ _ _ _ (by kernel_rfl) hAll (fun x hx => hg.same (hW'.lt x hx)) (fun x hx => hsp x hx)) (fun _ _ => rfl) (by simp) hg
    (ok_one (by kernel_rfl) rfl (okWide_bool_mk Tryd.underlying4 _))⟩

set_option maxRecDepth 100000 in
theorem laid_met (os : Os) : laidMet Tryd.prog Rows.deedsSameRow.laid ((laidWorld os).forCall (fun _ _ => 0) ⟨#[], #[.slice none 0 0, .agg #[.bool false, .slice none 0 0], .agg #[.bool false, .slice none 0 0]], []⟩).memory :=
  laidMet_of_run' 8 (by kernel_rfl) (by kernel_rfl)
set_option maxRecDepth 100000 in
theorem reads (os : Os) {H : Type} (enc : TypeId × Value → H) : ∃ places, DataW.whole enc Tryd.prog ((laidWorld os).forCall (fun _ _ => 0) ⟨#[], #[.slice none 0 0, .agg #[.bool false, .slice none 0 0], .agg #[.bool false, .slice none 0 0]], []⟩).memory Tryd.f7.params.toList Rows.deedsSameSpec.vars false (#[.slice none 0 0, .agg #[.bool false, .slice none 0 0], .agg #[.bool false, .slice none 0 0]] : Array Value).toList 8 = some ([.nil, .agg [.lit (.bool false), .nil], .agg [.lit (.bool false), .nil]], [], places) :=
  ⟨[], by kernel_rfl⟩
set_option maxRecDepth 100000 in
theorem lifted (os : Os) (started : os.Started) (H : Type) (enc : TypeId × Value → H) (F : Stop.Interp) :
    ReturnsInHanded {} Tryd.checked os 7 .any ((OpenSpec.ofChange Rows.deedsSameSpec).preRow enc Tryd.prog Tryd.f7 Rows.deedsSameRow.domain false Rows.deedsSameRow.laid) (((OpenSpec.ofChange Rows.deedsSameSpec).at F).post enc Tryd.prog Tryd.f7 false true false false) := by
  obtain ⟨places, hx⟩ := reads os enc
  refine returnsInHanded_of_row (C := Tryd.checked) (s := (OpenSpec.ofChange Rows.deedsSameSpec)) own started (by kernel_rfl) Tryd.func7
    (witness_row_at (enc := enc) (C := Tryd.checked) false (laidWorld os) #[.slice none 0 0, .agg #[.bool false, .slice none 0 0], .agg #[.bool false, .slice none 0 0]] rfl (by kernel_rfl) (by kernel_rfl) (by kernel_rfl)
      (OpenSpec.preRow_of_cond 8 hx (by kernel_rfl) (fun k hk => by cases hk) (by kernel_rfl) (laid_met os))) ?_
  intro W base args ds gs before hval hW _ hcond hsz hL _ _
  exact contract H enc W base args ds gs before hval hW hL hsz
set_option maxRecDepth 100000 in
theorem said : Rows.DeedsSameSaid :=
  OpenClaim.holds_of_cond 7 Tryd.f7 rfl rfl rfl rfl rfl rfl rfl ⟨rfl, rfl, rfl, rfl, rfl⟩ rfl rfl rfl rfl rfl (by kernel_rfl) Tryd.func7 (by kernel_rfl)
    (of_decide_eq_true (by kernel_rfl)) (by unfold Func.isWrapper; first | (rw [if_pos (by decide +kernel)]; kernel_rfl) | (rw [if_neg (by decide +kernel)]; exact ⟨rfl, rfl⟩))
    (fun os started H enc _ F => by rw [OpenClaim.pre_eq_preRow]; exact lifted os started H enc F)
set_option maxRecDepth 100000 in
theorem plain (f : FuncId) (fn : Func) (hf : Tryd.pinned.checked.prog.funcNamed "tithebarn/tithebarnlaw07.DeedsSame" = some f) (hfn : Tryd.pinned.checked.prog.funcs[f]? = some fn) :
    false = Tryd.pinned.checked.prog.looks [] ∧ ∀ (j : Nat) t, fn.params[j]? = some t → Tryd.pinned.checked.prog.wantsStandIn t = false := by
  obtain rfl : f = 7 := Option.some.inj ((show Tryd.prog.funcNamed "tithebarn/tithebarnlaw07.DeedsSame" = some 7 by kernel_rfl).symm.trans hf) |>.symm
  obtain rfl : fn = Tryd.f7 := (Option.some.inj (Tryd.func7.symm.trans hfn)).symm
  refine ⟨by kernel_rfl, fun j t ht => ?_⟩
  rw [Tryd.params7] at ht
  have hm : t ∈ [22, 26] := by simpa using Array.mem_of_getElem? ht
  have hall : ([22, 26].all fun u => !Tryd.prog.wantsStandIn u) = true := by kernel_rfl
  exact (show Tryd.prog.wantsStandIn t = false by simpa using List.all_eq_true.1 hall t hm)
set_option maxRecDepth 100000 in
theorem card : Rows.DeedsSameCardSaid :=
  Claim7.holds_tied_plain_at .later [] _ _ _ _ said (fun _ h => by cases h) (by kernel_rfl) (fun _ h => by cases h) deedsSame_row_tie rfl ⟨rfl, rfl⟩ (by kernel_rfl) rfl plain (by kernel_rfl)
end Go.Proofs.YtccjfmjgkkpndaaDoor.deedsSame
