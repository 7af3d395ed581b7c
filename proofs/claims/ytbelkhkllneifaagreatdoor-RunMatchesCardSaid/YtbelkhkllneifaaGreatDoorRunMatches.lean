/-
  The law RunMatches holds: it answers true, whatever it is given, and what it was given reads behind the call as it read before. Conditions: those of the given row, no other.
-/
import Derived.Test.YtbelkhkllneifaaGreatDoorCards
import Derived.Test.YtbelkhkllneifaaGreatDoorTie
import Derived.Test.YtbelkhkllneifaaGreatDoorWEBG
import Derived.ProofKit
import Derived.OpenShut
import Derived.Deep.DeepHandedRow
import Derived.Lib.LaidTab
namespace Go.Proofs.YtbelkhkllneifaaGreatDoor.runMatches
open Go.ChangeShapes Go.WideShapes Go.ChangeAt Go.RowKit
open Go.ChangeMaps (open_string shut_string)
theorem own : ownKnob Tryz.prog.godebug = none := by kernel_rfl
theorem tail {P : Program} {W : World} {x : String × DataW Unit} {rest : List (String × DataW Unit)} (h : laidMet P (x :: rest) W) : laidMet P rest W := by
 obtain ⟨ps, ⟨g, t, cs, f, p, q, hg, ht, hv, hd, hr, rfl⟩, hn, hx⟩ := h
 exact ⟨q, hr, (List.nodup_append.1 hn).2.1, fun b off hb => hx b off (List.mem_append_right _ hb)⟩
theorem gSmall : Tryz.prog.globalNamed "tithebarn/tally.smallest" = some 1 := by kernel_rfl
theorem gSizes : Tryz.prog.globalNamed "tithebarn/tally.sizes" = some 0 := by kernel_rfl
theorem tSmall : (Tryz.prog.globals[1]?).map (·.type) = some 197 := by kernel_rfl
theorem tSizes : (Tryz.prog.globals[0]?).map (·.type) = some 171 := by kernel_rfl
theorem tables {W : World} (h : laidMetH Tryz.prog Rows.runMatchesRow.laid W) : Ty.Tabs W := by
 have h1 : Lib.TabIs Tryz.prog W "tithebarn/tally.smallest" .u64 [0, 64, 16384, 1073741824] :=
  Lib.tabIs_of_head (rest := [("tithebarn/tally.sizes", Rows.laid_tithebarn_tally_sizes)]) gSmall tSmall Tryz.underlying197 Tryz.underlying88 (by kernel_rfl) (by kernel_rfl) h
 have h2 : Lib.TabIs Tryz.prog W "tithebarn/tally.sizes" .i64 [1, 2, 4, 9] :=
  Lib.tabIs_of_head (rest := []) gSizes tSizes Tryz.underlying171 Tryz.underlying3 (by kernel_rfl) (by kernel_rfl) (tail (x := ("tithebarn/tally.smallest", Rows.laid_tithebarn_tally_smallest)) h)
 have b1 := World.block_lt_of_cell? W _ (h1.cell gSmall 0 (by decide))
 have b2 := World.block_lt_of_cell? W _ (h2.cell gSizes 0 (by decide))
 exact ⟨h2.cell gSizes 0 (by decide), h2.cell gSizes 1 (by decide), h2.cell gSizes 2 (by decide), h2.cell gSizes 3 (by decide),
  h1.cell gSmall 0 (by decide), h1.cell gSmall 1 (by decide), h1.cell gSmall 2 (by decide), h1.cell gSmall 3 (by decide),
  Nat.succ_le_of_lt (Nat.max_lt.2 ⟨b2, b1⟩)⟩
def putCells (cs : Array Value) : Obj → Obj
 | .cells _ t frozen => .cells cs t frozen
 | o => o
noncomputable def laidWorld (os : Os) : World :=
 { World.holding Tryz.prog os ⟨#[], #[], []⟩ with heap := ((World.holding Tryz.prog os ⟨#[], #[], []⟩).heap.modify 0 (putCells #[.int .i64 1, .int .i64 2, .int .i64 4, .int .i64 9])).modify 1 (putCells #[.int .u64 0, .int .u64 64, .int .u64 16384, .int .u64 1073741824]) }
set_option maxRecDepth 100000 in
set_option maxRecDepth 100000 in
theorem contract (H : Type) (enc : TypeId × Value → H) (W : World) (base : Nat) (args : Array Value) (ds gs : List (DataW H)) (before : List MemPlace)
 (hval : ∀ (j : Nat) t v, Tryz.f6.params[j]? = some t → args[j]? = some v → Value.okWide Tryz.prog W .any base t v)
 (hW : DataW.Whole enc Tryz.prog Tryz.f6.params.toList Rows.runMatchesSpec.vars false W args.toList ds gs before) (hL : laidMetH Tryz.prog Rows.runMatchesRow.laid W)
 (hsz : (DataW.weightsEach Tryz.prog (Tryz.f6.params.toList ++ Rows.runMatchesSpec.plain.varTypes Tryz.prog) (ds ++ gs)).all (· ≤ reachBytes) = true) :
 Calls Tryz.prog 6 args W fun e W' => ∃ v, e = .returned v ∧ Rows.runMatchesSpec.post enc Tryz.prog Tryz.f6 false true false false W args v W' := by
 have hW' := hW
 obtain ⟨p, q, hA0, hV, rfl, hfz, hnd⟩ := hW
 have hA : DataW.TrodAll enc Tryz.prog W 0 (fun _ => true) true Tryz.f6.params.toList args.toList ds p := hA0
 have hAll := hA0
 rw [Tryz.params6] at hA hval hsz
 obtain ⟨v0, vs0, d0, ds0, p0, q0, hargs, rfl, rfl, h0, r0⟩ := trodAll_cons hA
 obtain ⟨v1, vs1, d1, ds1, p1, q1, rfl, rfl, rfl, h1, r1⟩ := trodAll_cons r0
 obtain ⟨v2, vs2, d2, ds2, p2, q2, rfl, rfl, rfl, h2, r2⟩ := trodAll_cons r1
 obtain ⟨rfl, rfl, rfl⟩ := trodAll_nil r2
 obtain rfl : args = #[v0, v1, v2] := by cases args; simp_all
 obtain ⟨rfl, rfl⟩ := trodVars_none hV
 obtain ⟨a0, n0, cap0, rfl⟩ := okWide_slice Tryz.underlying22 (hval 0 22 v0 rfl rfl)
 obtain ⟨s, k0⟩ := Kn.open_cols h0
 have hcap0 := Dd.cap_cols h0
 have q0 : Dd.Cols W _ s := ⟨k0, fun a l c h => by cases h; exact hcap0⟩
 obtain ⟨l, k1, z1, w1⟩ := Bk.open_deeds hsz (j := 1) rfl rfl (hval 1 23 v1 rfl rfl) h1
 obtain ⟨c0, c1, r, a, c15, c16, c17, e0, e1, e4, e5, e6, rfl, rfl⟩ := Rn.open_step (hval 2 57 v2 rfl rfl) h2
 have zz := Rn.z_step hsz (j := 2) rfl rfl
 clear hA0
 simp only [List.append_nil] at hW' hAll
 have walk := Rn.lawMatches_w _ _ s l c0 c1 r a c15 c16 c17 W (tables hL) q0 k1 z1 w1 zz.1 zz.2.1 zz.2.2
 refine walk.mono fun e W' ⟨he, hg⟩ => ?_
 subst he
 exact ⟨_, rfl, Ty.post_below (pa := _) (pv := []) hW' (fun _ _ _ => trodAll_cons_mk (shut_bool Tryz.underlying4 _) trodAll_mk0) (fun sp hsp => Ty.all_stay (by kernel_rfl) _ _ _ _ (by kernel_rfl) hAll (fun x hx => hg.same (hW'.lt x hx)) (fun x hx => hsp x hx)) (fun _ _ => rfl) (by simp) hg
  (ok_one (by kernel_rfl) rfl (okWide_bool_mk Tryz.underlying4 _))⟩
set_option maxRecDepth 100000 in
theorem laid_met (os : Os) : laidMet Tryz.prog Rows.runMatchesRow.laid ((laidWorld os).forCall (fun _ _ => 0) ⟨#[], #[.slice none 0 0, .slice none 0 0, .agg #[.int .i64 0, .slice none 0 0, .bool false, .bool false, .bool false, .int .i64 0, .string .empty, .bool false, .int .i64 0, .string .empty, .int .i64 0, .int .i64 0, .bool false, .int .i64 0, .string .empty, .slice none 0 0, .int .i64 0, .slice none 0 0]], []⟩).memory :=
 laidMet_of_run' 8 (by kernel_rfl) (by kernel_rfl)
set_option maxRecDepth 100000 in
theorem reads (os : Os) {H : Type} (enc : TypeId × Value → H) : ∃ places, DataW.whole enc Tryz.prog ((laidWorld os).forCall (fun _ _ => 0) ⟨#[], #[.slice none 0 0, .slice none 0 0, .agg #[.int .i64 0, .slice none 0 0, .bool false, .bool false, .bool false, .int .i64 0, .string .empty, .bool false, .int .i64 0, .string .empty, .int .i64 0, .int .i64 0, .bool false, .int .i64 0, .string .empty, .slice none 0 0, .int .i64 0, .slice none 0 0]], []⟩).memory Tryz.f6.params.toList Rows.runMatchesSpec.vars false (#[.slice none 0 0, .slice none 0 0, .agg #[.int .i64 0, .slice none 0 0, .bool false, .bool false, .bool false, .int .i64 0, .string .empty, .bool false, .int .i64 0, .string .empty, .int .i64 0, .int .i64 0, .bool false, .int .i64 0, .string .empty, .slice none 0 0, .int .i64 0, .slice none 0 0]] : Array Value).toList 8 = some ([.nil, .nil, .agg [.lit (.int .i64 0), .nil, .agg [.lit (.bool false), .lit (.bool false), .agg [.lit (.bool false), .lit (.int .i64 0), .lit (.string [])], .agg [.lit (.bool false), .lit (.int .i64 0), .lit (.string [])]], .agg [.lit (.int .i64 0), .lit (.int .i64 0), .agg [.lit (.bool false), .lit (.int .i64 0), .lit (.string [])]], .nil, .lit (.int .i64 0), .nil]], [], places) :=
 ⟨[], by kernel_rfl⟩
set_option maxRecDepth 100000 in
theorem lifted (os : Os) (started : os.Started) (H : Type) (enc : TypeId × Value → H) (F : Stop.Interp) :
 ReturnsInHanded {} Tryz.checked os 6 .any ((OpenSpec.ofChange Rows.runMatchesSpec).preRow enc Tryz.prog Tryz.f6 Rows.runMatchesRow.domain false Rows.runMatchesRow.laid) (((OpenSpec.ofChange Rows.runMatchesSpec).at F).post enc Tryz.prog Tryz.f6 false true false false) := by
 obtain ⟨places, hx⟩ := reads os enc
 refine returnsInHanded_of_row (C := Tryz.checked) (s := (OpenSpec.ofChange Rows.runMatchesSpec)) own started (by kernel_rfl) Tryz.func6
  (witness_row_at (enc := enc) (C := Tryz.checked) false (laidWorld os) #[.slice none 0 0, .slice none 0 0, .agg #[.int .i64 0, .slice none 0 0, .bool false, .bool false, .bool false, .int .i64 0, .string .empty, .bool false, .int .i64 0, .string .empty, .int .i64 0, .int .i64 0, .bool false, .int .i64 0, .string .empty, .slice none 0 0, .int .i64 0, .slice none 0 0]] rfl (by kernel_rfl) (by kernel_rfl) (by kernel_rfl)
   (OpenSpec.preRow_of_cond 8 hx (by kernel_rfl) (fun k hk => by cases hk) (by kernel_rfl) (laid_met os))) ?_
 intro W base args ds gs before hval hW _ hcond hsz hL _ _
 exact contract H enc W base args ds gs before hval hW hL hsz
set_option maxRecDepth 100000 in
theorem said : Rows.RunMatchesSaid :=
 OpenClaim.holds_of_cond 6 Tryz.f6 rfl rfl rfl rfl rfl rfl rfl ⟨rfl, rfl, rfl, rfl, rfl⟩ rfl rfl rfl rfl rfl (by kernel_rfl) Tryz.func6 (by kernel_rfl)
  (of_decide_eq_true (by kernel_rfl)) (by unfold Func.isWrapper; first | (rw [if_pos (by decide +kernel)]; kernel_rfl) | (rw [if_neg (by decide +kernel)]; exact ⟨rfl, rfl⟩))
  (fun os started H enc _ F => by rw [OpenClaim.pre_eq_preRow]; exact lifted os started H enc F)
set_option maxRecDepth 100000 in
theorem plain (f : FuncId) (fn : Func) (hf : Tryz.pinned.checked.prog.funcNamed "tithebarn/tithebarnlaw13.RunMatches" = some f) (hfn : Tryz.pinned.checked.prog.funcs[f]? = some fn) :
 false = Tryz.pinned.checked.prog.looks [] ∧ ∀ (j : Nat) t, fn.params[j]? = some t → Tryz.pinned.checked.prog.wantsStandIn t = false := by
 obtain rfl : f = 6 := Option.some.inj ((show Tryz.prog.funcNamed "tithebarn/tithebarnlaw13.RunMatches" = some 6 by kernel_rfl).symm.trans hf) |>.symm
 obtain rfl : fn = Tryz.f6 := (Option.some.inj (Tryz.func6.symm.trans hfn)).symm
 refine ⟨by kernel_rfl, fun j t ht => ?_⟩
 rw [Tryz.params6] at ht
 have hm : t ∈ [22, 23, 57] := by simpa using Array.mem_of_getElem? ht
 have hall : ([22, 23, 57].all fun u => !Tryz.prog.wantsStandIn u) = true := by kernel_rfl
 exact (show Tryz.prog.wantsStandIn t = false by simpa using List.all_eq_true.1 hall t hm)
set_option maxRecDepth 100000 in
theorem card : Rows.RunMatchesCardSaid :=
 Claim7.holds_tied_plain_at .later [] _ _ _ _ said (fun _ h => by cases h) (by kernel_rfl) (fun _ h => by cases h) runMatches_row_tie rfl ⟨rfl, rfl⟩ (by kernel_rfl) rfl plain (by kernel_rfl)
end Go.Proofs.YtbelkhkllneifaaGreatDoor.runMatches
