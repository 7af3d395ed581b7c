/-
  The law DiskLoad holds: it answers true, whatever it is given, and what it was given reads behind the call as it read before. Conditions: those of the given row, no other.
-/
import Derived.Test.YtfkdkdkdpenblaaRows
import Derived.Test.YtfkdkdkdpenblaaL99
import Derived.Test.YtfkdkdkdpenblaaVD
import Derived.Test.YtfkdkdkdpenblaaZI
import Derived.ProofKit
import Derived.OpenShut
import Derived.Deep.DeepHandedRow
import Derived.Lib.LaidTab
namespace Go.Proofs.Ytfkdkdkdpenblaa.diskLoad
open Go.ChangeShapes Go.WideShapes Go.ChangeAt Go.RowKit
open Go.ChangeMaps (open_string shut_string)
theorem own : ownKnob Try.prog.godebug = none := by kernel_rfl
set_option maxRecDepth 100000 in
theorem contract (H : Type) (enc : TypeId × Value → H) (W : World) (base : Nat) (args : Array Value) (ds gs : List (DataW H)) (before : List MemPlace)
    (hval : ∀ (j : Nat) t v, Try.f8.params[j]? = some t → args[j]? = some v → Value.okWide Try.prog W .any base t v)
    (hW : DataW.Whole enc Try.prog Try.f8.params.toList Rows.diskLoadSpec.vars false W args.toList ds gs before)
    (hsz : (DataW.weightsEach Try.prog (Try.f8.params.toList ++ Rows.diskLoadSpec.plain.varTypes Try.prog) (ds ++ gs)).all (· ≤ reachBytes) = true) :
    Calls Try.prog 8 args W fun e W' => ∃ v, e = .returned v ∧ Rows.diskLoadSpec.post enc Try.prog Try.f8 false true false false W args v W' := by
  have hW' := hW
  obtain ⟨p, q, hA0, hV, rfl, hfz, hnd⟩ := hW
  have hA : DataW.TrodAll enc Try.prog W 0 (fun _ => true) true Try.f8.params.toList args.toList ds p := hA0
  have hAll := hA0
  rw [Try.params8] at hA hval hsz
  obtain ⟨v0, vs0, d0, ds0, p0, q0, hargs, rfl, rfl, h0, r0⟩ := trodAll_cons hA
  obtain ⟨v1, vs1, d1, ds1, p1, q1, rfl, rfl, rfl, h1, r1⟩ := trodAll_cons r0
  obtain ⟨v2, vs2, d2, ds2, p2, q2, rfl, rfl, rfl, h2, r2⟩ := trodAll_cons r1
  obtain ⟨rfl, rfl, rfl⟩ := trodAll_nil r2
  obtain rfl : args = #[v0, v1, v2] := by cases args; simp_all
  obtain ⟨rfl, rfl⟩ := trodVars_none hV
  obtain ⟨x, u0, rfl, k0, m0, e0, q0, t0⟩ := Dk.open_opL (hval 0 33 v0 rfl rfl) h0
  subst q0
  obtain ⟨y, u1, rfl, k1, m1, e1, q1, t1⟩ := Dk.open_opL (hval 1 33 v1 rfl rfl) h1
  subst q1
  obtain ⟨z, u2, rfl, k2, m2, e2, q2, t2⟩ := Dk.open_opL (hval 2 33 v2 rfl rfl) h2
  subst q2
  obtain ⟨sz0, sk0⟩ := Dk.op_sized hsz (j := 0) rfl rfl t0
  obtain ⟨sz1, sk1⟩ := Dk.op_sized hsz (j := 1) rfl rfl t1
  obtain ⟨sz2, sk2⟩ := Dk.op_sized hsz (j := 2) rfl rfl t2
  clear hA0
  simp only [List.append_nil] at hW' hAll
  have walk := Dk.lawLoad_w x y z u0 u1 u2 W sz0 sz1 sk2 k2
  refine walk.mono fun e W' ⟨he, hg⟩ => ?_
  subst he
  exact ⟨_, rfl, Ty.post_below (pa := _) (pv := []) hW' (fun _ _ _ => trodAll_cons_mk (shut_bool Try.underlying4 _) trodAll_mk0) (fun sp hsp => Ty.all_stay (by kernel_rfl) _ _ _ _ (by kernel_rfl) hAll (fun x hx => hg.same (hW'.lt x hx)) (fun x hx => hsp x hx)) (fun _ _ => rfl) (by simp) hg
    (ok_one (by kernel_rfl) rfl (okWide_bool_mk Try.underlying4 _))⟩
theorem laid_met (os : Os) : laidMet Try.prog Rows.diskLoadRow.laid ((World.holding Try.prog os ⟨#[], #[], []⟩).forCall (fun _ _ => 0) ⟨#[], #[.agg #[.int .i64 0, .string .empty, .string .empty, .int .i64 0, .slice none 0 0], .agg #[.int .i64 0, .string .empty, .string .empty, .int .i64 0, .slice none 0 0], .agg #[.int .i64 0, .string .empty, .string .empty, .int .i64 0, .slice none 0 0]], []⟩).memory :=
  laidMet_of_run' 8 (by kernel_rfl) (by kernel_rfl)
theorem reads (os : Os) {H : Type} (enc : TypeId × Value → H) : ∃ places, DataW.whole enc Try.prog ((World.holding Try.prog os ⟨#[], #[], []⟩).forCall (fun _ _ => 0) ⟨#[], #[.agg #[.int .i64 0, .string .empty, .string .empty, .int .i64 0, .slice none 0 0], .agg #[.int .i64 0, .string .empty, .string .empty, .int .i64 0, .slice none 0 0], .agg #[.int .i64 0, .string .empty, .string .empty, .int .i64 0, .slice none 0 0]], []⟩).memory Try.f8.params.toList Rows.diskLoadSpec.vars false (#[.agg #[.int .i64 0, .string .empty, .string .empty, .int .i64 0, .slice none 0 0], .agg #[.int .i64 0, .string .empty, .string .empty, .int .i64 0, .slice none 0 0], .agg #[.int .i64 0, .string .empty, .string .empty, .int .i64 0, .slice none 0 0]] : Array Value).toList 8 = some ([.agg [.lit (.int .i64 0), .lit (.string []), .lit (.string []), .lit (.int .i64 0), .nil], .agg [.lit (.int .i64 0), .lit (.string []), .lit (.string []), .lit (.int .i64 0), .nil], .agg [.lit (.int .i64 0), .lit (.string []), .lit (.string []), .lit (.int .i64 0), .nil]], [], places) :=
  ⟨[], by kernel_rfl⟩
set_option maxRecDepth 100000 in
theorem lifted (os : Os) (started : os.Started) (H : Type) (enc : TypeId × Value → H) (F : Stop.Interp) :
    ReturnsInHanded {} Try.checked os 8 .any ((OpenSpec.ofChange Rows.diskLoadSpec).preRow enc Try.prog Try.f8 Rows.diskLoadRow.domain false Rows.diskLoadRow.laid) (((OpenSpec.ofChange Rows.diskLoadSpec).at F).post enc Try.prog Try.f8 false true false false) := by
  obtain ⟨places, hx⟩ := reads os enc
  refine returnsInHanded_of_row (C := Try.checked) (s := (OpenSpec.ofChange Rows.diskLoadSpec)) own started (by kernel_rfl) Try.func8
    (witness_row_at (enc := enc) (C := Try.checked) false (World.holding Try.prog os ⟨#[], #[], []⟩) #[.agg #[.int .i64 0, .string .empty, .string .empty, .int .i64 0, .slice none 0 0], .agg #[.int .i64 0, .string .empty, .string .empty, .int .i64 0, .slice none 0 0], .agg #[.int .i64 0, .string .empty, .string .empty, .int .i64 0, .slice none 0 0]] rfl (by kernel_rfl) (by kernel_rfl) (by kernel_rfl)
      (OpenSpec.preRow_of_cond 8 hx (by kernel_rfl) (fun k hk => by cases hk) (by kernel_rfl) (laid_met os))) ?_
  intro W base args ds gs before hval hW _ hcond hsz hL _ _
  exact contract H enc W base args ds gs before hval hW hsz
theorem said : Rows.DiskLoadSaid :=
  OpenClaim.holds_of_cond 8 Try.f8 rfl rfl rfl rfl rfl rfl rfl ⟨rfl, rfl, rfl, rfl, rfl⟩ rfl rfl rfl rfl rfl (by kernel_rfl) Try.func8 (by kernel_rfl)
    (of_decide_eq_true (by kernel_rfl)) (by unfold Func.isWrapper; first | (rw [if_pos (by decide +kernel)]; kernel_rfl) | (rw [if_neg (by decide +kernel)]; exact ⟨rfl, rfl⟩))
    (fun os started H enc _ F => by rw [OpenClaim.pre_eq_preRow]; exact lifted os started H enc F)
end Go.Proofs.Ytfkdkdkdpenblaa.diskLoad
