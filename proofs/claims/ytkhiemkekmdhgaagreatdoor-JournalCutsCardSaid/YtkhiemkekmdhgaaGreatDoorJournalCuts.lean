/-
  The law JournalCuts holds: it answers true, whatever it is given, and what it was given reads behind the call as it read before. Conditions: those of the given row, no other.
-/
import Derived.Test.YtkhiemkekmdhgaaGreatDoorCards
import Derived.Test.YtkhiemkekmdhgaaGreatDoorTie
import Derived.Stop.LaidErr
import Derived.Test.YtkhiemkekmdhgaaGreatDoorZZBA
import Derived.Test.YtkhiemkekmdhgaaGreatDoorZZAY
import Derived.ProofKit
import Derived.OpenShut
import Derived.Deep.DeepHandedRow
import Derived.Lib.LaidTab
namespace Go.Proofs.YtkhiemkekmdhgaaGreatDoor.journalCuts
open Go.ChangeShapes Go.WideShapes Go.ChangeAt Go.RowKit
open Go.ChangeMaps (open_string shut_string)
theorem own : ownKnob Tryz.prog.godebug = none := by kernel_rfl
theorem tail {P : Program} {W : World} {x : String × DataW Unit} {rest : List (String × DataW Unit)} (h : laidMet P (x :: rest) W) : laidMet P rest W := by
 obtain ⟨ps, ⟨g, t, cs, f, p, q, hg, ht, hv, hd, hr, rfl⟩, hn, hx⟩ := h
 exact ⟨q, hr, (List.nodup_append.1 hn).2.1, fun b off hb => hx b off (List.mem_append_right _ hb)⟩
theorem gV1 : Tryz.prog.globalNamed "math/bits.deBruijn64tab" = some 3 := by kernel_rfl
theorem tV1 : (Tryz.prog.globals[3]?).map (·.type) = some 182 := by kernel_rfl
theorem gV2 : Tryz.prog.globalNamed "internal/strconv.uint64pow10" = some 4 := by kernel_rfl
theorem tV2 : (Tryz.prog.globals[4]?).map (·.type) = some 189 := by kernel_rfl
theorem gV3 : Tryz.prog.globalNamed "tithebarn/tally.smallest" = some 5 := by kernel_rfl
theorem tV3 : (Tryz.prog.globals[5]?).map (·.type) = some 194 := by kernel_rfl
theorem gV4 : Tryz.prog.globalNamed "tithebarn/tally.sizes" = some 2 := by kernel_rfl
theorem tV4 : (Tryz.prog.globals[2]?).map (·.type) = some 178 := by kernel_rfl
def zs : List Int := [0, 1, 56, 2, 57, 49, 28, 3, 61, 58, 42, 50, 38, 29, 17, 4, 62, 47, 59, 36, 45, 43, 51, 22, 53, 39, 33, 30, 24, 18, 12, 5, 63, 55, 48, 27, 60, 41, 37, 16, 46, 35, 44, 21, 52, 32, 23, 11, 54, 26, 40, 15, 34, 20, 31, 10, 25, 14, 19, 9, 13, 8, 7, 6]
theorem small : ∀ j : Nat, j < 64 → 0 ≤ zs.getD j 0 ∧ zs.getD j 0 < 64 := by decide +kernel
theorem gER : Tryz.prog.globalNamed "strconv.ErrRange" = some 1 := by kernel_rfl
theorem tER : (Tryz.prog.globals[1]?).map (·.type) = some 73 := by kernel_rfl
theorem gES : Tryz.prog.globalNamed "strconv.ErrSyntax" = some 0 := by kernel_rfl
theorem tES : (Tryz.prog.globals[0]?).map (·.type) = some 73 := by kernel_rfl
theorem cellsE : Tryz.prog.cellsOf 186 = 1 := by kernel_rfl
theorem cellsS : Tryz.prog.cellsOf 9 = 1 := by kernel_rfl
theorem star : "*" ++ "errors.errorString" = "*errors.errorString" := by decide
theorem rowE (u : TypeId) (h : Tryz.prog.typeName? 3 u = some "*errors.errorString") : u = 184 :=
 typeName_ptr_named (nm := "errors.errorString") (by rw [star]; kernel_rfl) (by kernel_rfl) (by decide) u (by rw [star]; exact h)
theorem tables {W : World} (h : laidMetH Tryz.prog Rows.journalCutsRow.laid W) : Jn.TS W := by
 have h0 : laidMet Tryz.prog [("math/bits.deBruijn32tab", Rows.laid_math_bits_deBruijn32tab), ("math/bits.deBruijn64tab", Rows.laid_math_bits_deBruijn64tab), ("internal/strconv.uint64pow10", Rows.laid_internal_strconv_uint64pow10), ("tithebarn/tally.smallest", Rows.laid_tithebarn_tally_smallest), ("tithebarn/tally.sizes", Rows.laid_tithebarn_tally_sizes), ("strconv.ErrRange", Rows.laid_strconv_ErrRange), ("strconv.ErrSyntax", Rows.laid_strconv_ErrSyntax)] W := h
 have h1 := tail h0
 have h2 := tail h1
 have h3 := tail h2
 have h4 := tail h3
 have h5 := tail h4
 have h6 := tail h5
 have t1 : Lib.TabIs Tryz.prog W "math/bits.deBruijn64tab" .u8 zs :=
  Lib.tabIs_of_head (rest := [("internal/strconv.uint64pow10", Rows.laid_internal_strconv_uint64pow10), ("tithebarn/tally.smallest", Rows.laid_tithebarn_tally_smallest), ("tithebarn/tally.sizes", Rows.laid_tithebarn_tally_sizes), ("strconv.ErrRange", Rows.laid_strconv_ErrRange), ("strconv.ErrSyntax", Rows.laid_strconv_ErrSyntax)]) gV1 tV1 Tryz.underlying182 Tryz.underlying5 (by kernel_rfl) (by kernel_rfl) h1
 have t2 : Lib.TabIs Tryz.prog W "internal/strconv.uint64pow10" .u64 Lib.pow10Tab :=
  Lib.tabIs_of_head (rest := [("tithebarn/tally.smallest", Rows.laid_tithebarn_tally_smallest), ("tithebarn/tally.sizes", Rows.laid_tithebarn_tally_sizes), ("strconv.ErrRange", Rows.laid_strconv_ErrRange), ("strconv.ErrSyntax", Rows.laid_strconv_ErrSyntax)]) gV2 tV2 Tryz.underlying189 Tryz.underlying60 (by kernel_rfl) (by kernel_rfl) h2
 have t3 : Lib.TabIs Tryz.prog W "tithebarn/tally.smallest" .u64 [0, 64, 16384, 1073741824] :=
  Lib.tabIs_of_head (rest := [("tithebarn/tally.sizes", Rows.laid_tithebarn_tally_sizes), ("strconv.ErrRange", Rows.laid_strconv_ErrRange), ("strconv.ErrSyntax", Rows.laid_strconv_ErrSyntax)]) gV3 tV3 Tryz.underlying194 Tryz.underlying60 (by kernel_rfl) (by kernel_rfl) h3
 have t4 : Lib.TabIs Tryz.prog W "tithebarn/tally.sizes" .i64 [1, 2, 4, 9] :=
  Lib.tabIs_of_head (rest := [("strconv.ErrRange", Rows.laid_strconv_ErrRange), ("strconv.ErrSyntax", Rows.laid_strconv_ErrSyntax)]) gV4 tV4 Tryz.underlying178 Tryz.underlying3 (by kernel_rfl) (by kernel_rfl) h4
 have b1 := World.block_lt_of_cell? W _ (t3.cell gV3 0 (by decide))
 have b2 := World.block_lt_of_cell? W _ (t4.cell gV4 0 (by decide))
 obtain ⟨a5, s5, e5, -, -, -⟩ := laid_sentinel h5 gER tER Tryz.underlying73 rowE Tryz.underlying184 Tryz.underlying186 rfl rfl Tryz.underlying9 cellsE cellsS
 obtain ⟨a6, s6, e6, -, -, -⟩ := laid_sentinel h6 gES tES Tryz.underlying73 rowE Tryz.underlying184 Tryz.underlying186 rfl rfl Tryz.underlying9 cellsE cellsS
 have hT : Jn.T W := ⟨t2, ⟨t4.cell gV4 0 (by decide), t4.cell gV4 1 (by decide), t4.cell gV4 2 (by decide), t4.cell gV4 3 (by decide),
  t3.cell gV3 0 (by decide), t3.cell gV3 1 (by decide), t3.cell gV3 2 (by decide), t3.cell gV3 3 (by decide),
  Nat.succ_le_of_lt (Nat.max_lt.2 ⟨b2, b1⟩)⟩, ⟨_, _, _, _, e6, e5⟩⟩
 refine ⟨hT, fun j hj => ?_⟩
 obtain ⟨h2, h3⟩ := small j hj
 exact ⟨(zs.getD j 0).toNat, by omega, by rw [Int.toNat_of_nonneg h2]; exact t1.cell gV1 j hj⟩
def putCells (cs : Array Value) : Obj → Obj
 | .cells _ t frozen => .cells cs t frozen
 | o => o
noncomputable def low : Nat := (World.holding Tryz.prog default ⟨#[], #[], []⟩).heap.size
noncomputable def laidWorld (os : Os) : World :=
 let w0 := World.holding Tryz.prog os ⟨#[.cells #[.string ⟨#[118, 97, 108, 117, 101, 32, 111, 117, 116, 32, 111, 102, 32, 114, 97, 110, 103, 101]⟩] 186, .cells #[.string ⟨#[105, 110, 118, 97, 108, 105, 100, 32, 115, 121, 110, 116, 97, 120]⟩] 186], #[], []⟩
 { w0 with heap := (((((((w0.heap.modify 6 (putCells #[.int .u8 0, .int .u8 1, .int .u8 28, .int .u8 2, .int .u8 29, .int .u8 14, .int .u8 24, .int .u8 3, .int .u8 30, .int .u8 22, .int .u8 20, .int .u8 15, .int .u8 25, .int .u8 17, .int .u8 4, .int .u8 8, .int .u8 31, .int .u8 27, .int .u8 13, .int .u8 23, .int .u8 21, .int .u8 19, .int .u8 16, .int .u8 7, .int .u8 26, .int .u8 12, .int .u8 18, .int .u8 6, .int .u8 11, .int .u8 5, .int .u8 10, .int .u8 9])).modify 3 (putCells #[.int .u8 0, .int .u8 1, .int .u8 56, .int .u8 2, .int .u8 57, .int .u8 49, .int .u8 28, .int .u8 3, .int .u8 61, .int .u8 58, .int .u8 42, .int .u8 50, .int .u8 38, .int .u8 29, .int .u8 17, .int .u8 4, .int .u8 62, .int .u8 47, .int .u8 59, .int .u8 36, .int .u8 45, .int .u8 43, .int .u8 51, .int .u8 22, .int .u8 53, .int .u8 39, .int .u8 33, .int .u8 30, .int .u8 24, .int .u8 18, .int .u8 12, .int .u8 5, .int .u8 63, .int .u8 55, .int .u8 48, .int .u8 27, .int .u8 60, .int .u8 41, .int .u8 37, .int .u8 16, .int .u8 46, .int .u8 35, .int .u8 44, .int .u8 21, .int .u8 52, .int .u8 32, .int .u8 23, .int .u8 11, .int .u8 54, .int .u8 26, .int .u8 40, .int .u8 15, .int .u8 34, .int .u8 20, .int .u8 31, .int .u8 10, .int .u8 25, .int .u8 14, .int .u8 19, .int .u8 9, .int .u8 13, .int .u8 8, .int .u8 7, .int .u8 6])).modify 4 (putCells #[.int .u64 1, .int .u64 10, .int .u64 100, .int .u64 1000, .int .u64 10000, .int .u64 100000, .int .u64 1000000, .int .u64 10000000, .int .u64 100000000, .int .u64 1000000000, .int .u64 10000000000, .int .u64 100000000000, .int .u64 1000000000000, .int .u64 10000000000000, .int .u64 100000000000000, .int .u64 1000000000000000, .int .u64 10000000000000000, .int .u64 100000000000000000, .int .u64 1000000000000000000, .int .u64 10000000000000000000])).modify 5 (putCells #[.int .u64 0, .int .u64 64, .int .u64 16384, .int .u64 1073741824])).modify 2 (putCells #[.int .i64 1, .int .i64 2, .int .i64 4, .int .i64 9])).modify 1 (putCells #[.iface 184 (.pointer (some ⟨low, 0, none⟩))])).modify 0 (putCells #[.iface 184 (.pointer (some ⟨low + 1, 0, none⟩))])) }
set_option maxRecDepth 100000 in
set_option maxRecDepth 100000 in
theorem contract (H : Type) (enc : TypeId × Value → H) (W : World) (base : Nat) (args : Array Value) (ds gs : List (DataW H)) (before : List MemPlace)
 (hval : ∀ (j : Nat) t v, Tryz.f5.params[j]? = some t → args[j]? = some v → Value.okWide Tryz.prog W .any base t v)
 (hW : DataW.Whole enc Tryz.prog Tryz.f5.params.toList Rows.journalCutsSpec.vars false W args.toList ds gs before) (hL : laidMetH Tryz.prog Rows.journalCutsRow.laid W)
 (hsz : (DataW.weightsEach Tryz.prog (Tryz.f5.params.toList ++ Rows.journalCutsSpec.plain.varTypes Tryz.prog) (ds ++ gs)).all (· ≤ reachBytes) = true) :
 Calls Tryz.prog 5 args W fun e W' => ∃ v, e = .returned v ∧ Rows.journalCutsSpec.post enc Tryz.prog Tryz.f5 false true false false W args v W' := by
 have hW' := hW
 obtain ⟨p, q, hA0, hV, rfl, hfz, hnd⟩ := hW
 have hA : DataW.TrodAll enc Tryz.prog W 0 (fun _ => true) true Tryz.f5.params.toList args.toList ds p := hA0
 have hAll := hA0
 rw [Tryz.params5] at hA hval hsz
 obtain ⟨v0, vs0, d0, ds0, p0, q0, hargs, rfl, rfl, h0, r0⟩ := trodAll_cons hA
 obtain ⟨v1, vs1, d1, ds1, p1, q1, rfl, rfl, rfl, h1, r1⟩ := trodAll_cons r0
 obtain ⟨v2, vs2, d2, ds2, p2, q2, rfl, rfl, rfl, h2, r2⟩ := trodAll_cons r1
 obtain ⟨rfl, rfl, rfl⟩ := trodAll_nil r2
 obtain rfl : args = #[v0, v1, v2] := by cases args; simp_all
 obtain ⟨rfl, rfl⟩ := trodVars_none hV
 obtain ⟨a0, n0, cap0, rfl⟩ := okWide_slice Tryz.underlying22 (hval 0 22 v0 rfl rfl)
 obtain ⟨s, k0⟩ := Kn.open_cols h0
 have hcap0 := Dd.cap_cols h0
 have q0 : Dd.Cols W _ s := ⟨k0, fun a l c h => by cases h; exact hcap0⟩
 obtain ⟨l, k1, z1, w1⟩ := Bk.open_deeds hsz (j := 1) rfl rfl (hval 1 28 v1 rfl rfl) h1
 obtain ⟨cut, rfl, rfl, rfl, wcut⟩ := open_int Tryz.underlying3 (hval 2 3 v2 rfl rfl) h2
 have bcut := bounds_i64 wcut
 clear hA0
 simp only [List.append_nil] at hW' hAll
 have walk := Jn.cuts_w _ _ s l cut W (tables hL) q0 k1 w1
 refine walk.mono fun e W' ⟨he, hg⟩ => ?_
 subst he
 exact ⟨_, rfl, Ty.post_below (pa := _) (pv := []) hW' (fun _ _ _ => trodAll_cons_mk (shut_bool Tryz.underlying4 _) trodAll_mk0) (fun sp hsp => Ty.all_stay (by kernel_rfl) _ _ _ _ (by kernel_rfl) hAll (fun x hx => hg.same (hW'.lt x hx)) (fun x hx => hsp x hx)) (fun _ _ => rfl) (by simp) hg
  (ok_one (by kernel_rfl) rfl (okWide_bool_mk Tryz.underlying4 _))⟩
set_option maxRecDepth 100000 in
theorem laid_met (os : Os) : laidMet Tryz.prog Rows.journalCutsRow.laid ((laidWorld os).forCall (fun _ _ => 0) ⟨#[], #[.slice none 0 0, .slice none 0 0, .int .i64 0], []⟩).memory :=
 laidMet_of_run' 8 (by kernel_rfl) (by kernel_rfl)
set_option maxRecDepth 100000 in
theorem reads (os : Os) {H : Type} (enc : TypeId × Value → H) : ∃ places, DataW.whole enc Tryz.prog ((laidWorld os).forCall (fun _ _ => 0) ⟨#[], #[.slice none 0 0, .slice none 0 0, .int .i64 0], []⟩).memory Tryz.f5.params.toList Rows.journalCutsSpec.vars false (#[.slice none 0 0, .slice none 0 0, .int .i64 0] : Array Value).toList 8 = some ([.nil, .nil, .lit (.int .i64 0)], [], places) :=
 ⟨[], by kernel_rfl⟩
set_option maxRecDepth 100000 in
theorem lifted (os : Os) (started : os.Started) (H : Type) (enc : TypeId × Value → H) (F : Stop.Interp) :
 ReturnsInHanded {} Tryz.checked os 5 .any ((OpenSpec.ofChange Rows.journalCutsSpec).preRow enc Tryz.prog Tryz.f5 Rows.journalCutsRow.domain false Rows.journalCutsRow.laid) (((OpenSpec.ofChange Rows.journalCutsSpec).at F).post enc Tryz.prog Tryz.f5 false true false false) := by
 obtain ⟨places, hx⟩ := reads os enc
 refine returnsInHanded_of_row (C := Tryz.checked) (s := (OpenSpec.ofChange Rows.journalCutsSpec)) own started (by kernel_rfl) Tryz.func5
  (witness_row_at (enc := enc) (C := Tryz.checked) false (laidWorld os) #[.slice none 0 0, .slice none 0 0, .int .i64 0] rfl (by kernel_rfl) (by kernel_rfl) (by kernel_rfl)
   (OpenSpec.preRow_of_cond 8 hx (by kernel_rfl) (fun k hk => by cases hk) (by kernel_rfl) (laid_met os))) ?_
 intro W base args ds gs before hval hW _ hcond hsz hL _ _
 exact contract H enc W base args ds gs before hval hW hL hsz
set_option maxRecDepth 100000 in
theorem said : Rows.JournalCutsSaid :=
 OpenClaim.holds_of_cond 5 Tryz.f5 rfl rfl rfl rfl rfl rfl rfl ⟨rfl, rfl, rfl, rfl, rfl⟩ rfl rfl rfl rfl rfl (by kernel_rfl) Tryz.func5 (by kernel_rfl)
  (of_decide_eq_true (by kernel_rfl)) (by unfold Func.isWrapper; first | (rw [if_pos (by decide +kernel)]; kernel_rfl) | (rw [if_neg (by decide +kernel)]; exact ⟨rfl, rfl⟩))
  (fun os started H enc _ F => by rw [OpenClaim.pre_eq_preRow]; exact lifted os started H enc F)
set_option maxRecDepth 100000 in
theorem plain (f : FuncId) (fn : Func) (hf : Tryz.pinned.checked.prog.funcNamed "tithebarn/tithebarnlaw15.JournalCuts" = some f) (hfn : Tryz.pinned.checked.prog.funcs[f]? = some fn) :
 true = Tryz.pinned.checked.prog.looks [] ∧ ∀ (j : Nat) t, fn.params[j]? = some t → Tryz.pinned.checked.prog.wantsStandIn t = false := by
 obtain rfl : f = 5 := Option.some.inj ((show Tryz.prog.funcNamed "tithebarn/tithebarnlaw15.JournalCuts" = some 5 by kernel_rfl).symm.trans hf) |>.symm
 obtain rfl : fn = Tryz.f5 := (Option.some.inj (Tryz.func5.symm.trans hfn)).symm
 refine ⟨by kernel_rfl, fun j t ht => ?_⟩
 rw [Tryz.params5] at ht
 have hm : t ∈ [22, 28, 3] := by simpa using Array.mem_of_getElem? ht
 have hall : ([22, 28, 3].all fun u => !Tryz.prog.wantsStandIn u) = true := by kernel_rfl
 exact (show Tryz.prog.wantsStandIn t = false by simpa using List.all_eq_true.1 hall t hm)
set_option maxRecDepth 100000 in
theorem card : Rows.JournalCutsCardSaid :=
 Claim7.holds_tied_plain_at .later [] _ _ _ _ said (fun _ h => by cases h) (by kernel_rfl) (fun _ h => by cases h) journalCuts_row_tie rfl ⟨rfl, rfl⟩ (by kernel_rfl) rfl plain (by kernel_rfl)
end Go.Proofs.YtkhiemkekmdhgaaGreatDoor.journalCuts
