/-
  What follows from the contracts of the program's disk: a step of a script; reading.
  The laws of disk: that the program lives.
-/
import Derived.Test.YtfkdkdkdpenblaaVY
namespace Go.Proofs.Ytfkdkdkdpenblaa
open Go.RowKit
section
variable {S S' : Nat → Prop} {w w' : World} {p : Nat} {d d' : Dk.D}
theorem Dk.PAt.kept (h : Dk.PAt S w p d) (g : Below w.heap.size w w') : Dk.PAt S w' p d := h.same g.size fun b hb => g.block b (h.alive b hb)
theorem Dk.PAt.apart (h : Dk.PAt S w p d) {T : Nat → Prop} (g : Dk.Off T w w') (ht : ∀ b, S b → ¬ T b) : Dk.PAt S w' p d := h.same g.size fun b hb => g.block b (h.alive b hb) (ht b hb)
theorem Dk.PDid.of (h : Dk.PAt S w' p d') (g : Dk.Off S w w') : Dk.PDid S w p d' w' := ⟨h.mono (fun _ hb => .inl hb) (fun b hb => by
  rcases hb with hb | hb
  · exact h.alive b hb
  · exact hb.2), g⟩
theorem Dk.PDid.then' {w1 w2 : World} {d1 d2 : Dk.D} (h : Dk.PDid S w p d1 w1) (g : Dk.PDid S w1 p d2 w2) : Dk.PDid S w p d2 w2 := by
  have hs := Nat.le_trans h.2.size g.2.size
  have h2 : Dk.Off (Dk.More S w w1) w1 w2 := ⟨g.2.os, g.2.tape, g.2.output, g.2.size, fun k hk hn => g.2.block k hk fun hb => hn (.inl hb)⟩
  refine ⟨g.1.mono (fun b hb => ?_) (fun b hb => ?_), h.2.trans h2⟩
  · rcases hb with hb | hb
    · exact .inl hb
    · exact .inr ⟨by have := h.2.size; omega, hb.2⟩
  · rcases hb with hb | hb
    · exact Nat.lt_of_lt_of_le (h.1.alive b (.inl hb)) g.2.size
    · exact hb.2
end
set_option maxHeartbeats 4000000 in
set_option maxRecDepth 100000 in
/-- A step of the program. -/
theorem Dk.does_c {S : Nat → Prop} {p : Nat} {d : Dk.D} {w : World} (h : Dk.PAt S w p d) (hf : Dk.Fit d) (o : Dk.Step) (ho : o.Ok) (hon : Ty.I64 o.n) (base : Nat) (vK : Value) (hK : Ig.At base w vK o.keep) (hS : ∀ b, S b → base ≤ b) :
    Calls Try.prog 15 #[.pointer (some ⟨p, 0, none⟩), o.val vK] w fun e w' => e = .returned (.int .i64 (((Dk.step d o.op).2 : Nat) : Int)) ∧ Dk.PDid S w p (Dk.step d o.op).1 w' := by
  obtain ⟨wb, hwb⟩ : ∃ wb, wb = w.alloc (.cells #[.int .i64 o.k, .string (Ty.S o.a), .string (Ty.S o.b), .int .i64 o.n, vK] 33) := ⟨_, rfl⟩
  have hb0 : Below w.heap.size w wb := by rw [hwb]; exact (Below.refl _ w).alloc (Nat.le_refl _) _
  have d0 : wb.cell? ⟨w.heap.size, 0, none⟩ = some (.int .i64 o.k) := by rw [hwb]; exact Kn.cell_new w _ _ 0 _ rfl
  have d1 : wb.cell? ⟨w.heap.size, 1, none⟩ = some (.string (Ty.S o.a)) := by rw [hwb]; exact Kn.cell_new w _ _ 1 _ rfl
  have d2 : wb.cell? ⟨w.heap.size, 2, none⟩ = some (.string (Ty.S o.b)) := by rw [hwb]; exact Kn.cell_new w _ _ 2 _ rfl
  have d3 : wb.cell? ⟨w.heap.size, 3, none⟩ = some (.int .i64 o.n) := by rw [hwb]; exact Kn.cell_new w _ _ 3 _ rfl
  have d4 : wb.cell? ⟨w.heap.size, 4, none⟩ = some vK := by rw [hwb]; exact Kn.cell_new w _ _ 4 _ rfl
  have hlt : w.heap.size < wb.heap.size := by rw [hwb, World.size_alloc]; omega
  have ck := Dk.kind_c o vK wb
  have hkl := Dk.kind_lt o.k
  have HH := Lib.hid h
  have HF := Lib.hid hf
  have HO := Lib.hid ho
  have HKA := Lib.hid hK
  have HSS := Lib.hid hS
  have HON := Lib.hid hon
  have HB0 := Lib.hid hb0
  have HST : Hid (Dk.step d o.op = Dk.step d ⟨Dk.kindOf o.k, o.a, o.b, o.n, o.keep⟩) := Lib.hid rfl
  have hbase : base ≤ w.heap.size := by obtain ⟨_, _, _, _, h, _⟩ := hK; exact h
  have HBS := Lib.hid hbase
  clear h hf ho hon hK hS hb0 hbase
  obtain ⟨aK, cK, hvK⟩ : ∃ a c, vK = .slice a o.keep.length c := by obtain ⟨a, c, h, _⟩ := HKA.out; exact ⟨a, c, h⟩
  unfold Dk.Step.val at ck ⊢
  rw [hvK] at ck d4 hwb HKA ⊢
  clear hvK
  generalize Dk.kindOf o.k = K at ck hkl HST
  generalize hoa : Ty.S o.a = sa at ck d1 hwb ⊢
  generalize hob : Ty.S o.b = sb at ck d2 hwb ⊢
  have HOA := Lib.hid hoa
  have HOB := Lib.hid hob
  clear hoa hob
  go_enter Try.func15, Try.ntmps15
  go_wp2_with fail
  rw [← hwb]
  clear hwb
  with_reducible refine ck.mono ?_
  rintro e wk ⟨rfl, gk⟩
  have HBK := Lib.hid (HB0.out.trans (gk.mono HB0.out.size))
  have d1 := (gk.cell (p := ⟨w.heap.size, 1, none⟩) hlt).trans d1
  have d2 := (gk.cell (p := ⟨w.heap.size, 2, none⟩) hlt).trans d2
  have d3 := (gk.cell (p := ⟨w.heap.size, 3, none⟩) hlt).trans d3
  have d4 := (gk.cell (p := ⟨w.heap.size, 4, none⟩) hlt).trans d4
  have hR := HH.out.kept HBK.out
  have HD0 : Hid (Dk.PDid S w p d wk) := Lib.hid (Dk.PDid.of hR (Dk.Off.of_below HBK.out))
  clear ck d0 gk hlt
  rcases (by omega : K = 0 ∨ K = 1 ∨ K = 2 ∨ K = 3 ∨ K = 4 ∨ K = 5 ∨ K = 6 ∨ K = 7 ∨ K = 8 ∨ K = 9) with rfl | rfl | rfl | rfl | rfl | rfl | rfl | rfl | rfl | rfl
  · have HE : Hid (Dk.step d o.op = Dk.create d o.a) := Lib.hid HST.out
    have cc := Dk.pcreate_c hR HF.out o.a HO.out.a
    rw [HOA.out] at cc
    clear hR
    go_wp2_with fail
    with_reducible refine cc.mono ?_
    rintro e w1 ⟨rfl, hD1⟩
    have HD1 := Lib.hid (HD0.out.then' hD1)
    clear cc hD1
    go_wp2
    go_ret
    exact ⟨by rw [HE.out]; rfl, by rw [HE.out]; exact HD1.out⟩
  · have HE : Hid (Dk.step d o.op = Dk.append d o.a o.b) := Lib.hid HST.out
    have cc := Dk.pappend_c hR HF.out o.a o.b HO.out.a (by have := HO.out.b; omega)
    rw [HOA.out, HOB.out] at cc
    clear hR
    go_wp2_with fail
    with_reducible refine cc.mono ?_
    rintro e w1 ⟨rfl, hD1⟩
    have HD1 := Lib.hid (HD0.out.then' hD1)
    clear cc hD1
    go_wp2
    go_ret
    exact ⟨by rw [HE.out]; rfl, by rw [HE.out]; exact HD1.out⟩
  · have HE : Hid (Dk.step d o.op = Dk.sync d o.a) := Lib.hid HST.out
    have cc := Dk.psync_c hR HF.out o.a HO.out.a
    rw [HOA.out] at cc
    clear hR
    go_wp2_with fail
    with_reducible refine cc.mono ?_
    rintro e w1 ⟨rfl, hD1⟩
    have HD1 := Lib.hid (HD0.out.then' hD1)
    clear cc hD1
    go_wp2
    go_ret
    exact ⟨by rw [HE.out]; rfl, by rw [HE.out]; exact HD1.out⟩
  · have HE : Hid (Dk.step d o.op = Dk.rename d o.a o.b) := Lib.hid HST.out
    have cc := Dk.prename_c hR HF.out o.a o.b HO.out.a HO.out.b
    rw [HOA.out, HOB.out] at cc
    clear hR
    go_wp2_with fail
    with_reducible refine cc.mono ?_
    rintro e w1 ⟨rfl, hD1⟩
    have HD1 := Lib.hid (HD0.out.then' hD1)
    clear cc hD1
    go_wp2
    go_ret
    exact ⟨by rw [HE.out]; rfl, by rw [HE.out]; exact HD1.out⟩
  · have HE : Hid (Dk.step d o.op = Dk.remove d o.a) := Lib.hid HST.out
    have cc := Dk.premove_c hR HF.out o.a HO.out.a
    rw [HOA.out] at cc
    clear hR
    go_wp2_with fail
    with_reducible refine cc.mono ?_
    rintro e w1 ⟨rfl, hD1⟩
    have HD1 := Lib.hid (HD0.out.then' hD1)
    clear cc hD1
    go_wp2
    go_ret
    exact ⟨by rw [HE.out]; rfl, by rw [HE.out]; exact HD1.out⟩
  · have HE : Hid (Dk.step d o.op = Dk.syncDir d) := Lib.hid HST.out
    have cc := Dk.psyncdir_c hR HF.out
    clear hR
    go_wp2_with fail
    with_reducible refine cc.mono ?_
    rintro e w1 ⟨rfl, hD1⟩
    have HD1 := Lib.hid (HD0.out.then' hD1)
    clear cc hD1
    go_wp2
    go_ret
    exact ⟨by rw [HE.out]; rfl, by rw [HE.out]; exact HD1.out⟩
  · have HE : Hid (Dk.step d o.op = (Dk.space d o.n, 0)) := Lib.hid HST.out
    have cc := Dk.pspace_c hR HF.out o.n HON.out
    clear hR
    go_wp2_with fail
    with_reducible refine cc.mono ?_
    rintro e w1 ⟨rfl, hD1⟩
    have HD1 := Lib.hid (HD0.out.then' hD1)
    clear cc hD1
    go_wp2
    go_ret
    exact ⟨by rw [HE.out]; rfl, by rw [HE.out]; exact HD1.out⟩
  · have HE : Hid (Dk.step d o.op = (Dk.stop d o.n, 0)) := Lib.hid HST.out
    have cc := Dk.pstop_c hR HF.out o.n HON.out
    clear hR
    go_wp2_with fail
    with_reducible refine cc.mono ?_
    rintro e w1 ⟨rfl, hD1⟩
    have HD1 := Lib.hid (HD0.out.then' hD1)
    clear cc hD1
    go_wp2
    go_ret
    exact ⟨by rw [HE.out]; rfl, by rw [HE.out]; exact HD1.out⟩
  · have HE : Hid (Dk.step d o.op = (Dk.refuse d o.n, 0)) := Lib.hid HST.out
    have cc := Dk.prefuse_c hR HF.out o.n HON.out
    clear hR
    go_wp2_with fail
    with_reducible refine cc.mono ?_
    rintro e w1 ⟨rfl, hD1⟩
    have HD1 := Lib.hid (HD0.out.then' hD1)
    clear cc hD1
    go_wp2
    go_ret
    exact ⟨by rw [HE.out]; rfl, by rw [HE.out]; exact HD1.out⟩
  · have HE : Hid (Dk.step d o.op = (Dk.crash d o.n o.keep, 0)) := Lib.hid HST.out
    have cc := Dk.pcrash_c hR HF.out o.n HON.out o.keep _ (Dk.Keep.of (HKA.out.below (HBK.out.mono HBS.out)) HSS.out HO.out.keep)
    clear hR
    go_wp2_with fail
    with_reducible refine cc.mono ?_
    rintro e w1 ⟨rfl, hD1⟩
    have HD1 := Lib.hid (HD0.out.then' hD1)
    clear cc hD1
    go_wp2
    go_ret
    exact ⟨by rw [HE.out]; rfl, by rw [HE.out]; exact HD1.out⟩
end Go.Proofs.Ytfkdkdkdpenblaa

namespace Go.Proofs.Ytfkdkdkdpenblaa
open Go.RowKit
/-- The program's disk, all of whose blocks lie from B on. -/
def Dk.PL (B : Nat) (w : World) (p : Nat) (d : Dk.D) : Prop := ∃ S, Dk.PAt S w p d ∧ ∀ b, S b → B ≤ b
theorem Dk.PL.kept {B : Nat} {w w' : World} {p : Nat} {d : Dk.D} (h : Dk.PL B w p d) (g : Below w.heap.size w w') : Dk.PL B w' p d := by
  obtain ⟨S, h, hS⟩ := h
  exact ⟨S, h.kept g, hS⟩
theorem Dk.PL.did {B : Nat} {w w' : World} {p : Nat} {d' : Dk.D} {S : Nat → Prop} (hS : ∀ b, S b → B ≤ b) (hB : B ≤ w.heap.size) (h : Dk.PDid S w p d' w') : Dk.PL B w' p d' ∧ Below B w w' := by
  refine ⟨⟨_, h.1, fun b hb => ?_⟩, h.2.below hB hS⟩
  rcases hb with hb | hb
  · exact hS b hb
  · omega
/-- A call's contract in these words. -/
theorem Dk.PL.call {B : Nat} {w : World} {p : Nat} {d d' : Dk.D} {fn : Nat} {args : Array Value} {r : Ending} (h : Dk.PL B w p d) (hB : B ≤ w.heap.size)
    (hc : ∀ S, Dk.PAt S w p d → (∀ b, S b → B ≤ b) → Calls Try.prog fn args w fun e w' => e = r ∧ Dk.PDid S w p d' w') : Calls Try.prog fn args w fun e w' => e = r ∧ Dk.PL B w' p d' ∧ Below B w w' := by
  obtain ⟨S, h, hS⟩ := h
  refine (hc S h hS).mono ?_
  rintro e w' ⟨he, hd⟩
  exact ⟨he, Dk.PL.did hS hB hd⟩
theorem Dk.PL.read {B : Nat} {w : World} {p : Nat} {d : Dk.D} {fn : Nat} {args : Array Value} {Q : Ending → World → Prop} (h : Dk.PL B w p d)
    (hc : ∀ S, Dk.PAt S w p d → Calls Try.prog fn args w Q) : Calls Try.prog fn args w Q := by
  obtain ⟨S, h, hS⟩ := h
  exact hc S h
theorem Dk.new_PL {n : Int} {w : World} (hn : Ty.I64 n) (B : Nat) (hB : B ≤ w.heap.size) : Calls Try.prog 13 #[.int .i64 n] w fun e w' => ∃ p, e = .returned (.pointer (some ⟨p, 0, none⟩)) ∧ Dk.PL B w' p (Dk.new n) ∧ Below B w w' := by
  refine (Dk.pnew_c n hn w).mono ?_
  rintro e w' ⟨p, he, hp, hb⟩
  exact ⟨p, he, ⟨_, hp, fun b hb => by omega⟩, hb.mono hB⟩
def Dk.lv0 : Dk.D := Dk.new 100
def Dk.lv1 : Dk.D := (Dk.create Dk.lv0 [102]).1
def Dk.lv2 : Dk.D := (Dk.append Dk.lv1 [102] [97, 98]).1
def Dk.lv3 : Dk.D := (Dk.sync Dk.lv2 [102]).1
def Dk.lv4 : Dk.D := (Dk.append Dk.lv3 [102] [99, 100]).1
def Dk.lv5 : Dk.D := (Dk.syncDir Dk.lv4).1
def Dk.lv6 : Dk.D := Dk.crash Dk.lv5 0 [1]
theorem Dk.lg0 : Dk.Good 0 Dk.lv0 := Dk.Good.new 100 (by decide)
theorem Dk.lg1 : Dk.Good 1 Dk.lv1 := Dk.lg0.step ⟨0, [102], [], 0, []⟩ (by decide) (by decide) (by decide)
theorem Dk.lg2 : Dk.Good 2 Dk.lv2 := Dk.lg1.step ⟨1, [102], [97, 98], 0, []⟩ (by decide) (by decide) (by decide)
theorem Dk.lg3 : Dk.Good 3 Dk.lv3 := Dk.lg2.step ⟨2, [102], [], 0, []⟩ (by decide) (by decide) (by decide)
theorem Dk.lg4 : Dk.Good 4 Dk.lv4 := Dk.lg3.step ⟨1, [102], [99, 100], 0, []⟩ (by decide) (by decide) (by decide)
theorem Dk.lg5 : Dk.Good 5 Dk.lv5 := Dk.lg4.step ⟨5, [], [], 0, []⟩ (by decide) (by decide) (by decide)
theorem Dk.lg6 : Dk.Good 6 Dk.lv6 := Dk.lg5.step ⟨9, [], [], 0, [1]⟩ (by decide) (by decide) (by decide)
theorem Dk.lv_all : (Dk.create Dk.lv0 [102]).2 = 0 ∧ (Dk.append Dk.lv1 [102] [97, 98]).2 = 0 ∧ (Dk.sync Dk.lv2 [102]).2 = 0 ∧ (Dk.append Dk.lv3 [102] [99, 100]).2 = 0 ∧ (Dk.syncDir Dk.lv4).2 = 0 ∧ Dk.read Dk.lv6 [102] = ([97, 98, 99], 0) ∧ Dk.held Dk.lv6 = 3 ∧ Dk.names Dk.lv6 = [[102]] := by decide +kernel
set_option maxHeartbeats 4000000 in
set_option maxRecDepth 100000 in
theorem Dk.lives_c (w : World) : Calls Try.prog 11 #[] w fun e w' => e = .returned (.bool true) ∧ Below w.heap.size w w' := by
  obtain ⟨E1, E2, E3, E4, E5, E6, E7, E8⟩ := Dk.lv_all
  have cn := Dk.new_PL (n := 100) (w := w) (by unfold Ty.I64; omega) w.heap.size (Nat.le_refl _)
  have C1 : Hid (∀ (p : Nat) (W : World), Dk.PL w.heap.size W p Dk.lv0 → w.heap.size ≤ W.heap.size → Calls Try.prog 25 #[.pointer (some ⟨p, 0, none⟩), .string ⟨#[102]⟩] W fun e w' => e = .returned (.int .i64 0) ∧ Dk.PL w.heap.size w' p Dk.lv1 ∧ Below w.heap.size W w') := Lib.hid fun p W h hB => h.call hB fun S h' _ => by
    have := Dk.pcreate_c h' (Dk.lg0.fit (by decide)) [102] (by decide)
    rw [E1] at this
    exact this
  have C2 : Hid (∀ (p : Nat) (W : World), Dk.PL w.heap.size W p Dk.lv1 → w.heap.size ≤ W.heap.size → Calls Try.prog 28 #[.pointer (some ⟨p, 0, none⟩), .string ⟨#[102]⟩, .string ⟨#[97, 98]⟩] W fun e w' => e = .returned (.int .i64 0) ∧ Dk.PL w.heap.size w' p Dk.lv2 ∧ Below w.heap.size W w') := Lib.hid fun p W h hB => h.call hB fun S h' _ => by
    have := Dk.pappend_c h' (Dk.lg1.fit (by decide)) [102] [97, 98] (by decide) (by decide)
    rw [E2] at this
    exact this
  have C3 : Hid (∀ (p : Nat) (W : World), Dk.PL w.heap.size W p Dk.lv2 → w.heap.size ≤ W.heap.size → Calls Try.prog 29 #[.pointer (some ⟨p, 0, none⟩), .string ⟨#[102]⟩] W fun e w' => e = .returned (.int .i64 0) ∧ Dk.PL w.heap.size w' p Dk.lv3 ∧ Below w.heap.size W w') := Lib.hid fun p W h hB => h.call hB fun S h' _ => by
    have := Dk.psync_c h' (Dk.lg2.fit (by decide)) [102] (by decide)
    rw [E3] at this
    exact this
  have C4 : Hid (∀ (p : Nat) (W : World), Dk.PL w.heap.size W p Dk.lv3 → w.heap.size ≤ W.heap.size → Calls Try.prog 28 #[.pointer (some ⟨p, 0, none⟩), .string ⟨#[102]⟩, .string ⟨#[99, 100]⟩] W fun e w' => e = .returned (.int .i64 0) ∧ Dk.PL w.heap.size w' p Dk.lv4 ∧ Below w.heap.size W w') := Lib.hid fun p W h hB => h.call hB fun S h' _ => by
    have := Dk.pappend_c h' (Dk.lg3.fit (by decide)) [102] [99, 100] (by decide) (by decide)
    rw [E4] at this
    exact this
  have C5 : Hid (∀ (p : Nat) (W : World), Dk.PL w.heap.size W p Dk.lv4 → w.heap.size ≤ W.heap.size → Calls Try.prog 30 #[.pointer (some ⟨p, 0, none⟩)] W fun e w' => e = .returned (.int .i64 0) ∧ Dk.PL w.heap.size w' p Dk.lv5 ∧ Below w.heap.size W w') := Lib.hid fun p W h hB => h.call hB fun S h' _ => by
    have := Dk.psyncdir_c h' (Dk.lg4.fit (by decide))
    rw [E5] at this
    exact this
  have C6 : Hid (∀ (p : Nat) (W : World), Dk.PL w.heap.size W p Dk.lv5 → w.heap.size ≤ W.heap.size → Calls Try.prog 24 #[.pointer (some ⟨p, 0, none⟩), .int .i64 0, .slice (some ⟨W.heap.size, 0, none⟩) 1 1] (W.alloc (.cells #[.int .i64 1] 3)) fun e w' => e = .returned (.tuple #[]) ∧ Dk.PL w.heap.size w' p Dk.lv6 ∧ Below w.heap.size (W.alloc (.cells #[.int .i64 1] 3)) w') := Lib.hid fun p W h hB => by
    obtain ⟨S, h, hS⟩ := h
    have hal := h.alive
    have h2 := h.kept (w' := W.alloc (.cells #[.int .i64 1] 3)) ((Below.refl _ W).alloc (Nat.le_refl _) _)
    refine (Dk.pcrash_c h2 (Dk.lg5.fit (by decide)) 0 (by unfold Ty.I64; omega) [1] _ ⟨_, _, rfl, by decide, .inr ⟨W.heap.size, 0, rfl, fun hs => absurd (hal _ hs) (Nat.lt_irrefl _), by rw [World.size_alloc]; omega, fun i hi => ?_⟩⟩).mono ?_
    · obtain rfl : i = 0 := by simpa using hi
      exact Kn.cell_new W _ _ 0 _ rfl
    · rintro e w' ⟨he, hd⟩
      exact ⟨he, Dk.PL.did hS (by rw [World.size_alloc]; omega) hd⟩
  have C7 : Hid (∀ (p : Nat) (W : World), Dk.PL w.heap.size W p Dk.lv6 → Calls Try.prog 19 #[.pointer (some ⟨p, 0, none⟩), .string ⟨#[102]⟩] W fun e w' => e = .returned (.tuple #[.string ⟨#[97, 98, 99]⟩, .int .i64 0]) ∧ Below W.heap.size W w') := Lib.hid fun p W h => h.read fun S h' => by
    have := Dk.pread_c h' (Dk.lg6.fit (by decide)) [102] (by decide)
    rw [E6] at this
    exact this
  have C8 : Hid (∀ (p : Nat) (W : World), Dk.PL w.heap.size W p Dk.lv6 → Calls Try.prog 17 #[.pointer (some ⟨p, 0, none⟩)] W fun e w' => e = .returned (.int .i64 3) ∧ Below W.heap.size W w') := Lib.hid fun p W h => h.read fun S h' => by
    have := Dk.pheld_c h' (Dk.lg6.fit (by decide))
    rw [E7] at this
    exact this
  have C9 : Hid (∀ (p : Nat) (W : World), Dk.PL w.heap.size W p Dk.lv6 → Calls Try.prog 22 #[.pointer (some ⟨p, 0, none⟩)] W fun e w' => ∃ a c, e = .returned (.slice a 1 c) ∧ Below W.heap.size W w') := Lib.hid fun p W h => h.read fun S h' => by
    refine (Dk.pnames_c h' (Dk.lg6.fit (by decide))).mono ?_
    rintro e w' ⟨v, he, ho, hb⟩
    obtain ⟨a, c, hv, _⟩ := Tx.Own.at ho
    rw [E8] at hv
    exact ⟨a, c, by rw [he, hv]; rfl, hb⟩
  clear E1 E2 E3 E4 E5 E6 E7 E8
  go_enter Try.func11, Try.ntmps11
  go_wp2_with fail
  with_reducible refine cn.mono ?_
  rintro e w0 ⟨p, rfl, h0, g0⟩
  have c1 := C1.out p w0 h0 g0.size
  have G0 := Lib.hid g0
  clear cn h0 g0
  go_wp2_with fail
  with_reducible refine c1.mono ?_
  rintro e w1 ⟨rfl, h1, g1⟩
  have G1 := Lib.hid (G0.out.trans g1)
  have c2 := C2.out p w1 h1 G1.out.size
  clear c1 h1 g1 C1
  go_wp2_with fail
  with_reducible refine c2.mono ?_
  rintro e w2 ⟨rfl, h2, g2⟩
  have G2 := Lib.hid (G1.out.trans g2)
  have c3 := C3.out p w2 h2 G2.out.size
  clear c2 h2 g2 C2
  go_wp2_with fail
  with_reducible refine c3.mono ?_
  rintro e w3 ⟨rfl, h3, g3⟩
  have G3 := Lib.hid (G2.out.trans g3)
  have c4 := C4.out p w3 h3 G3.out.size
  clear c3 h3 g3 C3
  go_wp2_with fail
  with_reducible refine c4.mono ?_
  rintro e w4 ⟨rfl, h4, g4⟩
  have G4 := Lib.hid (G3.out.trans g4)
  have c5 := C5.out p w4 h4 G4.out.size
  clear c4 h4 g4 C4
  go_wp2_with fail
  with_reducible refine c5.mono ?_
  rintro e w5 ⟨rfl, h5, g5⟩
  have G5 := Lib.hid (G4.out.trans g5)
  have c6 := C6.out p w5 h5 G5.out.size
  clear c5 h5 g5 C5
  go_wp2_with fail
  with_reducible refine c6.mono ?_
  rintro e w6 ⟨rfl, h6, g6⟩
  have G6 := Lib.hid ((G5.out.alloc G5.out.size _).trans g6)
  have H6 := Lib.hid h6
  have c7 := C7.out p w6 h6
  clear c6 h6 g6 C6
  go_wp2_with fail
  with_reducible refine c7.mono ?_
  rintro e w7 ⟨rfl, g7⟩
  have G7 := Lib.hid (G6.out.trans (g7.mono G6.out.size))
  have H7 := Lib.hid (H6.out.kept g7)
  have c8 := C8.out p w7 H7.out
  clear c7 g7 C7
  go_wp2_with fail
  with_reducible refine c8.mono ?_
  rintro e w8 ⟨rfl, g8⟩
  have G8 := Lib.hid (G7.out.trans (g8.mono G7.out.size))
  have c9 := C9.out p w8 (H7.out.kept g8)
  clear c8 g8 C8
  go_wp2_with fail
  with_reducible refine c9.mono ?_
  rintro e w9 ⟨a9, c99, rfl, g9⟩
  have G9 := Lib.hid (G8.out.trans (g9.mono G8.out.size))
  clear c9 g9 C9
  go_wp2
  go_ret
  exact ⟨rfl, G9.out⟩
end Go.Proofs.Ytfkdkdkdpenblaa
