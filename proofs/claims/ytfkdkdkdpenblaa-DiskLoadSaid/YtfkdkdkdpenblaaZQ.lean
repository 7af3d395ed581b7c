/-
  The laws' helpers: the kind of a step, the first steps of a script, a step of the document's disk.
  What stays so from step to step; a script; its first steps.
-/
import Derived.Test.YtfkdkdkdpenblaaZP
namespace Go.Proofs.Ytfkdkdkdpenblaa
open Go.RowKit
/-- The kind of a step. -/
def Dk.kindOf (K : Int) : Nat := ((IntKind.u64.wrap K) % 10).toNat
theorem Dk.kind_lt (K : Int) : Dk.kindOf K < 10 := by unfold Dk.kindOf; omega
/-- A step, as the program has it. -/
structure Dk.Step where
  k : Int
  a : Dk.Str
  b : Dk.Str
  n : Int
  keep : List Int
def Dk.Step.op (o : Dk.Step) : Dk.Op := ⟨Dk.kindOf o.k, o.a, o.b, o.n, o.keep⟩
/-- So short. -/
structure Dk.Step.Ok (o : Dk.Step) : Prop where
  a : o.a.length ≤ 1048576
  b : o.b.length ≤ 1048576
  keep : o.keep.length ≤ 1048576
abbrev Dk.Step.val (o : Dk.Step) (vK : Value) : Value := .agg #[.int .i64 o.k, .string (Ty.S o.a), .string (Ty.S o.b), .int .i64 o.n, vK]
set_option maxHeartbeats 1000000 in
set_option maxRecDepth 100000 in
theorem Dk.kind_c (o : Dk.Step) (vK : Value) (w : World) :
    Calls Try.prog 31 #[o.val vK] w fun e w' => e = .returned (.int .i64 ((Dk.kindOf o.k : Nat) : Int)) ∧ Below w.heap.size w w' := by
  obtain ⟨K, a, b, n, keep⟩ := o
  have hm : (IntKind.u64.wrap K).tmod 10 = ((Dk.kindOf K : Nat) : Int) := by
    unfold Dk.kindOf
    have h0 : 0 ≤ IntKind.u64.wrap K := by rw [IntKind.wrap_u64]; omega
    rw [Int.tmod_eq_emod_of_nonneg h0]
    omega
  have hl := Dk.kind_lt K
  unfold Dk.Step.val
  simp only
  generalize Dk.kindOf K = m at hm hl ⊢
  generalize hsa : Ty.S a = sa
  generalize hsb : Ty.S b = sb
  clear hsa hsb
  have hm0 : (0 : Int) ≤ (m : Int) := by omega
  have hm1 : (m : Int) < 10 := by omega
  clear hl
  go_enter Try.func31, Try.ntmps31
  go_wp2
  go_ret
  exact ⟨rfl, (Below.refl _ w).alloc (Nat.le_refl _) _⟩
theorem Dk.rspaced_c {S : Nat → Prop} {p : Nat} {d : Dk.D} {w : World} (h : Dk.RAt S w p d) (n : Int) :
    Calls Try.prog 44 #[.pointer (some ⟨p, 0, none⟩), .int .i64 n] w fun e w' => e = .returned (.tuple #[]) ∧ Dk.Did S w p (Dk.space d n) w' := by
  obtain ⟨vF, vD, vS, vC, h⟩ := h
  refine (Dk.rspace_c h n).mono ?_
  rintro e w' ⟨he, hr, ho⟩
  exact ⟨he, Dk.Did.of ⟨_, _, _, _, hr⟩ ho⟩
theorem Dk.rstopd_c {S : Nat → Prop} {p : Nat} {d : Dk.D} {w : World} (h : Dk.RAt S w p d) (hf : Dk.Fit d) (n : Int) :
    Calls Try.prog 45 #[.pointer (some ⟨p, 0, none⟩), .int .i64 n] w fun e w' => e = .returned (.tuple #[]) ∧ Dk.Did S w p (Dk.stop d n) w' := by
  obtain ⟨vF, vD, vS, vC, h⟩ := h
  refine (Dk.rstop_c h (by have := hf.sz.calls; omega) n).mono ?_
  rintro e w' ⟨he, hr, ho⟩
  exact ⟨he, Dk.Did.of ⟨_, _, _, _, hr⟩ ho⟩
theorem Dk.rrefused_c {S : Nat → Prop} {p : Nat} {d : Dk.D} {w : World} (h : Dk.RAt S w p d) (hf : Dk.Fit d) (n : Int) :
    Calls Try.prog 46 #[.pointer (some ⟨p, 0, none⟩), .int .i64 n] w fun e w' => e = .returned (.tuple #[]) ∧ Dk.Did S w p (Dk.refuse d n) w' := by
  obtain ⟨vF, vD, vS, vC, h⟩ := h
  refine (Dk.rrefuse_c h (by have := hf.sz.calls; omega) n).mono ?_
  rintro e w' ⟨he, hr, ho⟩
  exact ⟨he, Dk.Did.of ⟨_, _, _, _, hr⟩ ho⟩
set_option maxHeartbeats 4000000 in
set_option maxRecDepth 100000 in
/-- A step of the document. -/
theorem Dk.doesRef_c {S : Nat → Prop} {p : Nat} {d : Dk.D} {w : World} (h : Dk.RAt S w p d) (hf : Dk.Fit d) (o : Dk.Step) (ho : o.Ok) (base : Nat) (vK : Value) (hK : Ig.At base w vK o.keep) (hS : ∀ b, S b → base ≤ b) :
    Calls Try.prog 16 #[.pointer (some ⟨p, 0, none⟩), o.val vK] w fun e w' => e = .returned (.int .i64 (((Dk.step d o.op).2 : Nat) : Int)) ∧ Dk.Did S w p (Dk.step d o.op).1 w' := by
  obtain ⟨wb, hwb⟩ : ∃ wb, wb = w.alloc (.cells #[.int .i64 o.k, .string (Ty.S o.a), .string (Ty.S o.b), .int .i64 o.n, vK] 33) := ⟨_, rfl⟩
  have hb0 : Below w.heap.size w wb := by rw [hwb]; exact (Below.refl _ w).alloc (Nat.le_refl _) _
  have d0 : wb.cell? ⟨w.heap.size, 0, none⟩ = some (.int .i64 o.k) := by rw [hwb]; exact Kn.cell_new w _ _ 0 _ rfl
  have d1 : wb.cell? ⟨w.heap.size, 1, none⟩ = some (.string (Ty.S o.a)) := by rw [hwb]; exact Kn.cell_new w _ _ 1 _ rfl
  have d2 : wb.cell? ⟨w.heap.size, 2, none⟩ = some (.string (Ty.S o.b)) := by rw [hwb]; exact Kn.cell_new w _ _ 2 _ rfl
  have d3 : wb.cell? ⟨w.heap.size, 3, none⟩ = some (.int .i64 o.n) := by rw [hwb]; exact Kn.cell_new w _ _ 3 _ rfl
  have d4 : wb.cell? ⟨w.heap.size, 4, none⟩ = some vK := by rw [hwb]; exact Kn.cell_new w _ _ 4 _ rfl
  have hlt : w.heap.size < wb.heap.size := by rw [hwb, World.size_alloc]; omega
  have ck := Dk.kind_c o vK wb
  have hkl := Dk.kind_lt o.k
  have HH := Lib.hid h
  have HF := Lib.hid hf
  have HO := Lib.hid ho
  have HKA := Lib.hid hK
  have HSS := Lib.hid hS
  have HB0 := Lib.hid hb0
  have HST : Hid (Dk.step d o.op = Dk.step d ⟨Dk.kindOf o.k, o.a, o.b, o.n, o.keep⟩) := Lib.hid rfl
  have hbase : base ≤ w.heap.size := by obtain ⟨_, _, _, _, h, _⟩ := hK; exact h
  have HBS := Lib.hid hbase
  clear h hf ho hK hS hb0 hbase
  obtain ⟨aK, cK, hvK⟩ : ∃ a c, vK = .slice a o.keep.length c := by obtain ⟨a, c, h, _⟩ := HKA.out; exact ⟨a, c, h⟩
  unfold Dk.Step.val at ck ⊢
  rw [hvK] at ck d4 hwb HKA ⊢
  clear hvK
  generalize Dk.kindOf o.k = K at ck hkl HST
  generalize hoa : Ty.S o.a = sa at ck d1 hwb ⊢
  generalize hob : Ty.S o.b = sb at ck d2 hwb ⊢
  have HOA := Lib.hid hoa
  have HOB := Lib.hid hob
  clear hoa hob
  go_enter Try.func16, Try.ntmps16
  go_wp2_with fail
  rw [← hwb]
  clear hwb
  with_reducible refine ck.mono ?_
  rintro e wk ⟨rfl, gk⟩
  have HBK := Lib.hid (HB0.out.trans (gk.mono HB0.out.size))
  have d1 := (gk.cell (p := ⟨w.heap.size, 1, none⟩) hlt).trans d1
  have d2 := (gk.cell (p := ⟨w.heap.size, 2, none⟩) hlt).trans d2
  have d3 := (gk.cell (p := ⟨w.heap.size, 3, none⟩) hlt).trans d3
  have d4 := (gk.cell (p := ⟨w.heap.size, 4, none⟩) hlt).trans d4
  have hR := HH.out.kept HBK.out
  have HD0 : Hid (Dk.Did S w p d wk) := Lib.hid (Dk.Did.of hR (Dk.Off.of_below HBK.out))
  clear ck d0 gk hlt
  rcases (by omega : K = 0 ∨ K = 1 ∨ K = 2 ∨ K = 3 ∨ K = 4 ∨ K = 5 ∨ K = 6 ∨ K = 7 ∨ K = 8 ∨ K = 9) with rfl | rfl | rfl | rfl | rfl | rfl | rfl | rfl | rfl | rfl
  · have HE : Hid (Dk.step d o.op = Dk.create d o.a) := Lib.hid HST.out
    have cc := Dk.rcreate_c hR HF.out o.a HO.out.a
    rw [HOA.out] at cc
    clear hR
    go_wp2_with fail
    with_reducible refine cc.mono ?_
    rintro e w1 ⟨rfl, hD1⟩
    have HD1 := Lib.hid (HD0.out.then' hD1)
    clear cc hD1
    go_wp2
    go_ret
    exact ⟨by rw [HE.out]; rfl, by rw [HE.out]; exact HD1.out⟩
  · have HE : Hid (Dk.step d o.op = Dk.append d o.a o.b) := Lib.hid HST.out
    have cc := Dk.rappend_c hR HF.out o.a o.b (by have := HO.out.b; omega)
    rw [HOA.out, HOB.out] at cc
    clear hR
    go_wp2_with fail
    with_reducible refine cc.mono ?_
    rintro e w1 ⟨rfl, hD1⟩
    have HD1 := Lib.hid (HD0.out.then' hD1)
    clear cc hD1
    go_wp2
    go_ret
    exact ⟨by rw [HE.out]; rfl, by rw [HE.out]; exact HD1.out⟩
  · have HE : Hid (Dk.step d o.op = Dk.sync d o.a) := Lib.hid HST.out
    have cc := Dk.rsync_c hR HF.out o.a
    rw [HOA.out] at cc
    clear hR
    go_wp2_with fail
    with_reducible refine cc.mono ?_
    rintro e w1 ⟨rfl, hD1⟩
    have HD1 := Lib.hid (HD0.out.then' hD1)
    clear cc hD1
    go_wp2
    go_ret
    exact ⟨by rw [HE.out]; rfl, by rw [HE.out]; exact HD1.out⟩
  · have HE : Hid (Dk.step d o.op = Dk.rename d o.a o.b) := Lib.hid HST.out
    have cc := Dk.rrename_c hR HF.out o.a o.b HO.out.a HO.out.b
    rw [HOA.out, HOB.out] at cc
    clear hR
    go_wp2_with fail
    with_reducible refine cc.mono ?_
    rintro e w1 ⟨rfl, hD1⟩
    have HD1 := Lib.hid (HD0.out.then' hD1)
    clear cc hD1
    go_wp2
    go_ret
    exact ⟨by rw [HE.out]; rfl, by rw [HE.out]; exact HD1.out⟩
  · have HE : Hid (Dk.step d o.op = Dk.remove d o.a) := Lib.hid HST.out
    have cc := Dk.rremove_c hR HF.out o.a HO.out.a
    rw [HOA.out] at cc
    clear hR
    go_wp2_with fail
    with_reducible refine cc.mono ?_
    rintro e w1 ⟨rfl, hD1⟩
    have HD1 := Lib.hid (HD0.out.then' hD1)
    clear cc hD1
    go_wp2
    go_ret
    exact ⟨by rw [HE.out]; rfl, by rw [HE.out]; exact HD1.out⟩
  · have HE : Hid (Dk.step d o.op = Dk.syncDir d) := Lib.hid HST.out
    have cc := Dk.rsyncdir_c hR HF.out
    clear hR
    go_wp2_with fail
    with_reducible refine cc.mono ?_
    rintro e w1 ⟨rfl, hD1⟩
    have HD1 := Lib.hid (HD0.out.then' hD1)
    clear cc hD1
    go_wp2
    go_ret
    exact ⟨by rw [HE.out]; rfl, by rw [HE.out]; exact HD1.out⟩
  · have HE : Hid (Dk.step d o.op = (Dk.space d o.n, 0)) := Lib.hid HST.out
    have cc := Dk.rspaced_c hR o.n
    clear hR
    go_wp2_with fail
    with_reducible refine cc.mono ?_
    rintro e w1 ⟨rfl, hD1⟩
    have HD1 := Lib.hid (HD0.out.then' hD1)
    clear cc hD1
    go_wp2
    go_ret
    exact ⟨by rw [HE.out]; rfl, by rw [HE.out]; exact HD1.out⟩
  · have HE : Hid (Dk.step d o.op = (Dk.stop d o.n, 0)) := Lib.hid HST.out
    have cc := Dk.rstopd_c hR HF.out o.n
    clear hR
    go_wp2_with fail
    with_reducible refine cc.mono ?_
    rintro e w1 ⟨rfl, hD1⟩
    have HD1 := Lib.hid (HD0.out.then' hD1)
    clear cc hD1
    go_wp2
    go_ret
    exact ⟨by rw [HE.out]; rfl, by rw [HE.out]; exact HD1.out⟩
  · have HE : Hid (Dk.step d o.op = (Dk.refuse d o.n, 0)) := Lib.hid HST.out
    have cc := Dk.rrefused_c hR HF.out o.n
    clear hR
    go_wp2_with fail
    with_reducible refine cc.mono ?_
    rintro e w1 ⟨rfl, hD1⟩
    have HD1 := Lib.hid (HD0.out.then' hD1)
    clear cc hD1
    go_wp2
    go_ret
    exact ⟨by rw [HE.out]; rfl, by rw [HE.out]; exact HD1.out⟩
  · have HE : Hid (Dk.step d o.op = (Dk.crash d o.n o.keep, 0)) := Lib.hid HST.out
    have cc := Dk.rcrash_c hR HF.out o.n o.keep _ (Dk.Keep.of (HKA.out.below (HBK.out.mono HBS.out)) HSS.out HO.out.keep)
    clear hR
    go_wp2_with fail
    with_reducible refine cc.mono ?_
    rintro e w1 ⟨rfl, hD1⟩
    have HD1 := Lib.hid (HD0.out.then' hD1)
    clear cc hD1
    go_wp2
    go_ret
    exact ⟨by rw [HE.out]; rfl, by rw [HE.out]; exact HD1.out⟩
end Go.Proofs.Ytfkdkdkdpenblaa

namespace Go.Proofs.Ytfkdkdkdpenblaa
open Go.RowKit
/-- As good as it stays. -/
structure Dk.Good (k : Nat) (d : Dk.D) : Prop where
  inv : Dk.Inv d
  sz : Dk.Sz k d
  room0 : 0 ≤ d.room
  room : d.room ≤ 9223372036854775807
  dir : ∀ y ∈ d.dir, y.1.length ≤ 1048576
  sure : ∀ y ∈ d.sure, y.1.length ≤ 1048576
  chg : ∀ c ∈ d.chg, c.a.length ≤ 1048576 ∧ c.b.length ≤ 1048576
theorem Dk.Good.fit {k : Nat} {d : Dk.D} (h : Dk.Good k d) (hk : k ≤ 100000) : Dk.Fit d := ⟨h.inv, h.sz.mono hk, h.room0, h.room, h.dir, h.sure, h.chg⟩
theorem Dk.Good.mono {k l : Nat} {d : Dk.D} (h : Dk.Good k d) (hk : k ≤ l) : Dk.Good l d := ⟨h.inv, h.sz.mono hk, h.room0, h.room, h.dir, h.sure, h.chg⟩
/-- Names are short. -/
structure Dk.Nm (d : Dk.D) : Prop where
  dir : ∀ y ∈ d.dir, y.1.length ≤ 1048576
  sure : ∀ y ∈ d.sure, y.1.length ≤ 1048576
  chg : ∀ c ∈ d.chg, c.a.length ≤ 1048576 ∧ c.b.length ≤ 1048576
theorem Dk.Nm.change {d : Dk.D} (h : Dk.Nm d) {c : Dk.Ch} (ha : c.a.length ≤ 1048576) (hb : c.b.length ≤ 1048576) : Dk.Nm (Dk.change d c) := by
  refine ⟨Dk.apply_names h.dir ha hb, h.sure, fun x hx => ?_⟩
  rcases List.mem_append.1 hx with hx | hx
  · exact h.chg x hx
  · rw [List.mem_singleton.1 hx]; exact ⟨ha, hb⟩
theorem Dk.Nm.step {d : Dk.D} (h : Dk.Nm d) (o : Dk.Op) (ha : o.a.length ≤ 1048576) (hb : o.b.length ≤ 1048576) : Dk.Nm (Dk.step d o).1 := by
  have ht : Dk.Nm (Dk.tick d) := ⟨h.dir, h.sure, h.chg⟩
  unfold Dk.step
  split
  · unfold Dk.create
    split
    · exact ht
    · split
      · exact ht
      · exact Dk.Nm.change (d := Dk.grow (Dk.tick d)) ⟨h.dir, h.sure, h.chg⟩ ha (Nat.zero_le _)
  · split
    · unfold Dk.append
      split
      · exact ht
      · split
        · exact ht
        · split
          · exact ht
          · exact ⟨h.dir, h.sure, h.chg⟩
    · split
      · unfold Dk.sync
        split
        · exact ht
        · split
          · exact ht
          · exact ⟨h.dir, h.sure, h.chg⟩
      · split
        · unfold Dk.rename
          split
          · exact ht
          · split
            · exact ht
            · exact ht.change ha hb
        · split
          · unfold Dk.remove
            split
            · exact ht
            · split
              · exact ht
              · exact ht.change ha (Nat.zero_le _)
          · split
            · unfold Dk.syncDir
              split
              · exact ht
              · exact ⟨h.dir, h.dir, by simp⟩
            · split
              · exact ⟨h.dir, h.sure, h.chg⟩
              · split
                · exact ⟨h.dir, h.sure, h.chg⟩
                · split
                  · exact ⟨h.dir, h.sure, h.chg⟩
                  · have hf := Dk.fold_names (B := 1048576) (d.chg.take o.n.toNat) d.sure h.sure fun c hc => h.chg c (List.mem_of_mem_take hc)
                    exact ⟨hf, hf, by simp [Dk.crash]⟩
theorem Dk.room_step (d : Dk.D) (o : Dk.Op) : (Dk.step d o).1.room = if o.kind = 6 then max o.n 0 else d.room := by
  unfold Dk.step Dk.create Dk.append Dk.sync Dk.rename Dk.remove Dk.syncDir
  by_cases h0 : o.kind = 0
  · rw [if_pos h0, if_neg (show ¬ o.kind = 6 by omega)]; split <;> (try split) <;> rfl
  · rw [if_neg h0]
    by_cases h1 : o.kind = 1
    · rw [if_pos h1, if_neg (show ¬ o.kind = 6 by omega)]; split <;> (try split) <;> (try split) <;> rfl
    · rw [if_neg h1]
      by_cases h2 : o.kind = 2
      · rw [if_pos h2, if_neg (show ¬ o.kind = 6 by omega)]; split <;> (try split) <;> rfl
      · rw [if_neg h2]
        by_cases h3 : o.kind = 3
        · rw [if_pos h3, if_neg (show ¬ o.kind = 6 by omega)]; split <;> (try split) <;> rfl
        · rw [if_neg h3]
          by_cases h4 : o.kind = 4
          · rw [if_pos h4, if_neg (show ¬ o.kind = 6 by omega)]; split <;> (try split) <;> rfl
          · rw [if_neg h4]
            by_cases h5 : o.kind = 5
            · rw [if_pos h5, if_neg (show ¬ o.kind = 6 by omega)]; split <;> rfl
            · rw [if_neg h5]
              by_cases h6 : o.kind = 6
              · rw [if_pos h6, if_pos h6]; rfl
              · rw [if_neg h6, if_neg h6]
                split
                · rfl
                · split <;> rfl
theorem Dk.Good.step {k : Nat} {d : Dk.D} (h : Dk.Good k d) (o : Dk.Op) (ha : o.a.length ≤ 1048576) (hb : o.b.length ≤ 1048576) (hn : o.n ≤ 9223372036854775807) : Dk.Good (k + 1) (Dk.step d o).1 := by
  have hm := Dk.Nm.step ⟨h.dir, h.sure, h.chg⟩ o ha hb
  have hr := Dk.room_step d o
  have h0 := h.room0
  have h1 := h.room
  refine ⟨h.inv.step o, h.sz.step h.inv o hb, ?_, ?_, hm.dir, hm.sure, hm.chg⟩
  · rw [hr]; split <;> omega
  · rw [hr]; split <;> omega
theorem Dk.Good.new (n : Int) (hn : n ≤ 9223372036854775807) : Dk.Good 0 (Dk.new n) := by
  refine ⟨Dk.Inv.new n, Dk.Sz.new n, ?_, ?_, by simp [Dk.new], by simp [Dk.new], by simp [Dk.new]⟩
  · show (0 : Int) ≤ max n 0; omega
  · show max n 0 ≤ (9223372036854775807 : Int); omega
/-- A script: its steps lie below block B. -/
structure Dk.Ops (B : Nat) (w : World) (v : Value) (L : List Dk.Step) : Prop where
  is : ∃ a c, v = .slice a L.length c ∧ L.length ≤ c ∧ B ≤ w.heap.size ∧ ((L = [] ∧ (a = none → c = 0)) ∨ ∃ b o, a = some ⟨b, o, none⟩ ∧ b < B ∧ ∀ i x, L[i]? = some x →
    w.cell? ⟨b, o + i * 5, none⟩ = some (.int .i64 x.k) ∧ w.cell? ⟨b, o + i * 5 + 1, none⟩ = some (.string (Ty.S x.a)) ∧ w.cell? ⟨b, o + i * 5 + 2, none⟩ = some (.string (Ty.S x.b)) ∧ w.cell? ⟨b, o + i * 5 + 3, none⟩ = some (.int .i64 x.n) ∧
    ∃ vK, w.cell? ⟨b, o + i * 5 + 4, none⟩ = some vK ∧ Ig.At B w vK x.keep)
theorem Dk.Ops.below {B : Nat} {w w' : World} {v : Value} {L : List Dk.Step} (h : Dk.Ops B w v L) (g : Below B w w') : Dk.Ops B w' v L := by
  obtain ⟨a, c, hv, hc, hB, h⟩ := h.is
  refine ⟨a, c, hv, hc, Nat.le_trans hB g.size, ?_⟩
  rcases h with h | ⟨b, o, ha, hlt, h⟩
  · exact .inl h
  · refine .inr ⟨b, o, ha, hlt, fun i x hx => ?_⟩
    obtain ⟨h0, h1, h2, h3, vK, h4, hK⟩ := h i x hx
    exact ⟨(g.cell (p := ⟨b, o + i * 5, none⟩) hlt).trans h0, (g.cell (p := ⟨b, o + i * 5 + 1, none⟩) hlt).trans h1, (g.cell (p := ⟨b, o + i * 5 + 2, none⟩) hlt).trans h2, (g.cell (p := ⟨b, o + i * 5 + 3, none⟩) hlt).trans h3, vK, (g.cell (p := ⟨b, o + i * 5 + 4, none⟩) hlt).trans h4, hK.below g⟩
set_option maxHeartbeats 1000000 in
set_option maxRecDepth 100000 in
theorem Dk.early_c {B : Nat} {w : World} {v : Value} {L : List Dk.Step} (h : Dk.Ops B w v L) (hl : L.length ≤ 1048576) :
    Calls Try.prog 12 #[v] w fun e w' => ∃ u, e = .returned u ∧ Dk.Ops B w u (L.take 300) ∧ w' = w := by
  obtain ⟨a, c, rfl, hc, hB, h⟩ := h.is
  have HR : Hid (∀ m, m = (L.take 300).length → Dk.Ops B w (.slice a m c) (L.take 300)) := Lib.hid fun m hm => by
    have hlt : (L.take 300).length ≤ c := by rw [List.length_take]; omega
    refine ⟨a, c, by rw [hm], hlt, hB, ?_⟩
    rcases h with h | ⟨b, o, ha, hb, h⟩
    · exact .inl ⟨by rw [h.1]; rfl, h.2⟩
    · refine .inr ⟨b, o, ha, hb, fun i x hx => h i x ?_⟩
      rw [List.getElem?_take] at hx
      split at hx
      · exact hx
      · cases hx
  have hlen : (L.take 300).length = min 300 L.length := List.length_take
  have hnone : a = none → L.length = 0 ∧ c = 0 := fun e => by
    rcases h with h | ⟨b, o, ha, _⟩
    · exact ⟨by rw [h.1]; rfl, h.2 e⟩
    · rw [e] at ha; cases ha
  generalize hn : L.length = n at hlen hc hl hnone ⊢
  clear h hn
  have hc1 : (n : Int) ≤ (c : Int) := by omega
  have hn0 : (0 : Int) ≤ (n : Int) := by omega
  have hn1 : (n : Int) ≤ 1048576 := by omega
  cases a with
  | none =>
    obtain ⟨rfl, rfl⟩ := hnone rfl
    have HX := Lib.hid (HR.out 0 (by omega))
    clear hlen hc hl hnone hc1 hn0 hn1
    go_enter Try.func12, Try.ntmps12
    go_wp2
    go_ret
    exact ⟨_, rfl, HX.out, rfl⟩
  | some ad =>
    clear hnone
    rcases (by omega : n ≤ 300 ∨ 300 < n) with hm | hm
    · have e : (L.take 300).length = n := by omega
      have hmi : (n : Int) ≤ 300 := by omega
      have HX := Lib.hid (HR.out n e.symm)
      clear hlen e hm
      go_enter Try.func12, Try.ntmps12
      go_wp2
      go_ret
      exact ⟨_, rfl, HX.out, rfl⟩
    · have e : (L.take 300).length = 300 := by omega
      have hmi : ¬ (n : Int) ≤ 300 := by omega
      have hmj : (300 : Int) < (n : Int) := by omega
      have hck : (300 : Int) ≤ (c : Int) := by omega
      have HX := Lib.hid (HR.out 300 e.symm)
      clear hlen e hm
      go_enter Try.func12, Try.ntmps12
      go_wp2
      go_ret
      exact ⟨_, rfl, HX.out, rfl⟩
end Go.Proofs.Ytfkdkdkdpenblaa
