/-
  Contracts of package block: the reader's column.
  Contracts of package block: the reader's deeds.
  Contracts of package block: the reader's deeds, walked.
  Contracts of package block: Read.
  The contracts of package block, as the laws' walks want them.
  The laws of block: that it lives; BlockWrites, BlockReads, BlockBack, BlockOnly.
  The laws of block: BlockWrites, BlockReads, BlockBack, BlockOnly.
  Arguments of the laws of column opened: a column by value; a slice of values, their numbers in bounds.
-/
import Derived.Test.YtfbjmehkipcmbaaGreatDoorZAY
import Derived.Test.YtfbjmehkipcmbaaGreatDoorZAT
import Derived.Test.YtfbjmehkipcmbaaGreatDoorZAQ
import Derived.Test.YtfbjmehkipcmbaaGreatDoorZAX
import Derived.Test.YtfbjmehkipcmbaaGreatDoorZAD
import Derived.Deep.Slices
import Derived.Deep.Fields
import Derived.ChangeSame
import Derived.ProofKit
import Derived.OpenShut
import Derived.SizedLaws
namespace Go.Proofs.YtfbjmehkipcmbaaGreatDoor
open Go.RowKit
open Ty (num txt)
set_option maxHeartbeats 8000000 in
set_option maxRecDepth 100000 in
theorem Bk.column_c (r b q : Nat) (s : Dd.St) (c : Kn.C) (A : List Dd.D) (i wd : Nat) (R : Nat → Option Addr × Nat × Nat) (w : World) (h : Bk.Rdr r b w s) (hm : Bk.Mx q w R A) (h8 : A.length ≤ 8) (hW : Bk.Wide wd A) (hi : i < wd) (hw6 : wd ≤ 6) (hr : r < q) (hb : b < q) :
    Calls Tryz.prog 64 #[.pointer (some ⟨r, 0, none⟩), c.val, .slice (some ⟨q, 0, none⟩) A.length A.length, .int .i64 (i : Int)] w (Bk.Cld r b q w R (Bk.stC c i A s)) := by
  obtain ⟨X, hX⟩ : ∃ X, X = Bk.stC c i A s := ⟨_, rfl⟩
  rw [← hX]
  have HR := Lib.hid h
  have HM := Lib.hid hm
  have H8 := Lib.hid h8
  have HW := Lib.hid hW
  have HI := Lib.hid (And.intro hi hw6)
  have HRQ := Lib.hid (And.intro hr hb)
  have hi0 : (0 : Int) ≤ (i : Int) := by omega
  have hi6 : (i : Int) ≤ 6 := by omega
  have HBADX := Lib.hid fun t l2 e2 h1 h2 => hX.trans (Bk.stC_bad1 (t := t) (l2 := l2) (e2 := e2) h1 h2)
  have HOKX := Lib.hid fun t l2 e2 h1 h2 => hX.trans (Bk.stC_ok1 (t := t) (l2 := l2) (e2 := e2) h1 h2)
  have HGL : Hid (∀ j d g, A[j]? = some d → (R j).1 = some ⟨g, 0, none⟩ → g < w.heap.size) := Lib.hid fun j d g hd hg => by
    obtain ⟨g', e, _, h3⟩ := HM.out.rows j d hd
    rw [e] at hg
    obtain rfl : g' = g := by simpa using hg
    exact h3.lt
  clear hX hW hm h8 hi hw6
  have hle := Bk.rdT_le (s.l.length : Int) s.l s.e
  have CT := Lib.hid fun (wz : World) (h : Bk.Rdr r b wz s) => Ty.ctext_c b s.l s.e (s.l.length : Int) (by have := h.short; omega) wz h.tabs h.cur (by have := h.short; omega)
  have CL := Lib.hid fun (wz : World) (h : Bk.Rdr r b wz s) => Ty.left_c b s.l s.e wz h.cur
  have CH := Lib.hid (Bk.having_c i)
  unfold Bk.fv at CH
  obtain ⟨T, hT⟩ : ∃ T, T = Bk.rdL s := ⟨_, rfl⟩
  have hT2 := hT
  unfold Bk.rdL at hT2
  rw [← hT2] at hle
  simp only [← hT2] at CT
  obtain ⟨t1, l2, e2⟩ := T
  simp only at hle CT
  have HBADX := Lib.hid (HBADX.out t1 l2 e2 hT.symm)
  have HOKX := Lib.hid (HOKX.out t1 l2 e2 hT.symm)
  have HL2 := Lib.hid hle.1
  have HS1 : Hid ((Ty.S t1).size ≤ 140737488351232) := Lib.hid (by rw [Ty.size_S]; have := HR.out.short; have := hle.2; omega)
  have C6 := Lib.hid fun (wz : World) (h : Ty.Tabs wz) => Bk.read6_c c (Ty.S t1) wz h HS1.out
  rw [show (Ty.S t1).data.toList = t1 from rfl] at C6
  unfold Bk.okS at HBADX HOKX
  generalize Cl.rd c t1 = V at C6 HBADX HOKX
  generalize Ty.S t1 = S1 at CT C6
  obtain ⟨E, vs⟩ := V
  unfold Bk.GotF at C6
  unfold Kn.C.val at C6 ⊢
  simp only at C6 HBADX HOKX
  clear hT hT2 hle HS1 h
  generalize c.k = ck at C6 ⊢
  generalize c.null = cn at C6 ⊢
  have HB0 : Hid (Below w.heap.size w (w.alloc (.cells #[.int .i64 ck, .bool cn] 40))) := Lib.hid ((Below.refl _ _).alloc (Nat.le_refl _) _)
  have x0 := Kn.cell_new w #[.int .i64 ck, .bool cn] 40 0 _ rfl
  have x1 := Kn.cell_new w #[.int .i64 ck, .bool cn] 40 1 _ rfl
  simp only [List.getElem_toArray, List.getElem_cons_zero, List.getElem_cons_succ] at x0 x1
  have hsz : (w.alloc (.cells #[.int .i64 ck, .bool cn] 40)).heap.size = w.heap.size + 1 := World.size_alloc ..
  have HX := Lib.hid (And.intro x0 (And.intro x1 hsz))
  clear x0 x1 hsz
  go_enter Tryz.func64, Tryz.ntmps64
  go_upto_region 1 with (fail)
  obtain ⟨x0, x1, hsz⟩ := HX.out
  obtain ⟨p, hp⟩ : ∃ p, p = w.heap.size := ⟨_, rfl⟩
  rw [← hp] at x0 x1 ⊢
  generalize w.alloc _ = w1 at HB0 x0 x1 hsz ⊢
  have hpb : p ≠ b := by have := HR.out.lt.2; omega
  have hrb : r ≠ b := fun e => HR.out.ne e.symm
  have HR1 := Lib.hid (HR.out.kept HB0.out)
  have hr0 := (Dd.two HR1.out.box).1
  have HHS : Hid (∀ W, w1.grownBy W (some b) → W.cell? ⟨p, 0, none⟩ = some (.int .i64 ck) ∧ W.cell? ⟨p, 1, none⟩ = some (.bool cn) ∧ W.cell? ⟨r, 0, none⟩ = some (.pointer (some ⟨b, 0, none⟩))) := Lib.hid fun W g =>
    ⟨(World.cell?_of_block (a := ⟨p, 0, none⟩) (g.block p (by omega) (fun e => hpb (Option.some.inj e)))).trans x0, (World.cell?_of_block (a := ⟨p, 1, none⟩) (g.block p (by omega) (fun e => hpb (Option.some.inj e)))).trans x1,
      (World.cell?_of_block (a := ⟨r, 0, none⟩) (g.block r HR1.out.lt.1 (fun e => hrb (Option.some.inj e)))).trans hr0⟩
  have HDW : Hid (w1.grownBy w1.drew (some b)) := Lib.hid (Bk.by_of (Bt.drewN_below w1 1))
  have HRD : Hid (Bk.Rdr r b w1.drew s) := Lib.hid (HR1.out.kept (Bt.drewN_below w1 1))
  have HM1 := Lib.hid (HM.out.kept HB0.out)
  have HTB : Hid (∀ W, w1.drew.grownBy W (some b) → Ty.Cur b W l2 e2 → Ty.Tabs W) := Lib.hid fun W g hc => (HRD.out.moved hc g HL2.out).tabs
  have HS9 := Lib.hid hsz
  have HP := Lib.hid hp
  clear hr0 hsz x0 x1 HR HM HX hpb hrb hp hr hb
  go_region_held3 (fun W => W.cell? ⟨p, 0, none⟩ = some (.int .i64 ck) ∧ W.cell? ⟨p, 1, none⟩ = some (.bool cn) ∧ W.cell? ⟨r, 0, none⟩ = some (.pointer (some ⟨b, 0, none⟩)))
    (first
      | exact HHS.out _ HDW.out
      | exact HHS.out _ (Ty.by_trans HDW.out g6)
      | exact HHS.out _ (Ty.by_trans HDW.out (Ty.by_trans g6 (Bk.by_of g7))))
    (first
      | (go_at_call 66; (with_reducible refine (CL.out _ HRD.out).mono ?_); rintro e w5 ⟨rfl, rfl⟩)
      | (go_at_call 89; (with_reducible refine (CT.out _ HRD.out).mono ?_); rintro e w6 ⟨rfl, hc6, g6⟩)
      | (go_at_call 88; (with_reducible refine (C6.out _ (HTB.out _ g6 hc6)).mono ?_); rintro e w7 ⟨v7, rfl, hv7, hf7, g7⟩))
  have HZ9 : Hid (w.heap.size ≤ w6.heap.size) := Lib.hid (by
    have h1 := g6.size
    have h2 : w1.drew.heap.size = w1.heap.size := rfl
    have h3 := HS9.out
    have h4 := HP.out
    omega)
  have HR7 := Lib.hid ((HRD.out.moved hc6 g6 HL2.out).kept g7)
  have HM7 := Lib.hid (((HM1.out.kept (Bt.drewN_below w1 1)).by_ g6 HRQ.out.2).kept g7)
  have HV7 := Lib.hid hv7
  have HF7 : Hid (Dd.Fresh w.heap.size v7) := Lib.hid (hf7.mono HZ9.out)
  have HB7 : Hid (∀ B, B ≤ r → B ≤ b → B ≤ w.heap.size → Below B w w7) := Lib.hid fun B h1 h2 h3 =>
    (HB0.out.mono h3).trans (((Bt.drewN_below w1 1).mono (Nat.le_trans h3 HB0.out.size)).trans ((Bk.below_of g6 h2 (Nat.le_trans h3 HB0.out.size)).trans (g7.mono (Nat.le_trans h3 HZ9.out))))
  have HZ7 : Hid (w.heap.size ≤ w7.heap.size) := Lib.hid (Nat.le_trans HZ9.out g7.size)
  obtain ⟨a7, c7, rfl, -⟩ := hv7
  have HRL : Hid (r < w.heap.size) := Lib.hid (by
    have h1 := HRQ.out.1
    have h2 := HM1.out.row.lt
    have h3 := HS9.out
    have h4 := HP.out
    omega)
  clear hc6 g6 g7 hf7 HRD HM1 HDW HHS HTB HR1 CT CL C6 HS9 HP HB0
  go_wp2_with fail
  with_reducible refine (CH.out _).mono ?_
  rintro e w8 ⟨p8, rfl, hp1, hp2, hp3, g8⟩
  have HM8 := Lib.hid (HM7.out.kept g8)
  have HR8 := Lib.hid (HR7.out.kept g8)
  have HV8 := Lib.hid (HV7.out.later g8)
  have HZ8 : Hid (w.heap.size ≤ w8.heap.size) := Lib.hid (Nat.le_trans HZ7.out g8.size)
  have HB8 : Hid (∀ B, B ≤ r → B ≤ b → B ≤ w.heap.size → Below B w w8) := Lib.hid fun B h1 h2 h3 => (HB7.out B h1 h2 h3).trans (g8.mono (Nat.le_trans h3 HZ7.out))
  have cr := Bk.rows_c i p8 _ A R w8 (HM8.out.dr A.length) hp3 hp2 H8.out
  clear g8 hp1 hp2 hp3 CH HR7 HM7 HV7 HB7 HZ7
  go_wp2_with fail
  with_reducible refine cr.mono ?_
  rintro e w9 ⟨hd, rfl, hO, g9⟩
  have HM9 := Lib.hid (HM8.out.kept g9)
  have HR9 := Lib.hid (HR8.out.kept g9)
  have HV9 := Lib.hid (HV8.out.later g9)
  have HZ9' : Hid (w.heap.size ≤ w9.heap.size) := Lib.hid (Nat.le_trans HZ8.out g9.size)
  have HB9 : Hid (∀ B, B ≤ r → B ≤ b → B ≤ w.heap.size → Below B w w9) := Lib.hid fun B h1 h2 h3 => (HB8.out B h1 h2 h3).trans (g9.mono (Nat.le_trans h3 HZ8.out))
  have HO := Lib.hid hO
  have hf := hO.form
  have HG0 := Lib.hid fun h => Bk.MidG.start (i := i) (R := R) (A := A) (vs := vs) h
  have hML := Bk.hl_len i R 0 A
  have HFL : Hid ((A.filter (Bk.has i)).length ≤ 8) := Lib.hid (Nat.le_trans (List.length_filter_le ..) H8.out)
  obtain ⟨m, hmm⟩ : ∃ m, m = (A.filter (Bk.has i)).length := ⟨_, rfl⟩
  rw [← hmm] at hML HG0 HFL HBADX HOKX
  generalize Bk.hl i R 0 A = M at hf hO HO hML HG0
  have HFM : Hid ((hd = .slice none 0 0 ∧ M = []) ∨ ∃ g c, hd = .slice (some ⟨g, 0, none⟩) M.length c ∧ w8.heap.size ≤ g ∧ g < w9.heap.size) := Lib.hid (hf.imp id fun ⟨g, c, h1, _, _, h2, h3⟩ => ⟨g, c, h1, h2, h3⟩)
  obtain ⟨ha, hc, rfl⟩ : ∃ ha hc, hd = .slice ha M.length hc := by
    rcases hf with ⟨rfl, rfl⟩ | ⟨g, c, rfl, _⟩
    · exact ⟨none, 0, rfl⟩
    · exact ⟨_, c, rfl⟩
  have HML := Lib.hid hML
  clear hf hO hML hmm g9 cr HM8 HR8 HV8 HB8
  by_cases hE : E = 0
  rotate_left
  · have hEb : ((E : Int) != 0) = true := by rw [bne_iff_ne]; omega
    have HX := Lib.hid (HBADX.out fun h => hE h.1)
    obtain ⟨d0, d1, f0, f1⟩ := Dd.two HR9.out.box
    clear hE
    go_wp2
    go_end0
    exact ⟨rfl, by rw [HX.out]; exact HR9.out.marked true, by rw [HX.out]; exact HM9.out.same fun k hq _ => Below.heap_setCell _ _ _ _ (by show k ≠ r; have := HRQ.out.1; omega), fun B h1 h2 => Cl.below_cell (HB9.out B h1 h2 (by have := HRL.out; omega)) h1 _⟩
  subst hE
  simp only [Int.natCast_zero]
  by_cases hvl : vs.length = m
  rotate_left
  · have hlb : ((vs.length : Int) != (M.length : Int)) = true := by rw [bne_iff_ne, HML.out]; omega
    have HX := Lib.hid (HBADX.out fun h => hvl h.2)
    obtain ⟨d0, d1, f0, f1⟩ := Dd.two HR9.out.box
    clear hvl
    go_wp2
    go_end0
    exact ⟨rfl, by rw [HX.out]; exact HR9.out.marked true, by rw [HX.out]; exact HM9.out.same fun k hq _ => Below.heap_setCell _ _ _ _ (by show k ≠ r; have := HRQ.out.1; omega), fun B h1 h2 => Cl.below_cell (HB9.out B h1 h2 (by have := HRL.out; omega)) h1 _⟩
  have hlb : ((vs.length : Int) != (M.length : Int)) = false := by rw [bne_eq_false_iff_eq, HML.out, hvl]
  have HX := Lib.hid (HOKX.out ⟨rfl, hvl⟩)
  have HG1 := Lib.hid (HG0.out hvl)
  have HVL : Hid (vs.length = M.length) := Lib.hid (by rw [HML.out, hvl])
  have HM8' : Hid (M.length ≤ 8) := Lib.hid (by rw [HML.out]; exact HFL.out)
  clear hvl HBADX HOKX HG0
  go_wp2_with fail
  clear hlb
  go_loopw [46] (fun i9 wr => ∃ (k j : Nat) (B : List Dd.D), i9 = .int .i64 k ∧ k ≤ M.length ∧ Bk.MidG i R A vs M B j k ∧ Bk.Mx q wr R B ∧ Bk.Wide wd B ∧ Bk.Btw q w.heap.size w9 wr) (fun i9 _ => M.length - (intOf i9).toNat)
  case atStart => exact ⟨0, 0, A, rfl, Nat.zero_le _, HG1.out, HM9.out, HW.out, Bk.Btw.refl _ _ _⟩
  case round =>
    obtain ⟨k, j, B, rfl, hk, hG, hMx, hWd, hB⟩ := hrel
    have HMX := Lib.hid hMx
    have HWD := Lib.hid hWd
    have HBT := Lib.hid hB
    by_cases hl : k < M.length
    · obtain ⟨j', d, x, hBd, hh, hMk, hvx, hG'⟩ := hG.next _ _ _ rfl hl
      rcases HFM.out with ⟨h1, h2⟩ | ⟨gh, c9, h1, hg8, hg9⟩
      · rw [h2] at hl
        simp at hl
      · simp only [Value.slice.injEq, true_and] at h1
        obtain ⟨rfl, rfl⟩ := h1
        have c0 := HO.out.cell Bk.e1_len rfl hMk (j := 0) (by decide)
        rw [Nat.mul_one, Nat.add_zero] at c0
        have c0 := (World.cell?_of_block (a := ⟨gh, k, none⟩) (hB.block gh hg9 (.inr (Nat.le_trans HZ8.out hg8)))).trans c0
        obtain ⟨g, hRj, hqg, hrow⟩ := hMx.rows j' d hBd
        simp only [Bk.e1, hRj, Bk.sv, List.getElem?_cons_zero] at c0
        obtain ⟨hvn, b2, o2, ha7, hb2, hat⟩ := Bk.row_at (Bk.vals_btw HV9.out HF7.out hB) hvx
        have hil := Bk.wide_has HI.out.1 (hWd d (List.mem_of_getElem? hBd)) hh
        have hilt : (i : Int) < (d.row.length : Int) := by omega
        have r0 := hrow.c0 hil
        have r1 := hrow.c1 hil
        have r2 := hrow.c2 hil
        have f0 := World.rowIs.frozen hrow (i * 3)
        have f1 := World.rowIs.frozen hrow (i * 3 + 1)
        have f2 := World.rowIs.frozen hrow (i * 3 + 2)
        have e0 := hat.c0
        have e1 := hat.c1
        have e2 := hat.c2
        have hkl : (k : Int) < (M.length : Int) := by omega
        have hk0 : (0 : Int) ≤ (k : Int) := by omega
        have hk7 : (k : Int) ≤ 7 := by have := HM8'.out; omega
        have hkv : (k : Int) < (vs.length : Int) := by have := HVL.out; omega
        have HMX2 := Lib.hid (hMx.put hBd (by rw [hRj]) (i := i) x)
        have HWD2 := Lib.hid (Bk.wide_set (i := i) hWd hBd x)
        have hAd : ∃ d', A[j']? = some d' := ⟨_, List.getElem?_eq_getElem (by rw [← hG.len]; exact (List.getElem?_eq_some_iff.1 hBd).1)⟩
        obtain ⟨d', hAd⟩ := hAd
        have HGS : Hid (q < g ∧ g < w.heap.size) := Lib.hid ⟨hqg, HGL.out j' d' g hAd (by rw [hRj])⟩
        have HG' := Lib.hid hG'
        have HK := Lib.hid hl
        subst ha7
        clear hAd hG' hG hMx hWd hB hBd hh hMk hvx hRj hrow hat hl hk hvn hqg hb2 hil
        go_wp2
        go_roundw
        case rel => exact ⟨k + 1, j' + 1, _, by simp, HK.out, HG'.out, HMX2.out, HWD2.out, ((HBT.out.set HGS.out.1 HGS.out.2 _ _).set HGS.out.1 HGS.out.2 _ _).set HGS.out.1 HGS.out.2 _ _⟩
        case measure => (have := HK.out; simp [intOf]; omega)
    · obtain rfl : k = M.length := by omega
      have hkl : ¬ (M.length : Int) < (M.length : Int) := by omega
      have HD := Lib.hid (hG.done rfl)
      clear hk hl hG hMx hWd hB
      go_wp2
      go_end0
      exact ⟨rfl, by rw [HX.out]; exact HR9.out.btw HBT.out HRQ.out.1 HRQ.out.2, by rw [HX.out]; show Bk.Mx q _ R (Bk.give i A vs); rw [HD.out]; exact HMX.out, fun B' h1 h2 => (HB9.out B' h1 h2 (by have := HRL.out; omega)).trans (HBT.out.below (by have := HRQ.out.1; omega) (Nat.le_trans (by have := HRL.out; omega) HZ9'.out))⟩
end Go.Proofs.YtfbjmehkipcmbaaGreatDoor

namespace Go.Proofs.YtfbjmehkipcmbaaGreatDoor
open Go.RowKit
open Ty (num txt)
theorem Bk.stC_len (c : Kn.C) (i : Nat) (A : List Dd.D) (s : Dd.St) : (Bk.stC c i A s).1.length = A.length := by
  unfold Bk.stC
  split
  · exact Bk.give_len i A _
  · rfl
theorem Bk.stC_wide {c : Kn.C} {i w : Nat} {A : List Dd.D} {s : Dd.St} (h : Bk.Wide w A) : Bk.Wide w (Bk.stC c i A s).1 := by
  unfold Bk.stC
  split
  · exact Bk.give_wide i w A _ h
  · exact h
theorem Bk.give_zs (i : Nat) : ∀ (L : List Dd.D) (vs : List Kn.V), Bk.Zs L → (∀ v ∈ vs, Kn.Z v) → Bk.Zs (Bk.give i L vs)
  | [], _, _, _ => fun d hd => by cases hd
  | x :: L, vs, h, hv => fun d hd v hvd => by
    have hx := h x (List.mem_cons_self ..)
    have hL : Bk.Zs L := fun y hy => h y (List.mem_cons_of_mem _ hy)
    unfold Bk.give at hd
    split at hd
    · rcases List.mem_cons.1 hd with rfl | hd
      · rcases List.mem_or_eq_of_mem_set hvd with h1 | h1
        · exact hx v h1
        · subst h1
          cases vs with
          | nil => unfold Kn.Z; exact Nat.zero_le _
          | cons y vs => exact hv y (List.mem_cons_self ..)
      · exact Bk.give_zs i L _ hL (fun y hy => hv y (List.mem_of_mem_tail hy)) d hd v hvd
    · rcases List.mem_cons.1 hd with rfl | hd
      · exact hx v hvd
      · exact Bk.give_zs i L _ hL hv d hd v hvd
theorem Bk.stC_zs {c : Kn.C} {i : Nat} {A : List Dd.D} {s : Dd.St} (h : Bk.Zs A) : Bk.Zs (Bk.stC c i A s).1 := by
  unfold Bk.stC
  split
  · rename_i hk
    exact Bk.give_zs i A _ h (Bk.rd_zs hk.1)
  · exact h
theorem Bk.stD_next {j : Nat} {s : List Kn.C} {c : Kn.C} (h : s[j]? = some c) (A : List Dd.D) (st : Dd.St) : Bk.stD j (s.drop j) A st = Bk.stD (j + 1) (s.drop (j + 1)) (Bk.stC c j A st).1 (Bk.stC c j A st).2 := by
  obtain ⟨hj, rfl⟩ := List.getElem?_eq_some_iff.1 h
  rw [List.drop_eq_getElem_cons hj]
  rfl
theorem Bk.stD_end {j : Nat} {s : List Kn.C} (h : j = s.length) (A : List Dd.D) (st : Dd.St) : Bk.stD j (s.drop j) A st = (A, st) := by
  rw [h, List.drop_length]
  rfl
/-! The rows as they are made. -/
def Bk.zk (w n : Nat) (b : UInt8) (k : Nat) : List Dd.D := (List.range n).map fun i => if i < k then ⟨b.toNat.testBit i, List.replicate (Bk.wdt w (b.toNat.testBit i)) (Cl.ofN 0)⟩ else Bk.nod
theorem Bk.zk_len (w n : Nat) (b : UInt8) (k : Nat) : (Bk.zk w n b k).length = n := by unfold Bk.zk; simp
theorem Bk.zk_zero (w n : Nat) (b : UInt8) : Bk.zk w n b 0 = (List.range n).map fun _ => Bk.nod := by unfold Bk.zk; simp
theorem Bk.zk_step {w n : Nat} (b : UInt8) {j : Nat} (h : j < n) : (Bk.zk w n b j).set j ⟨b.toNat.testBit j, List.replicate (Bk.wdt w (b.toNat.testBit j)) (Cl.ofN 0)⟩ = Bk.zk w n b (j + 1) := by
  refine List.ext_getElem? fun i => ?_
  rw [List.getElem?_set, Bk.zk_len]
  by_cases hi : i < n
  · by_cases e : j = i
    · subst e
      rw [if_pos rfl, if_pos hi]
      unfold Bk.zk
      rw [List.getElem?_map, List.getElem?_range hi, Option.map_some, if_pos (by omega)]
    · rw [if_neg e]
      unfold Bk.zk
      rw [List.getElem?_map, List.getElem?_map, List.getElem?_range hi, Option.map_some, Option.map_some]
      by_cases e2 : i < j
      · rw [if_pos e2, if_pos (by omega)]
      · rw [if_neg e2, if_neg (by omega)]
  · have h1 : (Bk.zk w n b j)[i]? = none := List.getElem?_eq_none (by rw [Bk.zk_len]; omega)
    have h2 : (Bk.zk w n b (j + 1))[i]? = none := List.getElem?_eq_none (by rw [Bk.zk_len]; omega)
    rw [if_neg (by omega), h1, h2]
theorem Bk.zk_done (w n : Nat) (b : UInt8) : Bk.zk w n b n = Bk.zero w n b := by
  unfold Bk.zk Bk.zero
  refine List.map_congr_left fun i hi => ?_
  rw [if_pos (List.mem_range.1 hi)]
theorem Bk.zero_zs (w n : Nat) (b : UInt8) : Bk.Zs (Bk.zero w n b) := fun d hd v hv => by
  unfold Bk.zero at hd
  obtain ⟨i, _, rfl⟩ := List.mem_map.1 hd
  rw [List.eq_of_mem_replicate hv]
  unfold Kn.Z
  exact Nat.zero_le _
structure Bk.Pm (q k : Nat) (w : World) (R : Nat → Option Addr × Nat × Nat) (A : List Dd.D) : Prop where
  row : w.rowIs q 37 (A.length * 2) (Bk.mx A R)
  rows : ∀ j d, j < k → A[j]? = some d → ∃ g, R j = (some ⟨g, 0, none⟩, d.row.length, d.row.length) ∧ q < g ∧ Cl.Row w g d.row.length (fun k => d.row.getD k Cl.nul)
  sep : ∀ j l, j < k → l < k → j < A.length → l < A.length → j ≠ l → ∀ g, (R j).1 = some ⟨g, 0, none⟩ → (R l).1 ≠ some ⟨g, 0, none⟩
theorem Bk.Pm.done {q k : Nat} {w : World} {R : Nat → Option Addr × Nat × Nat} {A : List Dd.D} (h : Bk.Pm q k w R A) (hk : k = A.length) : Bk.Mx q w R A :=
  ⟨h.row, fun j d hd => h.rows j d (by rw [hk]; exact (List.getElem?_eq_some_iff.1 hd).1) hd, fun j l hj hl hn => h.sep j l (by omega) (by omega) hj hl hn⟩
theorem Bk.Pm.made (w : World) (n : Nat) : Bk.Pm w.heap.size 0 (w.alloc (.cells (madeCells #[.bool false, .slice none 0 0] (n * 2)) 37)) (fun _ => (none, 0, 0)) ((List.range n).map fun _ => Bk.nod) := by
  have hl : ((List.range n).map fun _ => Bk.nod).length = n := by simp
  refine ⟨?_, fun j d hj => by omega, fun j l hj => by omega⟩
  rw [hl]
  refine ⟨_, Go.Deep.blk_alloc_new _ _, size_madeCells _ _, fun i hi => ?_⟩
  unfold madeCells
  rw [Array.getElem?_map, Array.getElem?_range, if_pos hi]
  unfold Bk.mx
  have hg : (((List.range n).map fun _ => Bk.nod).getD (i / 2) Bk.nod).gone = false := by
    rw [List.getD_eq_getElem?_getD, List.getElem?_map, List.getElem?_range (by omega)]
    rfl
  rw [hg]
  have h2 : i % 2 = 0 ∨ i % 2 = 1 := by omega
  rcases h2 with h | h <;> simp [h, Bk.sv]
theorem Bk.Pm.step {q k : Nat} {w : World} {R : Nat → Option Addr × Nat × Nat} {A : List Dd.D} (h : Bk.Pm q k w R A) (hk : k < A.length) (gd : Bool) (m : Nat) :
    Bk.Pm q (k + 1) (((w.alloc (.cells (madeCells #[.bool false, .int .i64 0, .string ⟨#[]⟩] (m * 3)) 42)).setCell ⟨q, k * 2, none⟩ (.bool gd)).setCell ⟨q, k * 2 + 1, none⟩ (.slice (some ⟨w.heap.size, 0, none⟩) m m))
      (fun i => if i = k then (some ⟨w.heap.size, 0, none⟩, m, m) else R i) (A.set k ⟨gd, List.replicate m (Cl.ofN 0)⟩) := by
  have hq := h.row.lt
  have hal : Below w.heap.size w (w.alloc (.cells (madeCells #[.bool false, .int .i64 0, .string ⟨#[]⟩] (m * 3)) 42)) := (Below.refl _ _).alloc (Nat.le_refl _) _
  have hnew := Cl.Row.made w m
  have hrow := h.row.of_block (hal.block q hq)
  generalize w.alloc (.cells (madeCells #[.bool false, .int .i64 0, .string ⟨#[]⟩] (m * 3)) 42) = w1 at hal hnew hrow ⊢
  have hoth : ∀ g, g ≠ q → ((w1.setCell ⟨q, k * 2, none⟩ (.bool gd)).setCell ⟨q, k * 2 + 1, none⟩ (.slice (some ⟨w.heap.size, 0, none⟩) m m)).heap[g]? = w1.heap[g]? := fun g hg =>
    (Below.heap_setCell _ _ _ _ hg).trans (Below.heap_setCell _ _ _ _ hg)
  refine ⟨?_, fun j d hj hd => ?_, fun j l hj hl hja hla hn g hg => ?_⟩
  · rw [List.length_set]
    refine World.rowIs.congr (World.rowIs.set (World.rowIs.set hrow (k * 2) (.bool gd)) (k * 2 + 1) (.slice (some ⟨w.heap.size, 0, none⟩) m m)) fun i hi => ?_
    unfold Bk.mx
    by_cases e : i = k * 2 + 1
    · subst e
      rw [if_pos rfl, if_neg (by omega)]
      dsimp only
      rw [if_pos (by omega)]
      rfl
    · rw [if_neg e]
      by_cases e1 : i = k * 2
      · subst e1
        rw [if_pos rfl, if_pos (by omega), show k * 2 / 2 = k by omega, List.getD_eq_getElem?_getD, List.getElem?_set_self hk]
        rfl
      · rw [if_neg e1]
        by_cases e2 : i % 2 = 0
        · rw [if_pos e2, if_pos e2]
          simp only [List.getD_eq_getElem?_getD, List.getElem?_set]
          rw [if_neg (by omega)]
        · rw [if_neg e2, if_neg e2]
          dsimp only
          rw [if_neg (by omega)]
  · rw [List.getElem?_set] at hd
    by_cases e : k = j
    · subst e
      rw [if_pos rfl, if_pos hk] at hd
      obtain rfl := Option.some.inj hd
      refine ⟨w.heap.size, by simp only [if_pos, List.length_replicate], hq, ?_⟩
      simp only [List.length_replicate]
      refine Cl.Row.congr (World.rowIs.of_block hnew (hoth _ (by omega))) fun i hi => ?_
      rw [List.getD_eq_getElem?_getD, List.getElem?_replicate, if_pos hi]
      rfl
    · rw [if_neg e] at hd
      obtain ⟨g, f1, f2, f3⟩ := h.rows j d (by omega) hd
      refine ⟨g, by simp only [if_neg (show ¬ j = k by omega)]; exact f1, f2, ?_⟩
      exact World.rowIs.of_block f3 ((hoth g (by omega)).trans (hal.block g f3.lt))
  · rw [List.length_set] at hja hla
    have hold : ∀ i, i < k → ∀ g, (R i).1 = some ⟨g, 0, none⟩ → i < A.length → g < w.heap.size := fun i hi g hg hia => by
      obtain ⟨g', f1, _, f3⟩ := h.rows i A[i] hi (List.getElem?_eq_getElem hia)
      rw [f1] at hg
      obtain rfl : g' = g := by simpa using hg
      exact f3.lt
    by_cases ej : j = k
    · simp only [if_pos ej, Option.some.injEq, Addr.mk.injEq, and_true] at hg
      simp only [if_neg (show ¬ l = k by omega)]
      intro h2
      have := hold l (by omega) g h2 hla
      omega
    · simp only [if_neg ej] at hg
      by_cases el : l = k
      · simp only [if_pos el]
        intro h2
        simp only [Option.some.injEq, Addr.mk.injEq, and_true] at h2
        have := hold j (by omega) g hg hja
        omega
      · simp only [if_neg el]
        exact h.sep j l (by omega) (by omega) hja hla hn g hg
theorem Bk.Pm.lt {q k : Nat} {w : World} {R : Nat → Option Addr × Nat × Nat} {A : List Dd.D} (h : Bk.Pm q k w R A) : q < w.heap.size := h.row.lt
theorem Bk.run_makeD (n : Nat) (hn : n ≤ 8) (w : World) : (Instr.makeSlice 23 (.int .i64 (n : Int)) (.int .i64 (n : Int))).run Tryz.prog w = .ok (.slice (some ⟨w.heap.size, 0, none⟩) n n) (w.alloc (.cells (madeCells #[.bool false, .slice none 0 0] (n * 2)) 37)) := by
  obtain ⟨i0, hi, hz0, hz1, hz2⟩ := info_parts (show (Tryz.prog.info? 37).map (fun i => (i.zero, i.size, i.bytes)) = some (some (.agg #[.bool false, .slice none 0 0]), 2, 32) by kernel_rfl)
  have := Go.run_make (P := Tryz.prog) w 23 37 i0 _ Tryz.underlying23 hi hz0 .i64 .i64 n n (by omega) (Int.le_refl _) (by rw [hz2]; omega) (by omega)
  rw [hz1, Int.toNat_natCast] at this
  exact this
theorem Bk.run_makeR (n : Nat) (hn : n ≤ 8) (w : World) : (Instr.makeSlice 35 (.int .i64 (n : Int)) (.int .i64 (n : Int))).run Tryz.prog w = .ok (.slice (some ⟨w.heap.size, 0, none⟩) n n) (w.alloc (.cells (madeCells #[.bool false, .int .i64 0, .string ⟨#[]⟩] (n * 3)) 42)) := by
  obtain ⟨i0, hi, hz0, hz1, hz2⟩ := info_parts Cl.infoV
  have := Go.run_make (P := Tryz.prog) w 35 42 i0 _ Tryz.underlying35 hi hz0 .i64 .i64 n n (by omega) (Int.le_refl _) (by rw [hz2]; omega) (by omega)
  rw [hz1, Int.toNat_natCast] at this
  exact this
def Bk.Dsd (r b : Nat) (w0 : World) (X : List Dd.D × Dd.St) (e : Ending) (w' : World) : Prop :=
  ∃ q R, e = .returned (.slice (some ⟨q, 0, none⟩) X.1.length X.1.length) ∧ Bk.Rdr r b w' X.2 ∧ Bk.Mx q w' R X.1 ∧ Below w0.heap.size w0 w'
end Go.Proofs.YtfbjmehkipcmbaaGreatDoor

namespace Go.Proofs.YtfbjmehkipcmbaaGreatDoor
open Go.RowKit
open Ty (num txt)
set_option maxHeartbeats 8000000 in
set_option maxRecDepth 100000 in
theorem Bk.deeds_c (r b : Nat) (st : Dd.St) (vs : Value) (s : List Kn.C) (w0 w : World) (h : Bk.Rdr r b w st) (hs : Kn.Cols w0 vs s) (hw : Below w0.heap.size w0 w) (hr : w0.heap.size ≤ r) (hb : w0.heap.size ≤ b) (hl : 1 ≤ s.length ∧ s.length ≤ 6) (hn : (Bk.stG st).1 ≤ 8) :
    Calls Tryz.prog 34 #[.pointer (some ⟨r, 0, none⟩), vs] w (Bk.Dsd r b w0 (Bk.stD 0 s (Bk.zero s.length (Bk.stG st).1 (Bk.stG st).2.1) (Bk.stG st).2.2)) := by
  obtain ⟨X, hX⟩ : ∃ X, X = Bk.stD 0 s (Bk.zero s.length (Bk.stG st).1 (Bk.stG st).2.1) (Bk.stG st).2.2 := ⟨_, rfl⟩
  rw [← hX]
  have HX := Lib.hid hX
  have HS := Lib.hid hs
  have HL := Lib.hid hl
  have HRB := Lib.hid (And.intro hr hb)
  have HW := Lib.hid hw
  have cf := Bk.rflags_c r b st w h
  have CWD := Lib.hid fun (g : Bool) (wz : World) (hz : Kn.Cols wz vs s) => Bk.width_c vs s g wz hz
  obtain ⟨sa, sc, rfl, hsc⟩ := hs
  have HSC := Lib.hid hsc
  unfold Bk.Flg at cf
  clear hX hl hsc h
  generalize Bk.stG st = G at cf hn HX
  obtain ⟨n, b8, s1⟩ := G
  simp only at cf hn HX
  have hmk := Bk.run_makeD n hn
  have HN := Lib.hid hn
  go_enter Tryz.func34, Tryz.ntmps34
  go_wp2_with fail
  with_reducible refine cf.mono ?_
  rintro e w1 ⟨u, rfl, hSl, hR1, hB1⟩
  have HB1 := Lib.hid (HW.out.trans (hB1 _ HRB.out.1 HRB.out.2 HW.out.size))
  have HR1 := Lib.hid hR1
  obtain ⟨ua, uc, rfl, hua⟩ := hSl
  have HUA := Lib.hid hua
  clear cf hR1 hB1 hua hw hr hb
  go_wp2_with fail
  have hP := Bk.Pm.made w1 n
  rw [← Bk.zk_zero s.length n b8] at hP
  have hal : Below w1.heap.size w1 (w1.alloc (.cells (madeCells #[.bool false, .slice none 0 0] (n * 2)) 37)) := (Below.refl _ w1).alloc (Nat.le_refl _) _
  generalize w1.alloc _ = w2 at hP hal ⊢
  obtain ⟨q, hq⟩ : ∃ q, q = w1.heap.size := ⟨_, rfl⟩
  rw [← hq] at hP ⊢
  have HQ : Hid (r < q ∧ b < q ∧ w0.heap.size ≤ q) := Lib.hid (by have h1 := HR1.out.lt; have h2 := HB1.out.size; rw [hq]; exact ⟨h1.1, h1.2, h2⟩)
  have HP := Lib.hid hP
  have HAL : Hid (Below q w1 w2) := Lib.hid (by rw [hq]; exact hal)
  have HQE := Lib.hid hq
  clear hmk hP hal hq hn
  go_loopw [17] (fun i wr => ∃ (k : Nat) (R : Nat → Option Addr × Nat × Nat), k ≤ n ∧ i = .int .i64 k ∧ Bk.Pm q k wr R (Bk.zk s.length n b8 k) ∧ Below q w1 wr) (fun i _ => n - (intOf i).toNat)
  case atStart => exact ⟨0, _, Nat.zero_le _, rfl, HP.out, HAL.out⟩
  case round =>
    obtain ⟨k, R, hk, rfl, hP, hB⟩ := hrel
    have HPk := Lib.hid hP
    have HB := Lib.hid hB
    clear hP hB
    by_cases hkn : k < n
    · rcases HUA.out with h0 | ⟨gb, go, rfl, hgb, hc⟩
      · omega
      · have c0 : w1.cell? ⟨gb, go + k, none⟩ = some (.bool (b8.toNat.testBit k)) := hc k hkn
        have hgq : gb < q := by rw [HQE.out]; exact hgb
        have hwr : q ≤ wr.heap.size := Nat.le_of_lt HPk.out.lt
        have hkl : (k : Int) < (n : Int) := by omega
        have hk0 : (0 : Int) ≤ (k : Int) := by omega
        have hk7 : (k : Int) ≤ 7 := by have := HN.out; omega
        have HPD : Hid (Bk.Pm q k wr.drew R (Bk.zk s.length n b8 k)) := Lib.hid ⟨HPk.out.row, HPk.out.rows, HPk.out.sep⟩
        have HPS := Lib.hid (HPk.out.step (show k < (Bk.zk s.length n b8 k).length by rw [Bk.zk_len]; exact hkn) (b8.toNat.testBit k) (Bk.wdt s.length (b8.toNat.testBit k)))
        rw [Bk.zk_step b8 hkn] at HPS
        have hz := HPk.out.row
        rw [Bk.zk_len] at hz
        have q0 := hz.cell (show k * 2 < n * 2 by omega)
        have q1 := hz.cell (show k * 2 + 1 < n * 2 by omega)
        have z0 := hz.frozen (k * 2)
        have z1 := hz.frozen (k * 2 + 1)
        have HQ0 : Hid (∀ W, Below wr.heap.size wr W → ∃ x y, W.cell? ⟨q, k * 2, none⟩ = some x ∧ W.cell? ⟨q, k * 2 + 1, none⟩ = some y ∧ W.frozen? ⟨q, k * 2, none⟩ = false ∧ W.frozen? ⟨q, k * 2 + 1, none⟩ = false) := Lib.hid fun W g =>
          ⟨_, _, (g.cell (p := ⟨q, k * 2, none⟩) HPk.out.lt).trans q0, (g.cell (p := ⟨q, k * 2 + 1, none⟩) HPk.out.lt).trans q1, (g.frozen (p := ⟨q, k * 2, none⟩) HPk.out.lt).trans z0, (g.frozen (p := ⟨q, k * 2 + 1, none⟩) HPk.out.lt).trans z1⟩
        have c1 := (HB.out.cell (p := ⟨gb, go + k, none⟩) hgq).trans c0
        have CW2 := Lib.hid fun (wz : World) (hz : Kn.Cols wz (.slice sa s.length sc) s) => CWD.out (b8.toNat.testBit k) wz hz
        have hmk := Bk.run_makeR (Bk.wdt s.length (b8.toNat.testBit k)) (by unfold Bk.wdt; have := HL.out; split <;> omega)
        have hwd : Bk.wd s (b8.toNat.testBit k) = Bk.wdt s.length (b8.toNat.testBit k) := rfl
        rw [hwd] at CW2
        generalize Bk.wdt s.length (b8.toNat.testBit k) = m at HPS CW2 hmk
        generalize b8.toNat.testBit k = gd at c0 c1 HPS CW2
        have HDW : Hid (Below wr.heap.size wr wr.drew) := Lib.hid (Bt.drewN_below wr 1)
        have HSD : Hid (Kn.Cols wr.drew (.slice sa s.length sc) s) := Lib.hid (HS.out.later ((HB1.out.trans (HB.out.mono HQ.out.2.2)).trans (HDW.out.mono (by have := HQ.out.2.2; omega))))
        have HK := Lib.hid hkn
        have HBD : Hid (Below q w1 wr.drew) := Lib.hid (HB.out.trans (HDW.out.mono hwr))
        have HHS : Hid (∀ W, Below q w1 W → W.cell? ⟨gb, go + k, none⟩ = some (.bool gd)) := Lib.hid fun W g => (g.cell (p := ⟨gb, go + k, none⟩) hgq).trans c0
        have HBC : Hid (Below q w1 (wr.alloc (.cells (madeCells #[.bool false, .int .i64 0, .string ⟨#[]⟩] (m * 3)) 42))) := Lib.hid (HB.out.alloc hwr _)
        obtain ⟨x, y, q0, q1, z0, z1⟩ := HQ0.out (wr.alloc (.cells (madeCells #[.bool false, .int .i64 0, .string ⟨#[]⟩] (m * 3)) 42)) ((Below.refl _ _).alloc (Nat.le_refl _) _)
        have y0 : (wr.alloc (.cells (madeCells #[.bool false, .int .i64 0, .string ⟨#[]⟩] (m * 3)) 42)).drew.cell? ⟨q, k * 2, none⟩ = some x := q0
        have y1 : (wr.alloc (.cells (madeCells #[.bool false, .int .i64 0, .string ⟨#[]⟩] (m * 3)) 42)).drew.cell? ⟨q, k * 2 + 1, none⟩ = some y := q1
        have y2 : (wr.alloc (.cells (madeCells #[.bool false, .int .i64 0, .string ⟨#[]⟩] (m * 3)) 42)).drew.frozen? ⟨q, k * 2, none⟩ = false := z0
        have y3 : (wr.alloc (.cells (madeCells #[.bool false, .int .i64 0, .string ⟨#[]⟩] (m * 3)) 42)).drew.frozen? ⟨q, k * 2 + 1, none⟩ = false := z1
        have HBS : Hid (Below q w1 (((wr.alloc (.cells (madeCells #[.bool false, .int .i64 0, .string ⟨#[]⟩] (m * 3)) 42)).setCell ⟨q, k * 2, none⟩ (.bool gd)).setCell ⟨q, k * 2 + 1, none⟩ (.slice (some ⟨wr.heap.size, 0, none⟩) m m)).drew) := Lib.hid (Cl.below_cell (Cl.below_cell HBC.out (Nat.le_refl _) _) (Nat.le_refl _) _).drew
        have HPR : Hid (Bk.Pm q (k + 1) (((wr.alloc (.cells (madeCells #[.bool false, .int .i64 0, .string ⟨#[]⟩] (m * 3)) 42)).setCell ⟨q, k * 2, none⟩ (.bool gd)).setCell ⟨q, k * 2 + 1, none⟩ (.slice (some ⟨wr.heap.size, 0, none⟩) m m)).drew _ (Bk.zk s.length n b8 (k + 1))) := Lib.hid ⟨HPS.out.row, HPS.out.rows, HPS.out.sep⟩
        clear c0 hz hwd hc hk hkn HPk HB HPD HQ0 HDW hwr
        go_upto_region 6 with (fail)
        have d1 := HHS.out _ HBD.out
        have d2 := HHS.out _ HBC.out
        go_region_law (first
          | (go_simp; go_at_call 63; (with_reducible refine (CW2.out _ HSD.out).mono ?_); rintro e w5 ⟨rfl, rfl⟩))
        all_goals
          go_wp2
          go_roundw
          case rel => exact ⟨k + 1, _, HK.out, by simp, HPR.out, HBS.out⟩
          case measure => (have := HK.out; simp [intOf]; omega)
    · obtain rfl : k = n := by omega
      have hkl : ¬ (k : Int) < (k : Int) := by omega
      have HMX := Lib.hid (HPk.out.done (Bk.zk_len ..).symm)
      rw [Bk.zk_done] at HMX
      have HAl : Hid ((Bk.zero s.length k b8).length = k) := Lib.hid (Bk.zero_len ..)
      have HAw := Lib.hid (Bk.zero_wide s.length k b8)
      have HBw := Lib.hid (HB1.out.trans (HB.out.mono HQ.out.2.2))
      have HRw : Hid (Bk.Rdr r b wr s1) := Lib.hid (HR1.out.same (Nat.le_trans (by rw [← HQE.out]; exact Nat.le_refl _) (Nat.le_of_lt HPk.out.lt)) (fun j hj => HB.out.block j (by have := HR1.out.gr; have := HQ.out.1; omega)) (HB.out.block r HQ.out.1) (HB.out.block b HQ.out.2.1))
      generalize Bk.zero s.length k b8 = A0 at HMX HAl HAw HX
      clear hkn hk HPk
      go_wp2_with fail
      clear hkl
      go_loopw [38] (fun i wr2 => ∃ (j : Nat) (A : List Dd.D) (t : Dd.St), j ≤ s.length ∧ i = .int .i64 j ∧ Bk.stD 0 s A0 s1 = Bk.stD j (s.drop j) A t ∧ Bk.Rdr r b wr2 t ∧ Bk.Mx q wr2 R A ∧ A.length = k ∧ Bk.Wide s.length A ∧ Below w0.heap.size w0 wr2) (fun i _ => s.length - (intOf i).toNat)
      case atStart => exact ⟨0, A0, s1, Nat.zero_le _, rfl, rfl, HRw.out, HMX.out, HAl.out, HAw.out, HBw.out⟩
      case round =>
        obtain ⟨j, A, t, hj, rfl, hD, hR, hM, hA, hAw, hB⟩ := hrel
        have HD := Lib.hid hD
        have HR2 := Lib.hid hR
        have HM2 := Lib.hid hM
        have HA := Lib.hid hA
        have HW2 := Lib.hid hAw
        have HB2 := Lib.hid hB
        clear hD hR hM hA hAw hB HRw HMX HBw
        by_cases hjl : j < s.length
        · rcases HSC.out with rfl | ⟨b9, o9, rfl, hbl, hm9, hc9⟩
          · simp at hjl
          · have hx := List.getElem?_eq_getElem hjl
            generalize s[j] = cc at hx
            have c0 := (HB2.out.cell (p := ⟨b9, o9 + j * 2, none⟩) hbl).trans (hc9 j cc hx).1
            have c1 := (HB2.out.cell (p := ⟨b9, o9 + j * 2 + 1, none⟩) hbl).trans (hc9 j cc hx).2
            have dj : (j : Int) < (s.length : Int) := by omega
            have dj0 : (0 : Int) ≤ (j : Int) := by omega
            have dj6 : (j : Int) ≤ 6 := by have := HL.out; omega
            have HN2 := Lib.hid (HD.out.trans (Bk.stD_next hx A t))
            have CC := Lib.hid fun (wz : World) (h1 : Bk.Rdr r b wz t) (h2 : Bk.Mx q wz R A) => Bk.column_c r b q t cc A j s.length R wz h1 h2 (by rw [HA.out]; exact HN.out) HW2.out hjl HL.out.2 HQ.out.1 HQ.out.2.1
            have HSL : Hid ((Bk.stC cc j A t).1.length = k) := Lib.hid ((Bk.stC_len ..).trans HA.out)
            have HSW := Lib.hid (Bk.stC_wide (c := cc) (i := j) (s := t) HW2.out)
            rw [HA.out] at CC
            unfold Bk.Cld Kn.C.val at CC
            generalize Bk.stC cc j A t = Y at CC HN2 HSL HSW
            generalize cc.k = ck at c0 CC
            generalize cc.null = cn at c1 CC
            have HK := Lib.hid hjl
            clear hc9 hm9 hx hjl hj hbl
            go_upto_region 11 with (fail)
            have HBX : Hid (Below wr.heap.size wr (wr.alloc (.cells #[.int .i64 ck, .bool cn] 40))) := Lib.hid ((Below.refl _ _).alloc (Nat.le_refl _) _)
            have x0 := Kn.cell_new wr #[.int .i64 ck, .bool cn] 40 0 _ rfl
            have x1 := Kn.cell_new wr #[.int .i64 ck, .bool cn] 40 1 _ rfl
            simp only [List.getElem_toArray, List.getElem_cons_zero, List.getElem_cons_succ] at x0 x1
            obtain ⟨p, hp⟩ : ∃ p, p = wr.heap.size := ⟨_, rfl⟩
            rw [← hp] at x0 x1 ⊢
            generalize wr.alloc _ = w8 at HBX x0 x1 ⊢
            have cc8 := CC.out w8 (HR2.out.kept HBX.out) (HM2.out.kept HBX.out)
            have HB8 := Lib.hid (HB2.out.trans (HBX.out.mono HB2.out.size))
            clear hp c0 c1
            go_wp2_with fail
            with_reducible refine cc8.mono ?_
            rintro e w9 ⟨rfl, hR9, hM9, hB9⟩
            have HR9 := Lib.hid hR9
            have HM9 := Lib.hid hM9
            have HB9 := Lib.hid (HB8.out.trans (hB9 _ HRB.out.1 HRB.out.2))
            clear cc8 hR9 hM9 hB9 x0 x1
            go_wp2
            go_roundw
            case rel => exact ⟨j + 1, Y.1, Y.2, HK.out, by simp, HN2.out, HR9.out, HM9.out, HSL.out, HSW.out, HB9.out⟩
            case measure => (have := HK.out; simp [intOf]; omega)
        · obtain rfl : j = s.length := by omega
          have dj : ¬ (s.length : Int) < (s.length : Int) := by omega
          have HE := Lib.hid (HX.out.trans (HD.out.trans (Bk.stD_end rfl A t)))
          clear hj hjl
          go_wp2
          go_ret
          exact ⟨q, R, by rw [HE.out]; show _ = Ending.returned (.slice (some ⟨q, 0, none⟩) A.length A.length); rw [HA.out]; rfl, by rw [HE.out]; exact HR2.out, by rw [HE.out]; exact HM2.out, HB2.out⟩
end Go.Proofs.YtfbjmehkipcmbaaGreatDoor

namespace Go.Proofs.YtfbjmehkipcmbaaGreatDoor
open Go.RowKit
open Ty (num txt)
theorem Bk.stG_le (s : Dd.St) : (Bk.stG s).1 ≤ 8 := by
  unfold Bk.stG
  split
  · exact Nat.zero_le _
  · rename_i h
    split
    · simp only; omega
    · exact Nat.zero_le _
theorem Bk.stD_all {w : Nat} : ∀ (cs : List Kn.C) (i : Nat) (A : List Dd.D) (s : Dd.St), Bk.Wide w A → Bk.Zs A → (Bk.stD i cs A s).1.length = A.length ∧ Bk.Wide w (Bk.stD i cs A s).1 ∧ Bk.Zs (Bk.stD i cs A s).1
  | [], _, _, _, h1, h2 => ⟨rfl, h1, h2⟩
  | c :: cs, i, A, s, h1, h2 => by
    obtain ⟨a1, a2, a3⟩ := Bk.stD_all cs (i + 1) (Bk.stC c i A s).1 (Bk.stC c i A s).2 (Bk.stC_wide h1) (Bk.stC_zs h2)
    exact ⟨a1.trans (Bk.stC_len ..), a2, a3⟩
theorem Bk.stR_all (s : List Kn.C) (l : List UInt8) : (Bk.stR s l).1.length ≤ 8 ∧ Bk.Wide s.length (Bk.stR s l).1 ∧ Bk.Zs (Bk.stR s l).1 := by
  obtain ⟨a1, a2, a3⟩ := Bk.stD_all s 0 (Bk.zero s.length (Bk.stG ⟨l, 0, false⟩).1 (Bk.stG ⟨l, 0, false⟩).2.1) (Bk.stG ⟨l, 0, false⟩).2.2 (w := s.length) (Bk.zero_wide s.length (Bk.stG ⟨l, 0, false⟩).1 (Bk.stG ⟨l, 0, false⟩).2.1) (Bk.zero_zs s.length (Bk.stG ⟨l, 0, false⟩).1 (Bk.stG ⟨l, 0, false⟩).2.1)
  refine ⟨?_, a2, a3⟩
  unfold Bk.stR
  rw [a1, Bk.zero_len]
  exact Bk.stG_le _
theorem Bk.rdr_new {w : World} {b : Nat} {l : List UInt8} (hc : Ty.Cur b w l 0) (hT : Ty.Tabs w) (hb : Ty.G ≤ b) (hl : l.length ≤ 140737488351232) : Bk.Rdr w.heap.size b (w.alloc (.cells #[.pointer (some ⟨b, 0, none⟩), .bool false] 63)) ⟨l, 0, false⟩ :=
  ⟨(((Below.refl w.heap.size w).alloc (Nat.le_refl _) _).block b hc.lt).trans hc, heap_alloc_new w _, by have := hc.lt; omega, hT.alloc _, hb, hT.two, hl⟩
set_option maxHeartbeats 8000000 in
set_option maxRecDepth 100000 in
theorem Bk.pread_c (vs : Value) (s : List Kn.C) (t : ByteArray) (w : World) (hT : Ty.Tabs w) (hs : Kn.Cols w vs s) (ht : t.size ≤ 140737488351232) :
    Calls Tryz.prog 13 #[vs, .string t] w (Bk.Got w (Bk.rd s t.data.toList)) := by
  obtain ⟨V, hV⟩ : ∃ V, V = Bk.rd s t.data.toList := ⟨_, rfl⟩
  rw [← hV]
  have HV := Lib.hid hV
  have HT := Lib.hid hT
  have HS := Lib.hid hs
  have cR := Kn.right_c vs s w hs
  have HLN : Hid (t.data.toList.length ≤ 140737488351232) := Lib.hid (by rw [Ty.length_data]; exact ht)
  have CFR := Lib.hid fun (wz : World) (h : Ty.Tabs wz) => Ty.from_f t.data.toList wz h
  rw [Ty.S_data] at CFR
  obtain ⟨sa, sc, rfl, -⟩ := hs
  clear hV hT ht
  cases hr : Kn.right s
  · rw [hr] at cR
    have HE := Lib.hid (HV.out.trans (Bk.rd_k (l := t.data.toList) hr))
    clear hr
    go_enter Tryz.func13, Tryz.ntmps13
    go_wp2_with fail
    with_reducible refine cR.mono ?_
    rintro e w1 ⟨rfl, g1⟩
    have HG := Lib.hid g1
    clear g1
    go_wp2
    go_ret2
    exact Bk.Got.bad HE.out rfl HG.out
  rw [hr] at cR
  obtain ⟨hx1, hx2⟩ := Bk.rd_st hr t.data.toList
  have HLN6 := Lib.hid (Kn.right_len hr)
  obtain ⟨ha1, ha2, ha3⟩ := Bk.stR_all s t.data.toList
  have HX1 := Lib.hid fun h => HV.out.trans (hx1 h)
  have HX2 := Lib.hid fun h1 h2 h3 => HV.out.trans (hx2 h1 h2 h3)
  have HA := Lib.hid (And.intro ha1 (And.intro ha2 ha3))
  have CD := Lib.hid fun (r b : Nat) (wz : World) (h1 : Bk.Rdr r b wz ⟨t.data.toList, 0, false⟩) (h2 : Below w.heap.size w wz) (h3 : w.heap.size ≤ r) (h4 : w.heap.size ≤ b) => Bk.deeds_c r b ⟨t.data.toList, 0, false⟩ (.slice sa s.length sc) s w wz h1 HS.out h2 h3 h4 HLN6.out (Bk.stG_le _)
  have HSTR : Hid (Bk.stD 0 s (Bk.zero s.length (Bk.stG ⟨t.data.toList, 0, false⟩).1 (Bk.stG ⟨t.data.toList, 0, false⟩).2.1) (Bk.stG ⟨t.data.toList, 0, false⟩).2.2 = Bk.stR s t.data.toList) := Lib.hid rfl
  simp only [HSTR.out] at CD
  have HRN := Lib.hid fun (wz : World) (b : Nat) (h1 : Ty.Cur b wz t.data.toList 0) (h2 : Ty.Tabs wz) (h3 : Ty.G ≤ b) => Bk.rdr_new h1 h2 h3 HLN.out
  generalize Bk.stR s t.data.toList = X at HX1 HX2 HA CD
  generalize t.data.toList = l at CFR CD HRN
  obtain ⟨A, u⟩ := X
  unfold Bk.Dsd at CD
  simp only at HX1 HX2 HA CD
  clear hx1 hx2 ha1 ha2 ha3 hr HSTR
  go_enter Tryz.func13, Tryz.ntmps13
  go_wp2_with fail
  with_reducible refine cR.mono ?_
  rintro e w1 ⟨rfl, g1⟩
  have HG1 := Lib.hid g1
  have cfr := CFR.out w1 (HT.out.below g1 HT.out.two)
  clear cR g1
  go_wp2_with fail
  with_reducible refine cfr.mono ?_
  rintro e w2 ⟨rfl, hc2, hT2, g2⟩
  have HB2 := Lib.hid (HG1.out.trans (Ty.below_none g2 HG1.out.size))
  have hbl : w.heap.size ≤ w1.heap.size := HG1.out.size
  have hb2 := hc2.lt
  have hrn := HRN.out w2 w1.heap.size hc2 hT2 (Nat.le_trans HT.out.two hbl)
  clear cfr hc2 hT2 g2
  go_upto_region 4 with (fail)
  obtain ⟨b, hb⟩ : ∃ b, b = w1.heap.size := ⟨_, rfl⟩
  rw [← hb] at hbl hb2 hrn ⊢
  have HB3 : Hid (Below w2.heap.size w2 (w2.alloc (.cells #[.pointer (some ⟨b, 0, none⟩), .bool false] 63))) := Lib.hid ((Below.refl _ _).alloc (Nat.le_refl _) _)
  obtain ⟨r, hr⟩ : ∃ r, r = w2.heap.size := ⟨_, rfl⟩
  rw [← hr] at hrn hb2 ⊢
  generalize w2.alloc _ = w3 at HB3 hrn ⊢
  have HRR := Lib.hid hrn
  have cd := CD.out r b w3 hrn (HB2.out.trans (HB3.out.mono HB2.out.size)) (by rw [hr]; exact HB2.out.size) hbl
  clear hrn hb hr hbl hb2 CD HRN CFR
  go_wp2_with fail
  with_reducible refine cd.mono ?_
  rintro e w4 ⟨q, R, rfl, hR4, hM4, hB4⟩
  have HR4 := Lib.hid hR4
  have HB4 := Lib.hid hB4
  have HDS := Lib.hid (hM4.ds HA.out.1 (fun d hd => by
    have h1 := HA.out.2.1 d hd
    have h2 := HLN6.out.2
    have h3 := HLN6.out.1
    rw [h1]
    unfold Bk.wdt
    split <;> omega))
  have CS := Lib.hid (Bk.psorted_c _ A w4 HDS.out HA.out.2.2)
  have CDN := Lib.hid (Ty.done_c b u.l u.e w4 HR4.out.cur)
  obtain ⟨c0, c1, f0, f1⟩ := Dd.two HR4.out.box
  clear cd hR4 hM4 hB4
  obtain ⟨l4, e4, wr4⟩ := u
  simp only at HX1 HX2 CDN c0 c1
  cases wr4
  rotate_left
  · have HE := Lib.hid (HX1.out (.inl rfl))
    go_wp2
    go_ret2
    exact Bk.Got.bad HE.out rfl HB4.out
  generalize Ty.fin l4 e4 = F at HX1 HX2 CDN
  have HX3 := Lib.hid (HX2.out rfl)
  clear HX2
  by_cases hF : F = 0
  rotate_left
  · have hFb : ((F : Int) != 0) = true := by rw [bne_iff_ne]; omega
    have HE := Lib.hid (HX1.out (.inr (.inl hF)))
    clear hF
    go_wp2_with fail
    with_reducible refine CDN.out.mono ?_
    rintro e w5 ⟨rfl, rfl⟩
    go_wp2
    go_ret2
    exact Bk.Got.bad HE.out rfl HB4.out
  have HX4 := Lib.hid (HX3.out hF)
  clear HX3
  subst hF
  simp only [Int.natCast_zero] at CDN
  cases hso : Bk.sorted A
  · rw [hso] at CS
    have HE := Lib.hid (HX1.out (.inr (.inr hso)))
    clear hso
    go_wp2_with fail
    with_reducible refine CDN.out.mono ?_
    rintro e w5 ⟨rfl, rfl⟩
    go_wp2_with fail
    with_reducible refine CS.out.mono ?_
    rintro e w6 ⟨rfl, g6⟩
    have HB6 := Lib.hid (HB4.out.trans (g6.mono HB4.out.size))
    clear g6
    go_wp2
    go_ret2
    exact Bk.Got.bad HE.out rfl HB6.out
  · rw [hso] at CS
    have HE := Lib.hid (HX4.out hso)
    clear hso
    go_wp2_with fail
    with_reducible refine CDN.out.mono ?_
    rintro e w5 ⟨rfl, rfl⟩
    go_wp2_with fail
    with_reducible refine CS.out.mono ?_
    rintro e w6 ⟨rfl, g6⟩
    have HB6 := Lib.hid (HB4.out.trans (g6.mono HB4.out.size))
    have HD6 := Lib.hid (HDS.out.later g6)
    clear g6
    go_wp2
    go_ret2
    exact Bk.Got.good HE.out HD6.out HB6.out
end Go.Proofs.YtfbjmehkipcmbaaGreatDoor

namespace Go.Proofs.YtfbjmehkipcmbaaGreatDoor
open Go.RowKit
def Bk.T (w : World) : Prop := Ty.Tabs w
theorem Bk.T.below {w w' : World} (h : Bk.T w) (g : Below w.heap.size w w') : Bk.T w' := Ty.Tabs.below h g (Ty.Tabs.two h)
structure Bk.Cs (w : World) (v : Value) (s : List Kn.C) : Prop where
  kn : Kn.Cols w v s
  cap : ∀ a l c, v = .slice a l c → l ≤ c
theorem Bk.Cs.later {w w' : World} {v : Value} {s : List Kn.C} (h : Bk.Cs w v s) (g : Below w.heap.size w w') : Bk.Cs w' v s := ⟨h.kn.later g, h.cap⟩
theorem Bk.write_c (vs v : Value) (s : List Kn.C) (L : List Dd.D) (w : World) (hT : Bk.T w) (hs : Bk.Cs w vs s) (hv : Bk.Ds w v L) (hz : Bk.Zs L) (hi : ∀ d ∈ L, ∀ x ∈ d.row, Ty.I64 x.n) :
    Calls Tryz.prog 9 #[vs, v] w fun e w' => e = .returned (Bk.wV s L) ∧ Below w.heap.size w w' := Bk.pwrite_c vs v s L w hT ⟨hs.kn, hs.cap⟩ hv hz hi
theorem Bk.sorted_c (v : Value) (L : List Dd.D) (w : World) (_ : Bk.T w) (hv : Bk.Ds w v L) (hz : Bk.Zs L) :
    Calls Tryz.prog 11 #[v] w fun e w' => e = .returned (.bool (Bk.sorted L)) ∧ Below w.heap.size w w' := Bk.psorted_c v L w hv hz
theorem Bk.read_c (vs : Value) (s : List Kn.C) (t : ByteArray) (w : World) (hT : Bk.T w) (hs : Bk.Cs w vs s) (ht : t.size ≤ 140737488351232) :
    Calls Tryz.prog 13 #[vs, .string t] w (Bk.Got w (Bk.rd s t.data.toList)) := Bk.pread_c vs s t w hT hs.kn ht
end Go.Proofs.YtfbjmehkipcmbaaGreatDoor

namespace Go.Proofs.YtfbjmehkipcmbaaGreatDoor
open Go.RowKit
theorem Bk.grow {w w' : World} (h : Below w.heap.size w w') {w'' : World} (g : Below w'.heap.size w' w'') : Below w.heap.size w w'' := h.trans (g.mono h.size)
theorem Bk.liveW : Bk.wV [⟨1, false⟩] [⟨true, [Cl.ofN 3]⟩] = .tuple #[.string ⟨#[1, 1, 5, 1, 0, 0, 1, 6]⟩, .int .i64 0] := by kernel_rfl
theorem Bk.liveR : Bk.rd [⟨1, false⟩] [1, 1, 5, 1, 0, 0, 1, 6] = (0, [⟨true, [Cl.ofN 3]⟩]) := by kernel_rfl
theorem Bk.liveS : Bk.sorted [⟨true, [Cl.ofN 3]⟩] = true := by kernel_rfl
theorem Bk.liveZ : Bk.Zs [⟨true, [Cl.ofN 3]⟩] := by
  intro d hd v hv
  simp only [List.mem_singleton] at hd
  subst hd
  simp only [List.mem_singleton] at hv
  subst hv
  unfold Kn.Z Cl.ofN
  decide
theorem Bk.liveC (w : World) : Bk.Cs (w.alloc (.cells #[.int .i64 1, .bool false] 40)) (.slice (some ⟨w.heap.size, 0, none⟩) 1 1) [⟨1, false⟩] := by
  refine ⟨⟨_, 1, rfl, .inr ⟨w.heap.size, 0, rfl, by simp, by simp, fun i x hx => ?_⟩⟩, fun a l c h => by cases h; exact Nat.le_refl _⟩
  have h0 : i = 0 := by
    have := (List.getElem?_eq_some_iff.1 hx).1
    simp at this
    omega
  subst h0
  obtain rfl : (⟨1, false⟩ : Kn.C) = x := by simpa using hx
  exact ⟨Kn.cell_new w _ _ 0 _ rfl, Kn.cell_new w _ _ 1 _ rfl⟩
theorem Bk.liveV (w : World) : Kn.Vals (w.alloc (.cells #[.bool false, .int .i64 3, .string ⟨#[]⟩] 42)) (.slice (some ⟨w.heap.size, 0, none⟩) 1 1) [Cl.ofN 3] := by
  refine ⟨_, 1, rfl, .inr ⟨w.heap.size, 0, rfl, by simp, by simp, fun i x hx => ?_⟩⟩
  have h0 : i = 0 := by
    have := (List.getElem?_eq_some_iff.1 hx).1
    simp at this
    omega
  subst h0
  obtain rfl : Cl.ofN 3 = x := by simpa using hx
  exact ⟨Kn.cell_new w _ _ 0 _ rfl, Kn.cell_new w _ _ 1 _ rfl, Kn.cell_new w _ _ 2 _ rfl⟩
theorem Bk.liveD (w : World) (u : Value) (h : Kn.Vals w u [Cl.ofN 3]) : Bk.Ds (w.alloc (.cells #[.bool true, u] 37)) (.slice (some ⟨w.heap.size, 0, none⟩) 1 1) [⟨true, [Cl.ofN 3]⟩] := by
  refine ⟨_, 1, rfl, Nat.le_refl _, by decide, .inr ⟨w.heap.size, 0, rfl, by simp, fun i x hx => ?_⟩⟩
  have h0 : i = 0 := by
    have := (List.getElem?_eq_some_iff.1 hx).1
    simp at this
    omega
  subst h0
  obtain rfl : (⟨true, [Cl.ofN 3]⟩ : Dd.D) = x := by simpa using hx
  exact ⟨u, Kn.cell_new w _ _ 0 _ rfl, Kn.cell_new w _ _ 1 _ rfl, h.later ((Below.refl _ w).alloc (Nat.le_refl _) _)⟩
set_option maxHeartbeats 4000000 in
set_option maxRecDepth 100000 in
theorem Bk.lives_c (w : World) (hT : Bk.T w) : Calls Tryz.prog 8 #[] w fun e w' => e = .returned (.bool true) ∧ Below w.heap.size w w' := by
  have hg1 : Below w.heap.size w (w.alloc (.cells #[.int .i64 1, .bool false] 40)) := (Below.refl _ w).alloc (Nat.le_refl _) _
  have hC := Bk.liveC w
  have HC := Lib.hid hC
  have HG1 := Lib.hid hg1
  have HT := Lib.hid hT
  clear hC hg1 hT
  go_enter Tryz.func8, Tryz.ntmps8
  go_upto_region 2 with (fail)
  generalize w.alloc _ = w1 at HC HG1 ⊢
  have hV := Bk.liveV w1
  have hg2 : Below w1.heap.size w1 (w1.alloc (.cells #[.bool false, .int .i64 3, .string ⟨#[]⟩] 42)) := (Below.refl _ w1).alloc (Nat.le_refl _) _
  have hD := Bk.liveD _ _ hV
  have hg3 := (Below.refl _ (w1.alloc (.cells #[.bool false, .int .i64 3, .string ⟨#[]⟩] 42))).alloc (Nat.le_refl _) (.cells #[.bool true, .slice (some ⟨w1.heap.size, 0, none⟩) 1 1] 37)
  have HC3 := Lib.hid (HC.out.later (Bk.grow hg2 hg3))
  have HG3 := Lib.hid (Bk.grow HG1.out (Bk.grow hg2 hg3))
  have cW := Bk.write_c _ _ _ _ _ (HT.out.below HG3.out) HC3.out hD Bk.liveZ (by
    intro d hd x hx
    simp only [List.mem_singleton] at hd
    subst hd
    simp only [List.mem_singleton] at hx
    subst hx
    unfold Ty.I64 Cl.ofN
    decide)
  rw [Bk.liveW, World.size_alloc] at cW
  clear hV hg2 hD hg3
  go_wp2_with fail
  with_reducible refine cW.mono ?_
  rintro e w4 ⟨rfl, g4⟩
  have HC4 := Lib.hid (HC3.out.later g4)
  have HG4 := Lib.hid (Bk.grow HG3.out g4)
  have cR := Bk.read_c _ _ ⟨#[1, 1, 5, 1, 0, 0, 1, 6]⟩ _ (HT.out.below HG4.out) HC4.out (by decide)
  rw [show (⟨#[1, 1, 5, 1, 0, 0, 1, 6]⟩ : ByteArray).data.toList = [1, 1, 5, 1, 0, 0, 1, 6] from rfl, Bk.liveR] at cR
  clear cW g4
  go_wp2_with fail
  with_reducible refine cR.mono ?_
  rintro e w5 ⟨v, rfl, hv, g5⟩
  have HG5 := Lib.hid (Bk.grow HG4.out g5)
  have hvv := hv
  obtain ⟨a, c, rfl, _, _, hc⟩ := hvv
  have cS := Bk.sorted_c _ _ _ (HT.out.below HG5.out) hv Bk.liveZ
  rw [Bk.liveS] at cS
  have HCS := Lib.hid cS
  clear cR g5 hv cS
  rcases hc with h | ⟨b, o, rfl, _, hc⟩
  · cases h
  · obtain ⟨u, c0, _, _⟩ := hc 0 _ rfl
    simp only [Nat.zero_mul, Nat.add_zero, List.length_singleton] at c0 HCS ⊢
    clear hc
    go_wp2_with fail
    with_reducible refine HCS.out.mono ?_
    rintro e w6 ⟨rfl, g6⟩
    go_wp2
    go_ret
    exact ⟨rfl, Bk.grow HG5.out g6⟩
end Go.Proofs.YtfbjmehkipcmbaaGreatDoor

namespace Go.Proofs.YtfbjmehkipcmbaaGreatDoor
open Go.RowKit
theorem Bk.fits_len {c : Kn.C} (hg : c.good = true) {v : Kn.V} (h : Kn.fits c v = true) : v.s.size ≤ 64 := by
  rw [Bk.fits_is hg] at h
  cases hv : v.null
  · by_cases hk : c.k = 1
    · rw [Cl.is_num hk h hv]
      exact Nat.zero_le 64
    · have := (Cl.is_str hk h hv).2
      rw [Bt.length_data] at this
      exact this
  · rw [(Cl.is_null h hv).1]
    exact Nat.zero_le 64
theorem Bk.zs_of {s : List Kn.C} {L : List Dd.D} (h : Bk.wE s L = 0) : Bk.Zs L := fun d hd v hv => by
  obtain ⟨hr, _, _, hf, _⟩ := Bk.wE_0 h
  obtain ⟨_, h2, h3⟩ := Dd.fitE_0 (hf d hd)
  obtain ⟨j, hj, rfl⟩ := List.mem_iff_getElem.1 hv
  have hc := List.getElem?_eq_getElem (l := Dd.cols s d.gone) (i := j) (by rw [← h2]; exact hj)
  have := Bk.fits_len (Bk.good_of hr (Bk.cols_at.1 hc).1) (Bk.fitsAll_at _ _ h3 j _ _ hc (List.getElem?_eq_getElem hj))
  unfold Kn.Z
  omega
theorem Bk.wS_size (s : List Kn.C) (L : List Dd.D) : (Ty.S (Bk.wS s L)).size ≤ 140737488351232 := by
  unfold Bk.wS
  split
  · rename_i h
    obtain ⟨hr, h1, h8, hf, _⟩ := Bk.wE_0 h
    have hln := Bk.encC_len (s := s) (L := L) fun j c hc => Bk.enc_le (Bk.col_fit hr h8 hf hc) (Bk.col_le h8 j)
    have := Bk.pre_size (s := s) (L := L) (k := s.length) (by rw [Bk.bools_one h1 h8]; rfl) (hln s.length (Nat.le_refl _)) (Kn.right_len hr).2
    rw [Bk.pre_all] at this
    omega
  · rw [Ty.size_S]; decide
theorem Bk.S_nil : Ty.S [] = ⟨#[]⟩ := rfl
set_option maxHeartbeats 4000000 in
set_option maxRecDepth 100000 in
theorem Bk.lawWrites_w (vs v : Value) (s : List Kn.C) (L : List Dd.D) (w : World) (hT : Bk.T w) (hs : Bk.Cs w vs s) (hv : Bk.Ds w v L) (hz : Bk.Zs L) (hi : ∀ d ∈ L, ∀ x ∈ d.row, Ty.I64 x.n) :
    Calls Tryz.prog 3 #[vs, v] w fun e w' => e = .returned (.bool true) ∧ Below w.heap.size w w' := by
  have CW := Lib.hid fun wz ht h1 h2 => Bk.write_c vs v s L wz ht h1 h2 hz hi
  have CR := Lib.hid fun wz h1 h2 => Bk.rwrite_c vs v s L wz h1 h2 hz hi
  have CS := Lib.hid fun wz ht h => Bk.sorted_c v L wz ht h hz
  have CD := Lib.hid fun wz h => Bk.rsorted_c v L wz h hz
  have HT := Lib.hid hT
  have HS := Lib.hid hs
  have HV := Lib.hid hv
  obtain ⟨a, c, rfl, -⟩ := hv
  obtain ⟨⟨sa, sc, rfl, -⟩, -⟩ := hs
  unfold Bk.wV at CW CR
  generalize Ty.S (Bk.wS s L) = T at CW CR
  generalize Bk.wE s L = E at CW CR
  generalize Bk.sorted L = B at CS CD
  clear hT hz hi
  go_enter Tryz.func3, Tryz.ntmps3
  go_wp2_with fail
  with_reducible refine (Bk.lives_c w HT.out).mono ?_
  rintro e w1 ⟨rfl, g1⟩
  have HG1 := Lib.hid g1
  clear g1
  go_wp2_with fail
  with_reducible refine (CW.out w1 (HT.out.below HG1.out) (HS.out.later HG1.out) (HV.out.later HG1.out)).mono ?_
  rintro e w2 ⟨rfl, g2⟩
  have HG2 := Lib.hid (Bk.grow HG1.out g2)
  clear g2
  go_wp2_with fail
  with_reducible refine (CR.out w2 (HS.out.later HG2.out).kn (HV.out.later HG2.out)).mono ?_
  rintro e w3 ⟨rfl, g3⟩
  have HG3 := Lib.hid (Bk.grow HG2.out g3)
  clear g3
  go_wp2_with fail
  with_reducible refine (CS.out w3 (HT.out.below HG3.out) (HV.out.later HG3.out)).mono ?_
  rintro e w4 ⟨rfl, g4⟩
  have HG4 := Lib.hid (Bk.grow HG3.out g4)
  clear g4
  go_wp2_with fail
  with_reducible refine (CD.out w4 (HV.out.later HG4.out)).mono ?_
  rintro e w5 ⟨rfl, g5⟩
  have HG5 := Lib.hid (Bk.grow HG4.out g5)
  clear g5
  go_wp2
  go_ret
  exact ⟨rfl, HG5.out⟩
set_option maxHeartbeats 4000000 in
set_option maxRecDepth 100000 in
theorem Bk.lawBack_w (vs v : Value) (s : List Kn.C) (L : List Dd.D) (w : World) (hT : Bk.T w) (hs : Bk.Cs w vs s) (hv : Bk.Ds w v L) (hz : Bk.Zs L) (hi : ∀ d ∈ L, ∀ x ∈ d.row, Ty.I64 x.n) :
    Calls Tryz.prog 5 #[vs, v] w fun e w' => e = .returned (.bool true) ∧ Below w.heap.size w w' := by
  have CW := Lib.hid fun wz ht h1 h2 => Bk.write_c vs v s L wz ht h1 h2 hz hi
  have HT := Lib.hid hT
  have HS := Lib.hid hs
  have HV := Lib.hid hv
  obtain ⟨a, c, rfl, -⟩ := hv
  obtain ⟨⟨sa, sc, rfl, -⟩, -⟩ := hs
  clear hT hz
  by_cases hE : Bk.wE s L = 0
  · have hrd := Bk.rd_enc hE hi
    have hsz := Bk.wS_size s L
    have hws : Bk.wS s L = Bk.enc s L := by unfold Bk.wS; rw [if_pos hE]
    rw [hws] at hsz
    rw [Bk.wV_ok hE] at CW
    have CR := Lib.hid fun wz h0 h1 => Bk.read_c (.slice sa s.length sc) s (Ty.S (Bk.enc s L)) wz h0 h1 hsz
    rw [show (Ty.S (Bk.enc s L)).data.toList = Bk.enc s L from rfl, hrd] at CR
    generalize Ty.S (Bk.enc s L) = T at CW CR
    unfold Bk.Got at CR
    simp only [Int.natCast_zero] at CR
    clear hi hE hrd hsz hws
    go_enter Tryz.func5, Tryz.ntmps5
    go_wp2_with fail
    with_reducible refine (Bk.lives_c w HT.out).mono ?_
    rintro e w1 ⟨rfl, g1⟩
    have HG1 := Lib.hid g1
    clear g1
    go_wp2_with fail
    with_reducible refine (CW.out w1 (HT.out.below HG1.out) (HS.out.later HG1.out) (HV.out.later HG1.out)).mono ?_
    rintro e w2 ⟨rfl, g2⟩
    have HG2 := Lib.hid (Bk.grow HG1.out g2)
    clear g2
    go_wp2_with fail
    with_reducible refine (CR.out w2 (HT.out.below HG2.out) (HS.out.later HG2.out)).mono ?_
    rintro e w3 ⟨v3, rfl, hv3, g3⟩
    have HG3 := Lib.hid (Bk.grow HG2.out g3)
    have HV3 := Lib.hid hv3
    obtain ⟨a3, c3, rfl, -⟩ := hv3
    clear g3
    go_wp2_with fail
    with_reducible refine (Bk.rsame_c _ _ L w3 HV3.out (HV.out.later HG3.out)).mono ?_
    rintro e w4 ⟨rfl, g4⟩
    have HG4 := Lib.hid (Bk.grow HG3.out g4)
    clear g4
    go_wp2
    go_ret
    exact ⟨rfl, HG4.out⟩
  · have hEb : (Bk.wE s L != 0) = true := by rw [bne_iff_ne]; exact hE
    rw [Bk.wV_bad rfl hE, Bk.S_nil] at CW
    generalize Bk.wE s L = E at CW hEb
    clear hi hE
    go_enter Tryz.func5, Tryz.ntmps5
    go_wp2_with fail
    with_reducible refine (Bk.lives_c w HT.out).mono ?_
    rintro e w1 ⟨rfl, g1⟩
    have HG1 := Lib.hid g1
    clear g1
    go_wp2_with fail
    with_reducible refine (CW.out w1 (HT.out.below HG1.out) (HS.out.later HG1.out) (HV.out.later HG1.out)).mono ?_
    rintro e w2 ⟨rfl, g2⟩
    have HG2 := Lib.hid (Bk.grow HG1.out g2)
    clear g2
    go_wp2
    go_ret
    exact ⟨rfl, HG2.out⟩
set_option maxHeartbeats 4000000 in
set_option maxRecDepth 100000 in
theorem Bk.lawOnly_w (vs : Value) (s : List Kn.C) (t : ByteArray) (w : World) (hT : Bk.T w) (hs : Bk.Cs w vs s) (ht : t.size ≤ 140737488351232) :
    Calls Tryz.prog 6 #[vs, .string t] w fun e w' => e = .returned (.bool true) ∧ Below w.heap.size w w' := by
  have CR := Lib.hid fun wz h0 h1 => Bk.read_c vs s t wz h0 h1 ht
  have HT := Lib.hid hT
  have HS := Lib.hid hs
  obtain ⟨⟨sa, sc, rfl, -⟩, -⟩ := hs
  clear hT ht
  by_cases hE : (Bk.rd s t.data.toList).1 = 0
  · obtain ⟨h1, h2, h3⟩ := Bk.enc_rd hE
    generalize Bk.rd s t.data.toList = R at CR hE h1 h2 h3
    obtain ⟨E, L⟩ := R
    simp only at hE h1 h2 h3
    subst hE
    have CW := Lib.hid fun v wz h0 h4 h5 => Bk.write_c (.slice sa s.length sc) v s L wz h0 h4 h5 (Bk.zs_of h1) h3
    rw [Bk.wV_ok h1, h2, Ty.S_data] at CW
    unfold Bk.Got at CR
    simp only [Int.natCast_zero] at CR
    clear h1 h2 h3
    go_enter Tryz.func6, Tryz.ntmps6
    go_wp2_with fail
    with_reducible refine (Bk.lives_c w HT.out).mono ?_
    rintro e w1 ⟨rfl, g1⟩
    have HG1 := Lib.hid g1
    clear g1
    go_wp2_with fail
    with_reducible refine (CR.out w1 (HT.out.below HG1.out) (HS.out.later HG1.out)).mono ?_
    rintro e w2 ⟨v2, rfl, hv2, g2⟩
    have HG2 := Lib.hid (Bk.grow HG1.out g2)
    have HV2 := Lib.hid hv2
    obtain ⟨a2, c2, rfl, -⟩ := hv2
    clear g2
    go_wp2_with fail
    with_reducible refine (CW.out _ w2 (HT.out.below HG2.out) (HS.out.later HG2.out) HV2.out).mono ?_
    rintro e w3 ⟨rfl, g3⟩
    have HG3 := Lib.hid (Bk.grow HG2.out g3)
    clear g3
    go_wp2
    go_ret
    exact ⟨rfl, HG3.out⟩
  · have hL := Bk.rd_bad hE
    generalize Bk.rd s t.data.toList = R at CR hE hL
    obtain ⟨E, L⟩ := R
    simp only at hE hL
    subst hL
    have hEb : ((E : Int) != 0) = true := by rw [bne_iff_ne]; omega
    unfold Bk.Got at CR
    simp only at CR
    clear hE
    go_enter Tryz.func6, Tryz.ntmps6
    go_wp2_with fail
    with_reducible refine (Bk.lives_c w HT.out).mono ?_
    rintro e w1 ⟨rfl, g1⟩
    have HG1 := Lib.hid g1
    clear g1
    go_wp2_with fail
    with_reducible refine (CR.out w1 (HT.out.below HG1.out) (HS.out.later HG1.out)).mono ?_
    rintro e w2 ⟨v2, rfl, hv2, g2⟩
    have HG2 := Lib.hid (Bk.grow HG1.out g2)
    obtain ⟨a2, c2, rfl, -⟩ := hv2
    simp only [List.length_nil]
    clear g2
    go_wp2
    go_ret
    exact ⟨rfl, HG2.out⟩
end Go.Proofs.YtfbjmehkipcmbaaGreatDoor

namespace Go.Proofs.YtfbjmehkipcmbaaGreatDoor
open Go.RowKit Go.ChangeShapes Go.WideShapes Go.ChangeAt Go.Deep
section
variable {H : Type} {enc : TypeId × Value → H} {W : World}
set_option maxRecDepth 100000 in
theorem Cl.open_cells {fuel : Nat} {cs : List Value} {z : DataW H × List MemPlace} (h : DataW.trod enc Tryz.prog W 0 (fun _ => true) true fuel 42 cs = some z) :
    ∃ x : Kn.V, cs = [.bool x.null, .int .i64 x.n, .string x.s] ∧ Ty.I64 x.n := by
  obtain ⟨xs, f', _, hx, hcl, hxl, hg⟩ := DataW.trod_struct Tryz.underlying42 h
  have hC : Tryz.prog.cellsOf 42 = 3 := by kernel_rfl
  have i3 : Tryz.prog.cellsOf 4 = 1 := by kernel_rfl
  have i2 : Tryz.prog.cellsOf 2 = 1 := by kernel_rfl
  have i9 : Tryz.prog.cellsOf 9 = 1 := by kernel_rfl
  rw [hC] at hcl
  match cs, hcl, xs, hxl with
  | [c0, c1, c2], _, [y0, y1, y2], _ =>
    have g0 : DataW.trod enc Tryz.prog W 0 (fun _ => true) true f' 4 ((List.drop 0 [c0, c1, c2]).take (Tryz.prog.cellsOf 4)) = some y0 := hg 0 _ rfl
    have g1 : DataW.trod enc Tryz.prog W 0 (fun _ => true) true f' 2 ((List.drop 1 [c0, c1, c2]).take (Tryz.prog.cellsOf 2)) = some y1 := hg 1 _ rfl
    have g2 : DataW.trod enc Tryz.prog W 0 (fun _ => true) true f' 9 ((List.drop 2 [c0, c1, c2]).take (Tryz.prog.cellsOf 9)) = some y2 := hg 2 _ rfl
    rw [i3] at g0
    rw [i2] at g1
    rw [i9] at g2
    obtain ⟨k, e0, r0⟩ := DataW.trod_bool Tryz.underlying4 (show DataW.trod enc Tryz.prog W 0 (fun _ => true) true f' 4 [c0] = some y0 from g0)
    obtain ⟨n, e1, r1, w1⟩ := DataW.trod_int Tryz.underlying2 (show DataW.trod enc Tryz.prog W 0 (fun _ => true) true f' 2 [c1] = some y1 from g1)
    obtain ⟨s, e2, r2, _⟩ := DataW.trod_string Tryz.underlying9 (show DataW.trod enc Tryz.prog W 0 (fun _ => true) true f' 9 [c2] = some y2 from g2)
    simp only [List.cons.injEq, and_true] at e0 e1 e2
    subst e0 e1 e2 r0 r1 r2
    exact ⟨⟨k, n, s⟩, rfl, bounds_i64 w1⟩
end
end Go.Proofs.YtfbjmehkipcmbaaGreatDoor
