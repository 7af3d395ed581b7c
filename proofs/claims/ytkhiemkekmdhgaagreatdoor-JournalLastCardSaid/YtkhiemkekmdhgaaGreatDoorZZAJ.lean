import Derived.Test.YtkhiemkekmdhgaaGreatDoorZZAI
namespace Go.Proofs.YtkhiemkekmdhgaaGreatDoor
section
open Go.RowKit
open Ty (I64)
open Ig (encI)
open Tx (encT)
theorem Dd.S_add (a b : List UInt8) : Ty.S a ++ Ty.S b = Ty.S (a ++ b) := by
 apply ByteArray.ext
 apply Array.toList_inj.1
 rw [ByteArray.data_append, Array.toList_append]
 simp [Ty.S]
def Dd.wS (s : List Kn.C) (d : Dd.D) : List UInt8 := if Dd.fitE s d = 0 then Dd.enc s d else []
def Dd.wV (s : List Kn.C) (d : Dd.D) : Value := .tuple #[.string (Ty.S (Dd.wS s d)), .int .i64 (Dd.fitE s d)]
theorem Dd.wV_bad {s : List Kn.C} {d : Dd.D} (h : Dd.fitE s d ≠ 0) : Dd.wV s d = .tuple #[.string (Ty.S []), .int .i64 (Dd.fitE s d)] := by
 unfold Dd.wV Dd.wS
 rw [if_neg h]
theorem Dd.wV_ok {s : List Kn.C} {d : Dd.D} (h : Dd.fitE s d = 0) : Dd.wV s d = .tuple #[.string (Ty.S (Dd.enc s d)), .int .i64 0] := by
 unfold Dd.wV Dd.wS
 rw [h, if_pos rfl]
def Dd.pre (s : List Kn.C) (g : Bool) (r : List Kn.V) (k : Nat) : List UInt8 := Dd.flag g :: Dd.encR (s.take k) (r.take k)
theorem Dd.pre_step {s : List Kn.C} {g : Bool} {r : List Kn.V} {k : Nat} {c : Kn.C} {v : Kn.V} (hc : s[k]? = some c) (hv : r[k]? = some v) : Dd.pre s g r (k + 1) = Dd.pre s g r k ++ Dd.encV c v := by
 obtain ⟨h1, rfl⟩ := List.getElem?_eq_some_iff.1 hc
 obtain ⟨h2, rfl⟩ := List.getElem?_eq_some_iff.1 hv
 unfold Dd.pre
 rw [List.take_succ_eq_append_getElem h1, List.take_succ_eq_append_getElem h2, Dd.encR_snoc _ _ _ _ (by rw [List.length_take, List.length_take]; omega)]
 rfl
theorem Dd.pre_all {s : List Kn.C} {d : Dd.D} (h : Dd.fitE s d = 0) : Dd.pre s d.gone d.row d.row.length = Dd.enc s d := by
 obtain ⟨_, h2, _⟩ := Dd.fitE_0 h
 unfold Dd.pre Dd.enc
 rw [List.take_length]
 congr 1
 unfold Dd.cols at h2
 obtain ⟨g, r⟩ := d
 cases g
 ·simp only [Bool.false_eq_true, if_false] at h2 ⊢
  rw [h2, List.take_length]
 ·simp only [if_true] at h2 ⊢
  match s, r, h2 with
  | [], [], _ => rfl
  | [], _ :: _, h2 => simp at h2
  | c :: cs, [], h2 => simp at h2
  | c :: cs, [x], _ => simp [Dd.encR]
  | c :: cs, _ :: _ :: _, h2 => simp at h2
theorem Dd.encV_len {c : Kn.C} {v : Kn.V} (h : Kn.fits c v = true) : (Dd.encV c v).length ≤ 80 := by
 unfold Dd.encV
 rw [List.length_append]
 have h1 : (if c.null = true then [Dd.flag v.null] else []).length ≤ 1 := by split <;> simp
 have h2 : (if v.null = true then [] else Dd.encP c v).length ≤ 73 := by
  cases hn : v.null
  ·rw [if_neg (by decide)]
   unfold Dd.encP
   by_cases hk : c.k = 1
   ·rw [if_pos hk]
    have := Ty.encU_len9 (Ty.zig v.n).toNat
    unfold Ig.encI
    omega
   ·rw [if_neg hk]
    have h64 := (Dd.fits_str hk h hn).2
    have := Ty.encU_len9 v.s.data.toList.length
    unfold encT
    rw [List.length_append]
    omega
  ·simp
 omega
theorem Dd.encR_len : ∀ (s : List Kn.C) (r : List Kn.V), Kn.fitsAll s r = true → (Dd.encR s r).length ≤ 80 * r.length
 | [], [], _ => by simp [Dd.encR]
 | [], _ :: _, _ => by simp [Dd.encR]
 | _ :: _, [], _ => by simp [Dd.encR]
 | c :: cs, v :: vs, h => by
   simp only [Kn.fitsAll, Bool.and_eq_true] at h
   have h1 := Dd.encV_len h.1
   have h2 := Dd.encR_len cs vs h.2
   simp only [Dd.encR, List.length_append, List.length_cons]
   omega
theorem Dd.fitsAll_at : ∀ (s : List Kn.C) (r : List Kn.V) (k : Nat) (c : Kn.C) (v : Kn.V), Kn.fitsAll s r = true → s[k]? = some c → r[k]? = some v → Kn.fits c v = true
 | [], _, _, _, _, _, h, _ => by simp at h
 | _ :: _, [], _, _, _, _, _, h => by simp at h
 | a :: s, x :: r, 0, c, v, hf, hc, hv => by
   obtain rfl : a = c := by simpa using hc
   obtain rfl : x = v := by simpa using hv
   simp only [Kn.fitsAll, Bool.and_eq_true] at hf
   exact hf.1
 | a :: s, x :: r, k + 1, c, v, hf, hc, hv => by
   simp only [Kn.fitsAll, Bool.and_eq_true] at hf
   exact Dd.fitsAll_at s r k c v hf.2 (by simpa using hc) (by simpa using hv)
theorem Dd.fitsAll_take : ∀ (s : List Kn.C) (r : List Kn.V) (k : Nat), Kn.fitsAll s r = true → Kn.fitsAll (s.take k) (r.take k) = true
 | [], r, k, _ => by simp [Kn.fitsAll]
 | _ :: _, [], k, _ => by cases k <;> simp [Kn.fitsAll]
 | a :: s, x :: r, 0, _ => by simp [Kn.fitsAll]
 | a :: s, x :: r, k + 1, h => by
   simp only [Kn.fitsAll, Bool.and_eq_true, List.take_succ_cons] at h ⊢
   exact ⟨h.1, Dd.fitsAll_take s r k h.2⟩
theorem Dd.fit_at {s : List Kn.C} {d : Dd.D} (h : Dd.fitE s d = 0) : d.row.length ≤ 6 ∧ d.row.length ≤ s.length ∧ ∀ (k : Nat) (c : Kn.C) (v : Kn.V), s[k]? = some c → d.row[k]? = some v → Kn.fits c v = true := by
 obtain ⟨h1, h2, h3⟩ := Dd.fitE_0 h
 have hl := Kn.right_len h1
 have hc : (Dd.cols s d.gone).length ≤ s.length := by
  unfold Dd.cols
  split
  ·rw [List.length_take]; omega
  ·exact Nat.le_refl _
 refine ⟨by omega, by omega, fun k c v hk hv => ?_⟩
 refine Dd.fitsAll_at _ _ k c v h3 ?_ hv
 have hkl := (List.getElem?_eq_some_iff.1 hv).1
 unfold Dd.cols at h2 ⊢
 split
 ·rename_i hg
  rw [if_pos hg, List.length_take] at h2
  rw [List.getElem?_take_of_lt (by omega)]
  exact hk
 ·exact hk
theorem Dd.pre_len {s : List Kn.C} {d : Dd.D} (h : Dd.fitE s d = 0) {k : Nat} (hk : k ≤ d.row.length) : (Dd.pre s d.gone d.row k).length ≤ 500 := by
 obtain ⟨h1, h2, h3⟩ := Dd.fit_at h
 have hf : Kn.fitsAll (s.take k) (d.row.take k) = true := by
  obtain ⟨_, a2, a3⟩ := Dd.fitE_0 h
  have e : s.take k = (Dd.cols s d.gone).take k := by
   unfold Dd.cols at a2 ⊢
   split
   ·rename_i hg
    rw [if_pos hg, List.length_take] at a2
    rw [List.take_take]
    congr 1
    omega
   ·rfl
  rw [e]
  exact Dd.fitsAll_take _ _ k a3
 have := Dd.encR_len _ _ hf
 unfold Dd.pre
 rw [List.length_cons]
 have hl : (d.row.take k).length ≤ 6 := by rw [List.length_take]; omega
 omega
end
section
open Go.RowKit
open Ty (I64)
open Ig (encI)
open Tx (encT)
theorem Dd.encV_way {c : Kn.C} {v : Kn.V} : Dd.encV c v = (if c.null = true then [Dd.flag v.null] else []) ++ (if v.null = true then [] else Dd.encP c v) := rfl
theorem Dd.encP_num {c : Kn.C} {v : Kn.V} (hk : c.k = 1) : Dd.encP c v = Ty.encU (Ty.zig v.n).toNat := by unfold Dd.encP; rw [if_pos hk]; rfl
theorem Dd.encP_str {c : Kn.C} {v : Kn.V} (hk : c.k ≠ 1) : Dd.encP c v = Ty.encU v.s.size ++ v.s.data.toList := by unfold Dd.encP encT; rw [if_neg hk, Ty.length_data]
set_option maxHeartbeats 4000000 in
set_option maxRecDepth 100000 in
theorem Dd.rwrite_c (v u : Value) (s : List Kn.C) (d : Dd.D) (w : World) (hs : Kn.Cols w v s) (hu : Kn.Vals w u d.row) (hi : ∀ x ∈ d.row, I64 x.n) :
 Calls Tryz.prog 27 #[v, .agg #[.bool d.gone, u]] w fun e w' => e = .returned (Dd.wV s d) ∧ Below w.heap.size w w' := by
 have HS := Lib.hid hs
 have HU := Lib.hid hu
 have HI := Lib.hid hi
 have CF := Lib.hid fun wz h1 h2 => Dd.rFits_c v u s d wz h1 h2
 have HB0 : Hid (Below w.heap.size w (w.alloc (.cells #[.bool d.gone, u] 26))) := Lib.hid ((Below.refl _ _).alloc (Nat.le_refl _) _)
 have HX0 := Lib.hid (Kn.cell_new w #[.bool d.gone, u] 26 0 _ rfl)
 have HX1 := Lib.hid (Kn.cell_new w #[.bool d.gone, u] 26 1 _ rfl)
 simp only [List.getElem_toArray, List.getElem_cons_zero, List.getElem_cons_succ] at HX0 HX1
 have hsz : (w.alloc (.cells #[.bool d.gone, u] 26)).heap.size = w.heap.size + 1 := World.size_alloc ..
 obtain ⟨V, hV⟩ : ∃ V, V = Dd.wV s d := ⟨_, rfl⟩
 rw [← hV]
 have HV := Lib.hid hV
 clear hV hs hu hi
 by_cases hE : Dd.fitE s d = 0
 ·have HE := Lib.hid (HV.out.trans (Dd.wV_ok hE))
  have FA := Lib.hid (Dd.fit_at hE)
  have PL : Hid (∀ k, k ≤ d.row.length → (Ty.S (Dd.pre s d.gone d.row k)).size ≤ 500) := Lib.hid fun k hk => Dd.pre_len hE hk
  have PA := Lib.hid (Dd.pre_all hE)
  rw [hE] at CF
  have hrl6 : d.row.length ≤ 6 := FA.out.1
  have FLG := Lib.hid fun b wz => Dd.rflag_c b wz
  obtain ⟨au, cu, rfl, h⟩ := HU.out.is
  have HUH := Lib.hid h
  obtain ⟨as_, cs, rfl, h2⟩ := HS.out.is
  have HSH := Lib.hid h2
  clear hE h h2
  go_enter Tryz.func27, Tryz.ntmps27
  go_wp2_with fail
  generalize hwo : w.alloc _ = wo at hsz HX0 HX1 HB0 ⊢
  clear hwo
  with_reducible refine (CF.out wo (HS.out.later HB0.out) (HU.out.later HB0.out)).mono ?_
  rintro e w1 ⟨rfl, g1⟩
  have HB1 := Lib.hid (HB0.out.trans (g1.mono HB0.out.size))
  have x0 := (g1.cell (p := ⟨w.heap.size, 0, none⟩) (by simp [hsz])).trans HX0.out
  have x1 := (g1.cell (p := ⟨w.heap.size, 1, none⟩) (by simp [hsz])).trans HX1.out
  have hs1 : w.heap.size < w1.heap.size := by have := g1.size; omega
  have HX11 := Lib.hid x1
  clear g1 CF
  go_wp2_with fail
  with_reducible refine (FLG.out d.gone _).mono ?_
  rintro e w2 ⟨rfl, h2⟩
  subst w2
  clear x0 x1
  go_wp2_with fail
  go_loopw [7, 8] (fun ov i wr => ∃ k : Nat, k ≤ d.row.length ∧ i = .int .i64 k ∧ ov = .string (Ty.S (Dd.pre s d.gone d.row k)) ∧ Below w1.heap.size w1 wr) (fun _ i _ => d.row.length - (intOf i).toNat)
  case atStart => exact ⟨0, by omega, rfl, rfl, Below.refl _ _⟩
  case round =>
   obtain ⟨k, hk, rfl, rfl, hBk⟩ := hrel
   have HB := Lib.hid hBk
   have hws := hBk.size
   have HBW := Lib.hid (HB1.out.trans (hBk.mono HB1.out.size))
   have x1 := (hBk.cell (p := ⟨w.heap.size, 1, none⟩) hs1).trans HX11.out
   clear hBk
   have hk0 : (0 : Int) ≤ (k : Int) := by omega
   have hP := PL.out k hk
   by_cases hl : k < d.row.length
   ·have hsl : k < s.length := by have := FA.out.2.1; omega
    rcases HUH.out with h | ⟨b, o, rfl, hbl, hm, h⟩
    ·exact absurd hl (by rw [h]; simp)
    ·rcases HSH.out with h2 | ⟨b2, o2, rfl, hbl2, hm2, h2⟩
     ·exact absurd hsl (by rw [h2]; simp)
     ·obtain ⟨x, hx⟩ : ∃ x, d.row[k]? = some x := ⟨_, List.getElem?_eq_getElem hl⟩
      obtain ⟨c, hc⟩ : ∃ c, s[k]? = some c := ⟨_, List.getElem?_eq_getElem hsl⟩
      have hfx := FA.out.2.2 k c x hc hx
      have hA := (h k x hx).later HBW.out
      have hC := h2 k c hc
      obtain ⟨a0, a1, a2⟩ := hA
      have e0 := (HBW.out.cell (p := ⟨b2, o2 + k * 2, none⟩) hbl2).trans hC.1
      have e1 := (HBW.out.cell (p := ⟨b2, o2 + k * 2 + 1, none⟩) hbl2).trans hC.2
      have hbw : b2 < wr.heap.size := by have := HBW.out.size; omega
      have hkl : (k : Int) < (d.row.length : Int) := by omega
      have hks : (k : Int) < (s.length : Int) := by omega
      have HST := Lib.hid (Dd.pre_step (g := d.gone) hc hx)
      have HXI : Hid (I64 x.n) := Lib.hid (HI.out x (List.mem_of_getElem? hx))
      have h9 : (Ty.S (Ty.encU (Ty.zig x.n).toNat)).size ≤ 9 := Ty.encU_len9 _
      have h19 : ∀ b, (Ty.S [Dd.flag b]).size = 1 := fun _ => rfl
      have HNX : Hid (Kn.fits c x = true) := Lib.hid hfx
      have hx64 : c.k ≠ 1 → x.null = false → x.s.size ≤ 64 := fun hk hn => by
       have := (Dd.fits_str hk HNX.out hn).2
       rwa [Ty.length_data] at this
      have h73 : c.k ≠ 1 → x.null = false → (Ty.S (Ty.encU x.s.size ++ x.s.data.toList)).size ≤ 73 := fun hk hn => by
       have h1 := hx64 hk hn
       have h2 := Ty.encU_len9 x.s.size
       rw [Ty.size_S, List.length_append, Ty.length_data]
       omega
      have hk1 : (((c.k == 1) = true) ∧ c.k = 1) ∨ ((c.k == 1) = false ∧ c.k ≠ 1) := by
       by_cases h : c.k = 1
       ·left; exact ⟨by rw [h]; rfl, h⟩
       ·right; exact ⟨by rw [beq_eq_false_iff_ne]; exact h, h⟩
      clear h h2 hx hc hC hfx hm hm2
      generalize hpk : Dd.pre s d.gone d.row k = pk at HST hP ⊢
      clear hpk
      obtain ⟨P, hPP⟩ : ∃ P, P = Ty.S pk := ⟨_, rfl⟩
      rw [← hPP] at hP ⊢
      have HPP := Lib.hid hPP
      clear hPP
      cases hcn : c.null
      ·have hn : x.null = false := by
        cases hn : x.null
        ·rfl
        ·rw [(Dd.fits_null HNX.out hn).2] at hcn; cases hcn
       rw [hcn] at e1
       rw [hn] at a0
       rcases hk1 with ⟨hk1, hk2⟩ | ⟨hk1, hk2⟩
       ·have HEV : Hid (Ty.S (Dd.pre s d.gone d.row (k + 1)) = P ++ Ty.S (Ty.encU (Ty.zig x.n).toNat)) := Lib.hid (by rw [HST.out, HPP.out, Dd.S_add, Dd.encV_way, hcn, hn]; simp only [Bool.false_eq_true, if_false, List.nil_append]; rw [Dd.encP_num hk2])
        have cw := fun wz => Ty.rint_c x.n wz HXI.out
        obtain ⟨A, hA⟩ : ∃ A, A = Ty.S (Ty.encU (Ty.zig x.n).toNat) := ⟨_, rfl⟩
        unfold Ty.Str at cw
        rw [← hA] at h9 HEV cw
        have hA9 : A.size ≤ 73 := by omega
        have n1 : ¬ 9223372036854775807 < P.size + A.size := by omega
        clear hA
        clear hcn hn h9 h19 hx64 h73 hk2
        go_wp2_with fail
        with_reducible refine (cw _).mono ?_
        rintro e w4 ⟨rfl, g4⟩
        have HB4 := Lib.hid ((HB.out.alloc hws _).trans (g4.mono (Nat.le_trans hws (by rw [World.size_alloc]; omega))))
        clear cw g4
        go_wp2
        go_roundw
        case rel => exact ⟨k + 1, by omega, by simp, by rw [HEV.out], HB4.out⟩
        case measure => simp [intOf]; omega
       ·have HEV : Hid (Ty.S (Dd.pre s d.gone d.row (k + 1)) = P ++ Ty.S (Ty.encU x.s.size ++ x.s.data.toList)) := Lib.hid (by rw [HST.out, HPP.out, Dd.S_add, Dd.encV_way, hcn, hn]; simp only [Bool.false_eq_true, if_false, List.nil_append]; rw [Dd.encP_str hk2])
        have cw := fun wz => Ty.rtext_c x.s (by have := hx64 hk2 hn; omega) wz
        have hA9 := h73 hk2 hn
        obtain ⟨A, hA⟩ : ∃ A, A = Ty.S (Ty.encU x.s.size ++ x.s.data.toList) := ⟨_, rfl⟩
        unfold Ty.Str at cw
        rw [← hA] at hA9 HEV cw
        have n1 : ¬ 9223372036854775807 < P.size + A.size := by omega
        clear hA
        clear hcn hn h9 h19 hx64 h73 hk2
        go_wp2_with fail
        with_reducible refine (cw _).mono ?_
        rintro e w4 ⟨rfl, g4⟩
        have HB4 := Lib.hid ((HB.out.alloc hws _).trans (g4.mono (Nat.le_trans hws (by rw [World.size_alloc]; omega))))
        clear cw g4
        go_wp2
        go_roundw
        case rel => exact ⟨k + 1, by omega, by simp, by rw [HEV.out], HB4.out⟩
        case measure => simp [intOf]; omega
      ·rw [hcn] at e1
       cases hn : x.null
       ·rw [hn] at a0
        rcases hk1 with ⟨hk1, hk2⟩ | ⟨hk1, hk2⟩
        ·have HEV : Hid (Ty.S (Dd.pre s d.gone d.row (k + 1)) = P ++ Ty.S [Dd.flag false] ++ Ty.S (Ty.encU (Ty.zig x.n).toNat)) := Lib.hid (by rw [HST.out, HPP.out, Dd.S_add, Dd.S_add, Dd.encV_way, hcn, hn]; simp only [Bool.false_eq_true, if_false, if_true, List.append_assoc]; rw [Dd.encP_num hk2])
         have n0 : ¬ 9223372036854775807 < P.size + (Ty.S [Dd.flag false]).size := by rw [h19]; omega
         have hP1 : (P ++ Ty.S [Dd.flag false]).size ≤ 501 := by rw [ByteArray.size_append, h19]; omega
         obtain ⟨F, hF⟩ : ∃ F, F = Ty.S [Dd.flag false] := ⟨_, rfl⟩
         rw [← hF] at n0 hP1 HEV
         have cf := fun wz => FLG.out false wz
         rw [← hF] at cf
         have cw := fun wz => Ty.rint_c x.n wz HXI.out
         obtain ⟨A, hA⟩ : ∃ A, A = Ty.S (Ty.encU (Ty.zig x.n).toNat) := ⟨_, rfl⟩
         unfold Ty.Str at cw
         rw [← hA] at h9 HEV cw
         have hA9 : A.size ≤ 73 := by omega
         have n1 : ¬ 9223372036854775807 < (P ++ F).size + A.size := by omega
         obtain ⟨Q, hQ⟩ : ∃ Q, Q = P ++ F := ⟨_, rfl⟩
         have n2 : ¬ 9223372036854775807 < P.size + F.size + A.size := by rw [ByteArray.size_append] at n1; exact n1
         clear hQ Q
         clear hA
         clear hcn hn h9 h19 hx64 h73 hk2 hF
         go_wp2_with fail
         with_reducible refine (cf _).mono ?_
         rintro e w3 ⟨rfl, h3⟩
         subst w3
         clear cf
         go_wp2_with fail
         with_reducible refine (cw _).mono ?_
         rintro e w4 ⟨rfl, g4⟩
         have HB4 := Lib.hid ((HB.out.alloc hws _).trans (g4.mono (Nat.le_trans hws (by rw [World.size_alloc]; omega))))
         clear cw g4
         go_wp2
         go_roundw
         case rel => exact ⟨k + 1, by omega, by simp, by rw [HEV.out], HB4.out⟩
         case measure => simp [intOf]; omega
        ·have HEV : Hid (Ty.S (Dd.pre s d.gone d.row (k + 1)) = P ++ Ty.S [Dd.flag false] ++ Ty.S (Ty.encU x.s.size ++ x.s.data.toList)) := Lib.hid (by rw [HST.out, HPP.out, Dd.S_add, Dd.S_add, Dd.encV_way, hcn, hn]; simp only [Bool.false_eq_true, if_false, if_true, List.append_assoc]; rw [Dd.encP_str hk2])
         have n0 : ¬ 9223372036854775807 < P.size + (Ty.S [Dd.flag false]).size := by rw [h19]; omega
         have hP1 : (P ++ Ty.S [Dd.flag false]).size ≤ 501 := by rw [ByteArray.size_append, h19]; omega
         obtain ⟨F, hF⟩ : ∃ F, F = Ty.S [Dd.flag false] := ⟨_, rfl⟩
         rw [← hF] at n0 hP1 HEV
         have cf := fun wz => FLG.out false wz
         rw [← hF] at cf
         have cw := fun wz => Ty.rtext_c x.s (by have := hx64 hk2 hn; omega) wz
         have hA9 := h73 hk2 hn
         obtain ⟨A, hA⟩ : ∃ A, A = Ty.S (Ty.encU x.s.size ++ x.s.data.toList) := ⟨_, rfl⟩
         unfold Ty.Str at cw
         rw [← hA] at hA9 HEV cw
         have n1 : ¬ 9223372036854775807 < (P ++ F).size + A.size := by omega
         obtain ⟨Q, hQ⟩ : ∃ Q, Q = P ++ F := ⟨_, rfl⟩
         have n2 : ¬ 9223372036854775807 < P.size + F.size + A.size := by rw [ByteArray.size_append] at n1; exact n1
         clear hQ Q
         clear hA
         clear hcn hn h9 h19 hx64 h73 hk2 hF
         go_wp2_with fail
         with_reducible refine (cf _).mono ?_
         rintro e w3 ⟨rfl, h3⟩
         subst w3
         clear cf
         go_wp2_with fail
         with_reducible refine (cw _).mono ?_
         rintro e w4 ⟨rfl, g4⟩
         have HB4 := Lib.hid ((HB.out.alloc hws _).trans (g4.mono (Nat.le_trans hws (by rw [World.size_alloc]; omega))))
         clear cw g4
         go_wp2
         go_roundw
         case rel => exact ⟨k + 1, by omega, by simp, by rw [HEV.out], HB4.out⟩
         case measure => simp [intOf]; omega
       ·rw [hn] at a0
        have HEV : Hid (Ty.S (Dd.pre s d.gone d.row (k + 1)) = P ++ Ty.S [Dd.flag true]) := Lib.hid (by rw [HST.out, HPP.out, Dd.S_add, Dd.encV_way, hcn, hn]; simp)
        have n0 : ¬ 9223372036854775807 < P.size + (Ty.S [Dd.flag true]).size := by rw [h19]; omega
        have hP1 : (P ++ Ty.S [Dd.flag true]).size ≤ 501 := by rw [ByteArray.size_append, h19]; omega
        obtain ⟨F, hF⟩ : ∃ F, F = Ty.S [Dd.flag true] := ⟨_, rfl⟩
        rw [← hF] at n0 hP1 HEV
        have cf := fun wz => FLG.out true wz
        rw [← hF] at cf
        clear hcn hn h9 h19 hx64 h73 hk1 hF
        go_wp2_with fail
        with_reducible refine (cf _).mono ?_
        rintro e w3 ⟨rfl, h3⟩
        subst w3
        clear cf
        go_wp2
        go_roundw
        case rel => exact ⟨k + 1, by omega, by simp, by rw [HEV.out], HB.out.alloc hws _⟩
        case measure => simp [intOf]; omega
   ·obtain rfl : k = d.row.length := by omega
    have hkl : ¬ (d.row.length : Int) < (d.row.length : Int) := by omega
    go_wp2
    go_ret2
    exact ⟨by rw [HE.out, ← PA.out]; rfl, HBW.out⟩
 ·have HE := Lib.hid (HV.out.trans (Dd.wV_bad hE))
  have hEb : (Dd.fitE s d != 0) = true := by rw [bne_iff_ne]; exact hE
  generalize Dd.fitE s d = E at CF HE hEb
  clear hE
  go_enter Tryz.func27, Tryz.ntmps27
  go_wp2_with fail
  generalize hwo : w.alloc _ = wo at hsz HX0 HX1 HB0 ⊢
  clear hwo
  with_reducible refine (CF.out wo (HS.out.later HB0.out) (HU.out.later HB0.out)).mono ?_
  rintro e w1 ⟨rfl, g1⟩
  have HB1 := Lib.hid (HB0.out.trans (g1.mono HB0.out.size))
  clear g1 CF
  go_wp2
  go_ret2
  exact ⟨by rw [HE.out]; rfl, HB1.out⟩
end
section
open Go.RowKit
open Ty (num txt)
def Dd.MidR (cs : List Kn.C) (l : List UInt8) (k : Nat) (M : List Kn.V) (l2 : List UInt8) : Prop :=
 M.length = k ∧ k ≤ cs.length ∧ Dd.rdR cs l = ((Dd.rdR (cs.drop k) l2).1, M ++ (Dd.rdR (cs.drop k) l2).2.1, (Dd.rdR (cs.drop k) l2).2.2)
theorem Dd.MidR.start (cs : List Kn.C) (l : List UInt8) : Dd.MidR cs l 0 [] l := ⟨rfl, Nat.zero_le _, rfl⟩
theorem Dd.MidR.fail {cs : List Kn.C} {l : List UInt8} {k : Nat} {M : List Kn.V} {l2 : List UInt8} (h : Dd.MidR cs l k M l2) {c : Kn.C} (hc : cs[k]? = some c) (hq : (Dd.rdV c l2).1 ≠ 0) : (Dd.rdR cs l).1 = (Dd.rdV c l2).1 := by
 obtain ⟨_, _, h3⟩ := h
 obtain ⟨h1, rfl⟩ := List.getElem?_eq_some_iff.1 hc
 rw [h3, List.drop_eq_getElem_cons h1]
 simp only [Dd.rdR]
 rw [if_pos hq]
theorem Dd.MidR.next {cs : List Kn.C} {l : List UInt8} {k : Nat} {M : List Kn.V} {l2 : List UInt8} (h : Dd.MidR cs l k M l2) {c : Kn.C} (hc : cs[k]? = some c) (hq : (Dd.rdV c l2).1 = 0) : Dd.MidR cs l (k + 1) (M ++ [(Dd.rdV c l2).2.1]) (Dd.rdV c l2).2.2 := by
 obtain ⟨a1, _, h3⟩ := h
 obtain ⟨h1, rfl⟩ := List.getElem?_eq_some_iff.1 hc
 refine ⟨by rw [List.length_append, a1]; rfl, h1, ?_⟩
 rw [h3, List.drop_eq_getElem_cons h1]
 simp only [Dd.rdR]
 rw [if_neg (by rw [hq]; simp)]
 simp only [List.append_assoc, List.singleton_append]
theorem Dd.MidR.done {cs : List Kn.C} {l : List UInt8} {k : Nat} {M : List Kn.V} {l2 : List UInt8} (h : Dd.MidR cs l k M l2) (hk : k = cs.length) : Dd.rdR cs l = (0, M, l2) := by
 obtain ⟨_, _, h3⟩ := h
 rw [h3, hk, List.drop_length]
 simp [Dd.rdR]
theorem Dd.rd_k {s : List Kn.C} {l : List UInt8} (h : Kn.right s = false) : Dd.rd s l = (4, ⟨false, []⟩) := by unfold Dd.rd; rw [if_pos h]
theorem Dd.rd_f {s : List Kn.C} {l : List UInt8} (h : Kn.right s = true) (h1 : (Dd.rdF l).1 ≠ 0) : Dd.rd s l = ((Dd.rdF l).1, ⟨false, []⟩) := by unfold Dd.rd; rw [if_neg (by rw [h]; decide), if_pos h1]
theorem Dd.rd_r {s : List Kn.C} {l : List UInt8} (h : Kn.right s = true) (h1 : (Dd.rdF l).1 = 0) {q : Nat} (h2 : (Dd.rdR (Dd.cols s (Dd.rdF l).2.1) (Dd.rdF l).2.2).1 = q) (hq : q ≠ 0) : Dd.rd s l = (q, ⟨false, []⟩) := by
 unfold Dd.rd; rw [if_neg (by rw [h]; decide), if_neg (by rw [h1]; simp), h2, if_pos hq]
theorem Dd.rd_5 {s : List Kn.C} {l : List UInt8} (h : Kn.right s = true) (h1 : (Dd.rdF l).1 = 0) {M : List Kn.V} {l2 : List UInt8} (h2 : Dd.rdR (Dd.cols s (Dd.rdF l).2.1) (Dd.rdF l).2.2 = (0, M, l2)) (h3 : l2 ≠ []) : Dd.rd s l = (5, ⟨false, []⟩) := by
 unfold Dd.rd; rw [if_neg (by rw [h]; decide), if_neg (by rw [h1]; simp), h2, if_neg (by simp), if_pos h3]
theorem Dd.rd_0 {s : List Kn.C} {l : List UInt8} (h : Kn.right s = true) (h1 : (Dd.rdF l).1 = 0) {M : List Kn.V} {l2 : List UInt8} (h2 : Dd.rdR (Dd.cols s (Dd.rdF l).2.1) (Dd.rdF l).2.2 = (0, M, l2)) (h3 : l2 = []) : Dd.rd s l = (0, ⟨(Dd.rdF l).2.1, M⟩) := by
 unfold Dd.rd; rw [if_neg (by rw [h]; decide), if_neg (by rw [h1]; simp), h2, if_neg (by simp), if_neg (by simp [h3])]
def Dd.Fresh (B : Nat) (v : Value) : Prop := ∀ k, v.ownBlock = some k → B ≤ k
theorem Dd.Fresh.nil (B : Nat) : Dd.Fresh B (.slice none 0 0) := fun k h => by cases h
theorem Dd.Fresh.mono {B B' : Nat} {v : Value} (h : Dd.Fresh B v) (hb : B' ≤ B) : Dd.Fresh B' v := fun k hk => Nat.le_trans hb (h k hk)
theorem Dd.vals_put {w : World} {v : Value} {L : List Kn.V} {B q i : Nat} (h : Kn.Vals w v L) (hf : Dd.Fresh B v) (hq : q < B) (x : Value) : Kn.Vals (w.setCell ⟨q, i, none⟩ x) v L := by
 obtain ⟨a, c, rfl, h⟩ := h
 refine ⟨a, c, rfl, ?_⟩
 rcases h with h | ⟨b, o, rfl, hlt, hm, h⟩
 ·exact .inl h
 ·have hb : B ≤ b := hf b rfl
  have hne : ∀ j, (w.setCell ⟨q, i, none⟩ x).cell? ⟨b, j, none⟩ = w.cell? ⟨b, j, none⟩ := fun j => World.cell?_of_block (a := ⟨b, j, none⟩) (Below.heap_setCell _ _ _ _ (by show b ≠ q; omega))
  refine .inr ⟨b, o, rfl, by simpa [World.setCell] using hlt, hm, fun j y hy => ?_⟩
  have hA := h j y hy
  exact ⟨(hne _).trans hA.c0, (hne _).trans hA.c1, (hne _).trans hA.c2⟩
def Dd.Got (w : World) (r : Nat × Dd.D) (e : Ending) (w' : World) : Prop :=
 ∃ u, e = .returned (.tuple #[.agg #[.bool r.2.gone, u], .int .i64 ((r.1 : Nat) : Int)]) ∧ Kn.Vals w' u r.2.row ∧ Dd.Fresh w.heap.size u ∧ Below w.heap.size w w'
theorem Dd.Got.bad {w w' : World} {r : Nat × Dd.D} {z : Int} {q : Nat} (hr : r = (q, ⟨false, []⟩)) (hz : z = (q : Int)) (g : Below w.heap.size w w') : Dd.Got w r (.returned (.tuple #[.agg #[.bool false, .slice none 0 0], .int .i64 z])) w' :=
 ⟨_, by rw [hr, hz], by rw [hr]; exact ⟨_, 0, rfl, .inl rfl⟩, Dd.Fresh.nil _, g⟩
theorem Dd.Got.good {w w' : World} {r : Nat × Dd.D} {u : Value} {B : Bool} {L : List Kn.V} (hr : r = (0, ⟨B, L⟩)) (h : Kn.Vals w' u L) (hf : Dd.Fresh w.heap.size u) (g : Below w.heap.size w w') : Dd.Got w r (.returned (.tuple #[.agg #[.bool B, u], .int .i64 0])) w' :=
 ⟨u, by rw [hr]; rfl, by rw [hr]; exact h, hf, g⟩
theorem Dd.two {w : World} {q : Nat} {x y : Value} {t : TypeId} (h : w.heap[q]? = some (.cells #[x, y] t (0, 0))) : w.cell? ⟨q, 0, none⟩ = some x ∧ w.cell? ⟨q, 1, none⟩ = some y ∧ w.frozen? ⟨q, 0, none⟩ = false ∧ w.frozen? ⟨q, 1, none⟩ = false := by
 refine ⟨?_, ?_, ?_, ?_⟩ <;> simp [World.cell?, World.frozen?, h]
theorem Dd.below2 {w w' : World} {B q : Nat} (h : Below B w w') (hq : B ≤ q) (x y : Value) : Below B w ((w'.setCell ⟨q, 0, none⟩ x).setCell ⟨q, 1, none⟩ y) := Cl.below_cell (Cl.below_cell h hq x) hq y
set_option maxHeartbeats 4000000 in
set_option maxRecDepth 100000 in
theorem Dd.rread_c (v : Value) (s : List Kn.C) (t : ByteArray) (w : World) (hs : Kn.Cols w v s) (ht : t.size ≤ 140737488351232) :
 Calls Tryz.prog 24 #[v, .string t] w (Dd.Got w (Dd.rd s t.data.toList)) := by
 have HS := Lib.hid hs
 have HB0 : Hid (Below w.heap.size w (w.alloc (.cells #[.bool false, .slice none 0 0] 26))) := Lib.hid ((Below.refl _ _).alloc (Nat.le_refl _) _)
 have HY0 : Hid ((w.alloc (.cells #[.bool false, .slice none 0 0] 26)).heap[w.heap.size]? = some (.cells #[.bool false, .slice none 0 0] 26 (0, 0))) := Lib.hid (heap_alloc_new w _)
 have hsz : (w.alloc (.cells #[.bool false, .slice none 0 0] 26)).heap.size = w.heap.size + 1 := World.size_alloc ..
 obtain ⟨R, hR⟩ : ∃ R, R = Dd.rd s t.data.toList := ⟨_, rfl⟩
 rw [← hR]
 have HRR := Lib.hid hR
 have CR := Lib.hid fun wz h => Kn.rRight_c v s wz h
 clear hR hs
 cases hrt : Kn.right s
 ·rw [hrt] at CR
  have HE := Lib.hid (HRR.out.trans (Dd.rd_k hrt))
  clear hrt
  go_enter Tryz.func24, Tryz.ntmps24
  go_wp2_with fail
  generalize hwo : w.alloc _ = wo at hsz HY0 HB0 ⊢
  clear hwo
  with_reducible refine (CR.out wo (HS.out.later HB0.out)).mono ?_
  rintro e w1 ⟨rfl, h1⟩
  subst w1
  obtain ⟨y0, y1, z0, z1⟩ := Dd.two HY0.out
  go_wp2
  have HBE := Lib.hid (Dd.below2 (q := w.heap.size) HB0.out (Nat.le_refl _) (.bool false) (.slice none 0 0))
  (try simp only [Exit.inBlock, Exit.then])
  refine bodyPost_ret (v := .tuple #[.agg #[.bool false, .slice none 0 0], .int .i64 4]) ?_ rfl (Dd.Got.bad HE.out rfl HBE.out)
  rw [results_cell_tmp rfl]
  go_simp
 ·rw [hrt] at CR
  have HRT := Lib.hid hrt
  have hsl := Kn.right_len hrt
  have G1 := Lib.hid fun h1 => HRR.out.trans (Dd.rd_f HRT.out h1)
  have G2 := Lib.hid fun h1 (q : Nat) h2 hq => HRR.out.trans (Dd.rd_r HRT.out h1 (q := q) h2 hq)
  have G3 := Lib.hid fun h1 (M : List Kn.V) (l2 : List UInt8) h2 h3 => HRR.out.trans (Dd.rd_5 HRT.out h1 (M := M) (l2 := l2) h2 h3)
  have G4 := Lib.hid fun h1 (M : List Kn.V) (l2 : List UInt8) h2 h3 => HRR.out.trans (Dd.rd_0 HRT.out h1 (M := M) (l2 := l2) h2 h3)
  have HBAD : Hid ((Dd.rdF t.data.toList).1 ≠ 0 → (Dd.rdF t.data.toList).2.1 = false) := Lib.hid fun h => by
   generalize t.data.toList = l at h ⊢
   cases l with
   | nil => rfl
   | cons b r =>
     simp only [Dd.rdF] at h ⊢
     by_cases h1 : 1 < b.toNat
     ·rw [if_pos h1]
     ·rw [if_neg h1] at h; exact absurd rfl h
  clear hrt
  obtain ⟨as_, cs_, rfl, h2⟩ := HS.out.is
  have HSH := Lib.hid h2
  clear h2
  go_enter Tryz.func24, Tryz.ntmps24
  go_wp2_with fail
  generalize hwo : w.alloc _ = wo at hsz HY0 HB0 ⊢
  clear hwo
  with_reducible refine (CR.out wo (HS.out.later HB0.out)).mono ?_
  rintro e w1 ⟨rfl, h1⟩
  subst w1
  go_wp2_with fail
  have HRS := Lib.hid (Tx.RS_new t wo)
  have HB1 := Lib.hid (HB0.out.trans (((Below.refl _ wo).alloc (Nat.le_refl _) (.cells #[.string t, .int .i64 0, .int .i64 0] 91)).mono HB0.out.size))
  have HY1 : Hid ((wo.alloc (.cells #[.string t, .int .i64 0, .int .i64 0] 91)).heap[w.heap.size]? = some (.cells #[.bool false, .slice none 0 0] 26 (0, 0))) := Lib.hid (by
   rw [((Below.refl _ wo).alloc (Nat.le_refl _) _).block w.heap.size (by rw [hsz]; omega)]; exact HY0.out)
  have hsz1 : (wo.alloc (.cells #[.string t, .int .i64 0, .int .i64 0] 91)).heap.size = w.heap.size + 2 := by rw [World.size_alloc, hsz]
  rw [hsz] at HRS
  generalize wo.alloc _ = w1 at HRS HB1 HY1 hsz1 ⊢
  obtain ⟨r, hr⟩ : ∃ r, r = w.heap.size + 1 := ⟨_, rfl⟩
  have HRE := Lib.hid hr
  have CT := Lib.hid fun wz h => Dd.rtruth_c r t ht t.data.toList wz h
  have CV := Lib.hid fun c l wz h => Dd.rvalue_c r t ht c l wz h
  have CD := Lib.hid fun l wz h => Ty.rdone_m r t ht l 0 wz h
  rw [← hr] at HRS ⊢
  generalize Dd.rdF t.data.toList = F at CT G1 G2 G3 G4 HBAD
  obtain ⟨E, B, l1⟩ := F
  simp only at CT G1 G2 G3 G4 HBAD
  clear HY0 HB0 hr
  with_reducible refine (CT.out w1 HRS.out).mono ?_
  rintro e w2 ⟨rfl, hR2, g2⟩
  have hs2 : w.heap.size + 2 ≤ w2.heap.size := by have := g2.size; omega
  have hrw : w.heap.size < r := by rw [HRE.out]; omega
  have hr2 : r < w2.heap.size := by rw [HRE.out]; omega
  have HB2 := Lib.hid (HB1.out.trans (Ty.below_at (B := w.heap.size) g2 HB1.out.size (by omega)))
  have HY2 := Lib.hid ((g2.block w.heap.size (by omega) (fun e => by have := Option.some.inj e; omega)).trans HY1.out)
  have HR2 := Lib.hid hR2
  have hw2 : w.heap.size < w2.heap.size := by omega
  clear hR2 g2 HY1 HB1 HRS hsz1 hsz
  cases B
  ·go_wp2_with fail
   have HG0 : Hid ((w2.alloc (.cells #[.bool false, .slice none 0 0] 26)).heap[w2.heap.size]? = some (.cells #[.bool false, .slice none 0 0] 26 (0, 0))) := Lib.hid (heap_alloc_new w2 _)
   have HAB : Hid (Below w2.heap.size w2 (w2.alloc (.cells #[.bool false, .slice none 0 0] 26))) := Lib.hid ((Below.refl _ w2).alloc (Nat.le_refl _) _)
   have hsz3 : (w2.alloc (.cells #[.bool false, .slice none 0 0] 26)).heap.size = w2.heap.size + 1 := World.size_alloc ..
   have HY3 := Lib.hid ((HAB.out.block w.heap.size (by omega)).trans HY2.out)
   have HB3 := Lib.hid (HB2.out.trans (HAB.out.mono HB2.out.size))
   have HR3 := Lib.hid fun h => Tx.RS_below (HR2.out h) HAB.out (by omega)
   generalize w2.alloc _ = w3 at HG0 hsz3 HY3 HB3 HR3 ⊢
   obtain ⟨g, hg⟩ : ∃ g, g = w2.heap.size := ⟨_, rfl⟩
   rw [← hg] at HG0 hsz3 ⊢
   have hrg : r < g := by omega
   have hwg : w.heap.size < g := by omega
   have hwr : w.heap.size ≠ r := by omega
   clear HAB HY2 HB2 HR2 hg hs2 hw2
   go_loopw [8, 11] (fun ev i wr => ∃ (k q : Nat) (M : List Kn.V) (l2 : List UInt8) (u : Value), i = .int .i64 k ∧ ev = .int .i64 q ∧ k ≤ s.length ∧ M.length = k ∧ wr.heap[g]? = some (.cells #[.bool false, u] 26 (0, 0)) ∧ Cl.Own (g + 1) wr u M ∧ wr.heap[w.heap.size]? = some (.cells #[.bool false, .slice none 0 0] 26 (0, 0)) ∧ Below w.heap.size w wr ∧ g + 1 ≤ wr.heap.size ∧ (q ≠ 0 → R = (q, ⟨false, []⟩)) ∧ (q = 0 → E = 0 ∧ Ty.RS r t wr l2 0 ∧ Dd.MidR (Dd.cols s false) l1 k M l2)) (fun _ i _ => s.length - (intOf i).toNat)
   case atStart => exact ⟨0, E, [], l1, .slice none 0 0, rfl, rfl, by omega, rfl, HG0.out, Cl.Own.nil _ _, HY3.out, HB3.out, by omega, G1.out, fun h => ⟨h, HR3.out h, Dd.MidR.start _ _⟩⟩
   case round =>
    obtain ⟨k, q, M, l2, u, rfl, rfl, hk, hMk, hyg, hO, hyr, hbr, hgs, hQ, hM⟩ := hrel
    have HYG := Lib.hid hyg
    have HO := Lib.hid hO
    have HYR := Lib.hid hyr
    have HBR := Lib.hid hbr
    have HQ := Lib.hid hQ
    have HM := Lib.hid hM
    have hk0 : (0 : Int) ≤ (k : Int) := by omega
    clear hyg hO hyr hbr hQ hM HG0 HY3 HB3 HR3
    by_cases hl : k < s.length
    ·have hkl : (k : Int) < (s.length : Int) := by omega
     by_cases hq : q = 0
     ·subst hq
      obtain ⟨hE0, hRS, hMid⟩ := HM.out rfl
      have HE0 := Lib.hid hE0
      have HRS2 := Lib.hid hRS
      have HMD := Lib.hid hMid
      have hks : k < s.length := by omega
      clear hE0 hRS hMid HQ
      rcases HSH.out with h2 | ⟨b2, o2, rfl, hbl2, hm2, h2⟩
      ·exact absurd hks (by rw [h2]; simp)
      ·obtain ⟨c, hc⟩ : ∃ c, s[k]? = some c := ⟨_, List.getElem?_eq_getElem hks⟩
       have HCC : Hid ((Dd.cols s false)[k]? = some c) := Lib.hid (by exact hc)
       have hC := h2 k c hc
       have e0 := (HBR.out.cell (p := ⟨b2, o2 + k * 2, none⟩) hbl2).trans hC.1
       have e1 := (HBR.out.cell (p := ⟨b2, o2 + k * 2 + 1, none⟩) hbl2).trans hC.2
       have hksi : (k : Int) < (s.length : Int) := by omega
       have cv := CV.out c l2 wr HRS2.out
       have HN := Lib.hid fun h => HMD.out.next HCC.out h
       have HF := Lib.hid fun h => HMD.out.fail HCC.out h
       generalize Dd.rdV c l2 = rv at cv HN HF
       obtain ⟨q5, x, l5⟩ := rv
       unfold Dd.RdV at cv
       simp only at cv HN HF
       obtain ⟨xn, xi, xs⟩ := x
       simp only at cv
       clear h2 hc hC hm2
       go_wp2_with fail
       with_reducible refine cv.mono ?_
       rintro e w5 ⟨rfl, hR5, g5⟩
       have hs5 := g5.size
       have HYG5 := Lib.hid ((g5.block g (by omega) (fun e => by have := Option.some.inj e; omega)).trans HYG.out)
       have HYR5 := Lib.hid ((g5.block w.heap.size (by omega) (fun e => by have := Option.some.inj e; omega)).trans HYR.out)
       have HO5 := Lib.hid (HO.out.by g5 (by omega))
       have HB5 := Lib.hid (HBR.out.trans (Ty.below_at (B := w.heap.size) g5 HBR.out.size (by omega)))
       have HR5 := Lib.hid hR5
       have hA5 := (Below.refl _ w5).alloc (Nat.le_refl _) (.cells #[.bool xn, .int .i64 xi, .string xs] 43)
       have hsA : (w5.alloc (.cells #[.bool xn, .int .i64 xi, .string xs] 43)).heap.size = w5.heap.size + 1 := World.size_alloc ..
       have hOA : Cl.Own (g + 1) (w5.alloc (.cells #[.bool xn, .int .i64 xi, .string xs] 43)) u M := HO5.out.kept hA5
       have HA5 := Lib.hid hA5
       obtain ⟨c0, c1, f0, f1⟩ := Dd.two HYG5.out
       have hgw5 : g < w5.heap.size := by omega
       clear cv hR5 g5 hA5 e0 e1
       go_wp2_with (at_builtin; refine Cl.wpList_append_valT 24 Tryz.underlying24 ⟨xn, xi, xs⟩ hOA (by omega) (by omega) (.tmp 51) (.tmp 53) _ (by first | exact hsA.symm | simp) _ rfl rfl rfl rfl rfl ?_; (intro v6 w6 h6 g6); (obtain ⟨a6, c6, rfl, _⟩ := h6.vals.is); (have hb6 := Cl.own_grown (by omega) hOA g6); (have HY6 := Lib.hid ((hb6.block g (by omega)).trans ((HA5.out.block g (by omega)).trans HYG5.out))); (obtain ⟨d0, d1, k0, k1⟩ := Dd.two HY6.out))
       rw [show (M ++ [(⟨xn, xi, xs⟩ : Kn.V)]).length = k + 1 by rw [List.length_append, hMk]; rfl] at h6
       have H6 := Lib.hid h6
       have HB6 := Lib.hid hb6
       have hs6 := hb6.size
       clear h6 hOA hb6
       go_roundw
       case rel => exact ⟨k + 1, q5, _, l5, _, by simp, rfl, by omega, by rw [List.length_append, hMk]; rfl, Ty.two_set1 HY6.out, H6.out.setOther (g := g) (i := 1) (by omega) _,
        (Below.heap_setCell _ _ _ _ (by show w.heap.size ≠ g; omega)).trans ((HB6.out.block w.heap.size (by omega)).trans ((HA5.out.block w.heap.size (by omega)).trans HYR5.out)),
        Cl.below_cell ((HB5.out.trans (HA5.out.mono HB5.out.size)).trans (HB6.out.mono (by omega))) (by omega) _,
        by simp only [World.setCell, Array.size_modify]; omega,
        fun h => G2.out (HE0.out) _ (HF.out h) h,
        fun h => ⟨HE0.out, Tx.RS_below (Tx.RS_below (Tx.RS_below (HR5.out h) HA5.out (by omega)) HB6.out (by omega)) (Cl.below_cell (B := g) (Below.refl _ _) (Nat.le_refl _) _) (by omega), HN.out h⟩⟩
       case measure => simp [intOf]; omega
     ·have hkl2 := hkl
      obtain ⟨y0, y1, z0, z1⟩ := Dd.two HYR.out
      have HBE := Lib.hid (Dd.below2 (q := w.heap.size) HBR.out (Nat.le_refl _) (.bool false) (.slice none 0 0))
      have HE := Lib.hid (HQ.out hq)
      have hqb : ((q : Int) == 0) = false := by rw [beq_eq_false_iff_ne]; omega
      have hqn : ((q : Int) != 0) = true := by rw [bne_iff_ne]; omega
      clear hq
      go_wp2
      (try simp only [Exit.inBlock, Exit.then])
      refine bodyPost_ret (v := .tuple #[.agg #[.bool false, .slice none 0 0], .int .i64 (q : Int)]) ?_ rfl (Dd.Got.bad HE.out rfl HBE.out)
      rw [results_cell_tmp rfl]
      go_simp
    ·have hkl : ¬ (k : Int) < (s.length : Int) := by omega
     obtain rfl : k = s.length := by omega
     by_cases hq : q = 0
     ·subst hq
      obtain ⟨hE0, hRS, hMid⟩ := HM.out rfl
      have HE0 := Lib.hid hE0
      have HRS2 := Lib.hid hRS
      have hdone := hMid.done rfl
      have G3' := Lib.hid fun h => G3.out (HE0.out) _ _ hdone h
      have G4' := Lib.hid fun h => G4.out (HE0.out) _ _ hdone h
      have cd := CD.out l2 wr HRS2.out
      have h00 : ((0 : Nat) : Int) = 0 := rfl
      clear hE0 hRS hMid hdone HQ
      simp only [Int.natCast_zero]
      by_cases hl2 : l2 = []
      ·have HE := Lib.hid (G4'.out hl2)
       have hf : Ty.fin l2 0 = 0 := by rw [hl2]; rfl
       rw [hf] at cd
       simp only [Int.natCast_zero] at cd
       clear hl2 hf
       go_wp2_with fail
       with_reducible refine cd.mono ?_
       rintro e w5 ⟨rfl, hR5, g5⟩
       have HYG5 := Lib.hid ((g5.block g (by omega) (fun e => by have := Option.some.inj e; omega)).trans HYG.out)
       have hyr5 := (g5.block w.heap.size (by omega) (fun e => by have := Option.some.inj e; omega)).trans HYR.out
       have HO5 := Lib.hid (HO.out.by g5 (by omega))
       have HB5 := Lib.hid (HBR.out.trans (Ty.below_at (B := w.heap.size) g5 HBR.out.size (by omega)))
       obtain ⟨ua, uc, rfl, _⟩ := HO5.out.vals.is
       obtain ⟨y0, y1, z0, z1⟩ := Dd.two hyr5
       obtain ⟨c0, c1, f0, f1⟩ := Dd.two HYG5.out
       have HBE := Lib.hid (Dd.below2 (q := w.heap.size) HB5.out (Nat.le_refl _) (.bool false) (.slice ua M.length uc))
       have HV := Lib.hid (((HO5.out.setOther (g := w.heap.size) (i := 0) (by omega) (.bool false)).setOther (g := w.heap.size) (i := 1) (by omega) (.slice ua M.length uc)).vals)
       have HFR : Hid (Dd.Fresh w.heap.size (.slice ua M.length uc)) := Lib.hid fun k hk => Nat.le_trans (by omega) (HO5.out.base_le k hk)
       rw [hMk] at HBE HV HFR
       clear cd hR5 g5 hyr5
       go_wp2
       (try simp only [Exit.inBlock, Exit.then])
       refine bodyPost_ret (v := .tuple #[.agg #[.bool false, .slice ua s.length uc], .int .i64 0]) ?_ rfl (Dd.Got.good HE.out HV.out HFR.out HBE.out)
       rw [results_cell_tmp rfl]
       go_simp
      ·have HE := Lib.hid (G3'.out hl2)
       have hf : Ty.fin l2 0 = 5 := by unfold Ty.fin; rw [if_pos ⟨rfl, hl2⟩]
       rw [hf] at cd
       clear hl2 hf
       go_wp2_with fail
       with_reducible refine cd.mono ?_
       rintro e w5 ⟨rfl, hR5, g5⟩
       have hyr5 := (g5.block w.heap.size (by omega) (fun e => by have := Option.some.inj e; omega)).trans HYR.out
       have HB5 := Lib.hid (HBR.out.trans (Ty.below_at (B := w.heap.size) g5 HBR.out.size (by omega)))
       obtain ⟨y0, y1, z0, z1⟩ := Dd.two hyr5
       have HBE := Lib.hid (Dd.below2 (q := w.heap.size) HB5.out (Nat.le_refl _) (.bool false) (.slice none 0 0))
       clear cd hR5 g5 hyr5
       go_wp2
       (try simp only [Exit.inBlock, Exit.then])
       refine bodyPost_ret (v := .tuple #[.agg #[.bool false, .slice none 0 0], .int .i64 5]) ?_ rfl (Dd.Got.bad HE.out rfl HBE.out)
       rw [results_cell_tmp rfl]
       go_simp
     ·have hkl2 := hkl
      obtain ⟨y0, y1, z0, z1⟩ := Dd.two HYR.out
      have HBE := Lib.hid (Dd.below2 (q := w.heap.size) HBR.out (Nat.le_refl _) (.bool false) (.slice none 0 0))
      have HE := Lib.hid (HQ.out hq)
      have hqb : ((q : Int) == 0) = false := by rw [beq_eq_false_iff_ne]; omega
      have hqn : ((q : Int) != 0) = true := by rw [bne_iff_ne]; omega
      clear hq
      go_wp2
      (try simp only [Exit.inBlock, Exit.then])
      refine bodyPost_ret (v := .tuple #[.agg #[.bool false, .slice none 0 0], .int .i64 (q : Int)]) ?_ rfl (Dd.Got.bad HE.out rfl HBE.out)
      rw [results_cell_tmp rfl]
      go_simp
  ·go_wp2_with fail
   have HG0 : Hid ((w2.alloc (.cells #[.bool true, .slice none 0 0] 26)).heap[w2.heap.size]? = some (.cells #[.bool true, .slice none 0 0] 26 (0, 0))) := Lib.hid (heap_alloc_new w2 _)
   have HAB : Hid (Below w2.heap.size w2 (w2.alloc (.cells #[.bool true, .slice none 0 0] 26))) := Lib.hid ((Below.refl _ w2).alloc (Nat.le_refl _) _)
   have hsz3 : (w2.alloc (.cells #[.bool true, .slice none 0 0] 26)).heap.size = w2.heap.size + 1 := World.size_alloc ..
   have HY3 := Lib.hid ((HAB.out.block w.heap.size (by omega)).trans HY2.out)
   have HB3 := Lib.hid (HB2.out.trans (HAB.out.mono HB2.out.size))
   have HR3 := Lib.hid fun h => Tx.RS_below (HR2.out h) HAB.out (by omega)
   generalize w2.alloc _ = w3 at HG0 hsz3 HY3 HB3 HR3 ⊢
   obtain ⟨g, hg⟩ : ∃ g, g = w2.heap.size := ⟨_, rfl⟩
   rw [← hg] at HG0 hsz3 ⊢
   have hrg : r < g := by omega
   have hwg : w.heap.size < g := by omega
   have hwr : w.heap.size ≠ r := by omega
   clear HAB HY2 HB2 HR2 hg hs2 hw2
   go_loopw [8, 11] (fun ev i wr => ∃ (k q : Nat) (M : List Kn.V) (l2 : List UInt8) (u : Value), i = .int .i64 k ∧ ev = .int .i64 q ∧ k ≤ 1 ∧ M.length = k ∧ wr.heap[g]? = some (.cells #[.bool true, u] 26 (0, 0)) ∧ Cl.Own (g + 1) wr u M ∧ wr.heap[w.heap.size]? = some (.cells #[.bool false, .slice none 0 0] 26 (0, 0)) ∧ Below w.heap.size w wr ∧ g + 1 ≤ wr.heap.size ∧ (q ≠ 0 → R = (q, ⟨false, []⟩)) ∧ (q = 0 → E = 0 ∧ Ty.RS r t wr l2 0 ∧ Dd.MidR (Dd.cols s true) l1 k M l2)) (fun _ i _ => 1 - (intOf i).toNat)
   case atStart => exact ⟨0, E, [], l1, .slice none 0 0, rfl, rfl, by omega, rfl, HG0.out, Cl.Own.nil _ _, HY3.out, HB3.out, by omega, G1.out, fun h => ⟨h, HR3.out h, Dd.MidR.start _ _⟩⟩
   case round =>
    obtain ⟨k, q, M, l2, u, rfl, rfl, hk, hMk, hyg, hO, hyr, hbr, hgs, hQ, hM⟩ := hrel
    have HYG := Lib.hid hyg
    have HO := Lib.hid hO
    have HYR := Lib.hid hyr
    have HBR := Lib.hid hbr
    have HQ := Lib.hid hQ
    have HM := Lib.hid hM
    have hk0 : (0 : Int) ≤ (k : Int) := by omega
    clear hyg hO hyr hbr hQ hM HG0 HY3 HB3 HR3
    by_cases hl : k < 1
    ·have hkl : (k : Int) < 1 := by omega
     by_cases hq : q = 0
     ·subst hq
      obtain ⟨hE0, hRS, hMid⟩ := HM.out rfl
      have HE0 := Lib.hid hE0
      have HRS2 := Lib.hid hRS
      have HMD := Lib.hid hMid
      have hks : k < s.length := by omega
      clear hE0 hRS hMid HQ
      rcases HSH.out with h2 | ⟨b2, o2, rfl, hbl2, hm2, h2⟩
      ·exact absurd hks (by rw [h2]; simp)
      ·obtain ⟨c, hc⟩ : ∃ c, s[k]? = some c := ⟨_, List.getElem?_eq_getElem hks⟩
       have HCC : Hid ((Dd.cols s true)[k]? = some c) := Lib.hid (by unfold Dd.cols; rw [if_pos rfl, List.getElem?_take_of_lt (by omega)]; exact hc)
       have hC := h2 k c hc
       have e0 := (HBR.out.cell (p := ⟨b2, o2 + k * 2, none⟩) hbl2).trans hC.1
       have e1 := (HBR.out.cell (p := ⟨b2, o2 + k * 2 + 1, none⟩) hbl2).trans hC.2
       have hksi : (k : Int) < (s.length : Int) := by omega
       have cv := CV.out c l2 wr HRS2.out
       have HN := Lib.hid fun h => HMD.out.next HCC.out h
       have HF := Lib.hid fun h => HMD.out.fail HCC.out h
       generalize Dd.rdV c l2 = rv at cv HN HF
       obtain ⟨q5, x, l5⟩ := rv
       unfold Dd.RdV at cv
       simp only at cv HN HF
       obtain ⟨xn, xi, xs⟩ := x
       simp only at cv
       clear h2 hc hC hm2
       go_wp2_with fail
       with_reducible refine cv.mono ?_
       rintro e w5 ⟨rfl, hR5, g5⟩
       have hs5 := g5.size
       have HYG5 := Lib.hid ((g5.block g (by omega) (fun e => by have := Option.some.inj e; omega)).trans HYG.out)
       have HYR5 := Lib.hid ((g5.block w.heap.size (by omega) (fun e => by have := Option.some.inj e; omega)).trans HYR.out)
       have HO5 := Lib.hid (HO.out.by g5 (by omega))
       have HB5 := Lib.hid (HBR.out.trans (Ty.below_at (B := w.heap.size) g5 HBR.out.size (by omega)))
       have HR5 := Lib.hid hR5
       have hA5 := (Below.refl _ w5).alloc (Nat.le_refl _) (.cells #[.bool xn, .int .i64 xi, .string xs] 43)
       have hsA : (w5.alloc (.cells #[.bool xn, .int .i64 xi, .string xs] 43)).heap.size = w5.heap.size + 1 := World.size_alloc ..
       have hOA : Cl.Own (g + 1) (w5.alloc (.cells #[.bool xn, .int .i64 xi, .string xs] 43)) u M := HO5.out.kept hA5
       have HA5 := Lib.hid hA5
       obtain ⟨c0, c1, f0, f1⟩ := Dd.two HYG5.out
       have hgw5 : g < w5.heap.size := by omega
       clear cv hR5 g5 hA5 e0 e1
       go_wp2_with (at_builtin; refine Cl.wpList_append_valT 24 Tryz.underlying24 ⟨xn, xi, xs⟩ hOA (by omega) (by omega) (.tmp 51) (.tmp 53) _ (by first | exact hsA.symm | simp) _ rfl rfl rfl rfl rfl ?_; (intro v6 w6 h6 g6); (obtain ⟨a6, c6, rfl, _⟩ := h6.vals.is); (have hb6 := Cl.own_grown (by omega) hOA g6); (have HY6 := Lib.hid ((hb6.block g (by omega)).trans ((HA5.out.block g (by omega)).trans HYG5.out))); (obtain ⟨d0, d1, k0, k1⟩ := Dd.two HY6.out))
       rw [show (M ++ [(⟨xn, xi, xs⟩ : Kn.V)]).length = k + 1 by rw [List.length_append, hMk]; rfl] at h6
       have H6 := Lib.hid h6
       have HB6 := Lib.hid hb6
       have hs6 := hb6.size
       clear h6 hOA hb6
       go_roundw
       case rel => exact ⟨k + 1, q5, _, l5, _, by simp, rfl, by omega, by rw [List.length_append, hMk]; rfl, Ty.two_set1 HY6.out, H6.out.setOther (g := g) (i := 1) (by omega) _,
        (Below.heap_setCell _ _ _ _ (by show w.heap.size ≠ g; omega)).trans ((HB6.out.block w.heap.size (by omega)).trans ((HA5.out.block w.heap.size (by omega)).trans HYR5.out)),
        Cl.below_cell ((HB5.out.trans (HA5.out.mono HB5.out.size)).trans (HB6.out.mono (by omega))) (by omega) _,
        by simp only [World.setCell, Array.size_modify]; omega,
        fun h => G2.out (HE0.out) _ (HF.out h) h,
        fun h => ⟨HE0.out, Tx.RS_below (Tx.RS_below (Tx.RS_below (HR5.out h) HA5.out (by omega)) HB6.out (by omega)) (Cl.below_cell (B := g) (Below.refl _ _) (Nat.le_refl _) _) (by omega), HN.out h⟩⟩
       case measure => simp [intOf]; omega
     ·have hkl2 := hkl
      obtain ⟨y0, y1, z0, z1⟩ := Dd.two HYR.out
      have HBE := Lib.hid (Dd.below2 (q := w.heap.size) HBR.out (Nat.le_refl _) (.bool false) (.slice none 0 0))
      have HE := Lib.hid (HQ.out hq)
      have hqb : ((q : Int) == 0) = false := by rw [beq_eq_false_iff_ne]; omega
      have hqn : ((q : Int) != 0) = true := by rw [bne_iff_ne]; omega
      clear hq
      go_wp2
      (try simp only [Exit.inBlock, Exit.then])
      refine bodyPost_ret (v := .tuple #[.agg #[.bool false, .slice none 0 0], .int .i64 (q : Int)]) ?_ rfl (Dd.Got.bad HE.out rfl HBE.out)
      rw [results_cell_tmp rfl]
      go_simp
    ·have hkl : ¬ (k : Int) < 1 := by omega
     obtain rfl : k = 1 := by omega
     by_cases hq : q = 0
     ·subst hq
      obtain ⟨hE0, hRS, hMid⟩ := HM.out rfl
      have HE0 := Lib.hid hE0
      have HRS2 := Lib.hid hRS
      have hdone := hMid.done (by unfold Dd.cols; rw [if_pos rfl, List.length_take]; omega)
      have G3' := Lib.hid fun h => G3.out (HE0.out) _ _ hdone h
      have G4' := Lib.hid fun h => G4.out (HE0.out) _ _ hdone h
      have cd := CD.out l2 wr HRS2.out
      have h00 : ((0 : Nat) : Int) = 0 := rfl
      clear hE0 hRS hMid hdone HQ
      simp only [Int.natCast_zero]
      by_cases hl2 : l2 = []
      ·have HE := Lib.hid (G4'.out hl2)
       have hf : Ty.fin l2 0 = 0 := by rw [hl2]; rfl
       rw [hf] at cd
       simp only [Int.natCast_zero] at cd
       clear hl2 hf
       go_wp2_with fail
       with_reducible refine cd.mono ?_
       rintro e w5 ⟨rfl, hR5, g5⟩
       have HYG5 := Lib.hid ((g5.block g (by omega) (fun e => by have := Option.some.inj e; omega)).trans HYG.out)
       have hyr5 := (g5.block w.heap.size (by omega) (fun e => by have := Option.some.inj e; omega)).trans HYR.out
       have HO5 := Lib.hid (HO.out.by g5 (by omega))
       have HB5 := Lib.hid (HBR.out.trans (Ty.below_at (B := w.heap.size) g5 HBR.out.size (by omega)))
       obtain ⟨ua, uc, rfl, _⟩ := HO5.out.vals.is
       obtain ⟨y0, y1, z0, z1⟩ := Dd.two hyr5
       obtain ⟨c0, c1, f0, f1⟩ := Dd.two HYG5.out
       have HBE := Lib.hid (Dd.below2 (q := w.heap.size) HB5.out (Nat.le_refl _) (.bool true) (.slice ua M.length uc))
       have HV := Lib.hid (((HO5.out.setOther (g := w.heap.size) (i := 0) (by omega) (.bool true)).setOther (g := w.heap.size) (i := 1) (by omega) (.slice ua M.length uc)).vals)
       have HFR : Hid (Dd.Fresh w.heap.size (.slice ua M.length uc)) := Lib.hid fun k hk => Nat.le_trans (by omega) (HO5.out.base_le k hk)
       rw [hMk] at HBE HV HFR
       clear cd hR5 g5 hyr5
       go_wp2
       (try simp only [Exit.inBlock, Exit.then])
       refine bodyPost_ret (v := .tuple #[.agg #[.bool true, .slice ua 1 uc], .int .i64 0]) ?_ rfl (Dd.Got.good HE.out HV.out HFR.out HBE.out)
       rw [results_cell_tmp rfl]
       go_simp
      ·have HE := Lib.hid (G3'.out hl2)
       have hf : Ty.fin l2 0 = 5 := by unfold Ty.fin; rw [if_pos ⟨rfl, hl2⟩]
       rw [hf] at cd
       clear hl2 hf
       go_wp2_with fail
       with_reducible refine cd.mono ?_
       rintro e w5 ⟨rfl, hR5, g5⟩
       have hyr5 := (g5.block w.heap.size (by omega) (fun e => by have := Option.some.inj e; omega)).trans HYR.out
       have HB5 := Lib.hid (HBR.out.trans (Ty.below_at (B := w.heap.size) g5 HBR.out.size (by omega)))
       obtain ⟨y0, y1, z0, z1⟩ := Dd.two hyr5
       have HBE := Lib.hid (Dd.below2 (q := w.heap.size) HB5.out (Nat.le_refl _) (.bool false) (.slice none 0 0))
       clear cd hR5 g5 hyr5
       go_wp2
       (try simp only [Exit.inBlock, Exit.then])
       refine bodyPost_ret (v := .tuple #[.agg #[.bool false, .slice none 0 0], .int .i64 5]) ?_ rfl (Dd.Got.bad HE.out rfl HBE.out)
       rw [results_cell_tmp rfl]
       go_simp
     ·have hkl2 := hkl
      obtain ⟨y0, y1, z0, z1⟩ := Dd.two HYR.out
      have HBE := Lib.hid (Dd.below2 (q := w.heap.size) HBR.out (Nat.le_refl _) (.bool false) (.slice none 0 0))
      have HE := Lib.hid (HQ.out hq)
      have hqb : ((q : Int) == 0) = false := by rw [beq_eq_false_iff_ne]; omega
      have hqn : ((q : Int) != 0) = true := by rw [bne_iff_ne]; omega
      clear hq
      go_wp2
      (try simp only [Exit.inBlock, Exit.then])
      refine bodyPost_ret (v := .tuple #[.agg #[.bool false, .slice none 0 0], .int .i64 (q : Int)]) ?_ rfl (Dd.Got.bad HE.out rfl HBE.out)
      rw [results_cell_tmp rfl]
      go_simp
end
end Go.Proofs.YtkhiemkekmdhgaaGreatDoor
