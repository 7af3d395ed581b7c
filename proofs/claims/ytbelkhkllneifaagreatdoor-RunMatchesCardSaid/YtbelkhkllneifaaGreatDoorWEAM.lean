import Derived.Test.YtbelkhkllneifaaGreatDoorWEAK
import Derived.Test.YtbelkhkllneifaaGreatDoorWEAL
import Derived.Test.YtbelkhkllneifaaGreatDoorWEAD
import Derived.Test.YtbelkhkllneifaaGreatDoorWEAG
import Derived.Laws.MakeOwn
import Derived.StillTailTactics
namespace Go.Proofs.YtbelkhkllneifaaGreatDoor
section
open Go.RowKit
theorem Bk.col_take {L : List Dd.D} {k i : Nat} {d : Dd.D} (h : L[k]? = some d) : Bk.col (L.take (k + 1)) i = if Bk.has i d = true then Bk.col (L.take k) i ++ [d.row.getD i Cl.nul] else Bk.col (L.take k) i := by
 obtain ⟨hk, rfl⟩ := List.getElem?_eq_some_iff.1 h
 unfold Bk.col
 rw [List.take_succ_eq_append_getElem hk, List.filter_append, List.map_append]
 cases hh : Bk.has i L[k]
 ·rw [if_neg (by decide), List.filter_cons, hh]
  simp
 ·rw [if_pos rfl, List.filter_cons, hh]
  simp
set_option maxHeartbeats 4000000 in
set_option maxRecDepth 100000 in
theorem Bk.rcolumn_c (v : Value) (L : List Dd.D) (i : Nat) (h8 : L.length ≤ 8) (hi6 : i < 6) (hr : ∀ d ∈ L, Bk.has i d = true → i < d.row.length) (w : World) (hv : Bk.Ds w v L) :
 Calls Tryz.prog 57 #[v, .int .i64 i] w fun e w' => ∃ u, e = .returned u ∧ Kn.Vals w' u (Bk.col L i) ∧ Below w.heap.size w w' := by
 obtain ⟨a, c, rfl, hlc, hcm, h⟩ := hv
 have HH := Lib.hid h
 have HR := Lib.hid hr
 have H8 := Lib.hid h8
 have HT : Hid (∀ (k : Nat) (d : Dd.D), L[k]? = some d → Bk.col (L.take (k + 1)) i = if Bk.has i d = true then Bk.col (L.take k) i ++ [d.row.getD i Cl.nul] else Bk.col (L.take k) i) := Lib.hid fun k d h => Bk.col_take h
 have HLT : Hid (∀ k, (Bk.col (L.take k) i).length ≤ 8) := Lib.hid fun k => by
  unfold Bk.col
  rw [List.length_map]
  exact Nat.le_trans (List.length_filter_le _ _) (Nat.le_trans (List.length_take_le' _ _) h8)
 clear h hr h8
 have hi0 : (0 : Int) ≤ (i : Int) := by omega
 go_enter Tryz.func57, Tryz.ntmps57
 go_wp2_with fail
 go_loopw [6, 5] (fun q u wr => ∃ k : Nat, k ≤ L.length ∧ q = .int .i64 k ∧ Cl.Own w.heap.size wr u (Bk.col (L.take k) i) ∧ Below w.heap.size w wr) (fun q _ _ => L.length - (intOf q).toNat)
 case atStart => exact ⟨0, Nat.zero_le _, rfl, Cl.Own.nil _ _, Below.refl _ _⟩
 case round =>
  obtain ⟨k, hk, rfl, ho, hg⟩ := hrel
  have HO := Lib.hid ho
  have HG := Lib.hid hg
  clear ho
  by_cases hkl : k < L.length
  ·rcases HH.out with rfl | ⟨b, o, rfl, hlt, hc⟩
   ·simp at hkl
   ·have hx := List.getElem?_eq_getElem hkl
    have hm := List.getElem_mem hkl
    generalize L[k] = d at hx hm
    have HN := Lib.hid (HT.out k d hx)
    obtain ⟨u0, c0, c1, hu⟩ := hc k d hx
    have hu := hu.later hg
    have c0 := (hg.cell (p := ⟨b, o + k * 2, none⟩) hlt).trans c0
    have c1 := (hg.cell (p := ⟨b, o + k * 2 + 1, none⟩) hlt).trans c1
    have dk : (k : Int) < (L.length : Int) := by omega
    have dk0 : (0 : Int) ≤ (k : Int) := by omega
    have HK := Lib.hid hkl
    have HC := Lib.hid hc
    have HM := Lib.hid (HR.out d hm)
    obtain ⟨ua, uc, rfl, huc⟩ := hu
    have HUC := Lib.hid huc
    clear hc hx hkl hk hg hm huc
    obtain ⟨dg, dr⟩ := d
    simp only at c0 c1 HM HUC
    cases hh : Bk.has i ⟨dg, dr⟩
    ·obtain ⟨hgone, hi1⟩ := Bk.has_gone hh
     simp only at hgone
     subst hgone
     have hib : ((i : Int) == 0) = false := by rw [beq_eq_false_iff_ne]; omega
     have HN2 : Hid (Bk.col (L.take (k + 1)) i = Bk.col (L.take k) i) := Lib.hid (by rw [HN.out, hh, if_neg (by decide)])
     clear hh hi1
     go_wp2
     go_roundw
     case rel => exact ⟨k + 1, HK.out, by simp, by rw [HN2.out]; exact HO.out, HG.out⟩
     case measure => (have := HK.out; simp [intOf]; omega)
    ·have hil := HM.out hh
     have HN2 : Hid (Bk.col (L.take (k + 1)) i = Bk.col (L.take k) i ++ [dr.getD i Cl.nul]) := Lib.hid (by rw [HN.out, hh, if_pos rfl])
     have hgt : dr[i]? = some (dr.getD i Cl.nul) := by rw [List.getD_eq_getElem?_getD, List.getElem?_eq_getElem hil]; rfl
     rcases HUC.out with h0 | ⟨b2, o2, rfl, hlt2, hm2, hcc⟩
     ·rw [h0] at hil; simp at hil
     ·obtain ⟨e0, e1, e2⟩ := hcc i _ hgt
      have dil : (i : Int) < (dr.length : Int) := by omega
      have hO := HO.out
      have hl := HLT.out k
      have hsz := HG.out.size
      generalize dr.getD i Cl.nul = x at HN2 e0 e1 e2
      clear hcc hgt hil HUC HM
      have hways : (((i : Int) == 0) = true) ∨ (((i : Int) == 0) = false ∧ dg = false) := by
       unfold Bk.has at hh
       cases hi' : (i == 0)
       ·rw [hi'] at hh
        right
        refine ⟨?_, by simpa using hh⟩
        rw [beq_eq_false_iff_ne] at hi' ⊢
        omega
       ·left
        rw [beq_iff_eq] at hi' ⊢
        omega
      clear hh
      rcases hways with hib | ⟨hib, rfl⟩
      all_goals
       go_wp2_with (at_builtin; refine Cl.wpList_append_val x hO (by omega) (by omega) (.tmp 23) (.tmp 32) _ rfl rfl rfl rfl rfl ?_; intro v5 w5 h5 g5)
       have H5 := Lib.hid h5
       have HB5 := Lib.hid (Cl.own_below HG.out hO g5)
       clear h5 g5 hO
       go_roundw
       case rel => exact ⟨k + 1, HK.out, by simp, by rw [HN2.out]; exact H5.out, HB5.out⟩
       case measure => (have := HK.out; simp [intOf]; omega)
  ·obtain rfl : k = L.length := by omega
   have dk : ¬ (L.length : Int) < (L.length : Int) := by omega
   have HO2 : Hid (Cl.Own w.heap.size wr _ (Bk.col L i)) := Lib.hid (by have := HO.out; rw [List.take_length] at this; exact this)
   go_wp2
   go_ret
   exact ⟨_, rfl, HO2.out.vals, HG.out⟩
end
section
open Go.RowKit
open Ig (nth encI encR grp diffs prv low off sg rest rdInts acc)
open Ty (encU num)
def Ig.iv (L : List Int) (i : Nat) : Value := .int .i64 (nth L i)
def Ig.Own (base : Nat) (w : World) (v : Value) (L : List Int) : Prop := Bt.Buf 2 base w v L.length (Ig.iv L)
theorem Ig.infoI : (Tryz.prog.info? 2).map (fun i => (i.zero, i.size, i.bytes)) = some (some (.int .i64 0), 1, 8) := by kernel_rfl
theorem Ig.nth_snoc (M : List Int) (x : Int) : nth (M ++ [x]) M.length = x := by simp [nth]
theorem Ig.nth_left (M R : List Int) {i : Nat} (h : i < M.length) : nth (M ++ R) i = nth M i := by
 unfold nth
 rw [List.getD, List.getD, List.getElem?_append_left h]
theorem Ig.Own.nil (base : Nat) (w : World) : Ig.Own base w (.slice none 0 0) [] := Bt.Buf.nil _ _ _ _
theorem Ig.Own.pre {base : Nat} {w : World} {v : Value} {M : List Int} (h : Ig.Own base w v M) (x : Int) : Bt.Buf 2 base w v M.length (Ig.iv (M ++ [x])) :=
 Bt.Buf.congr h fun i hi => by unfold Ig.iv; rw [Ig.nth_left M [x] hi]
theorem Ig.Own.post {base : Nat} {w : World} {v : Value} {M : List Int} {x : Int} (h : Bt.Buf 2 base w v (M.length + 1) (Ig.iv (M ++ [x]))) : Ig.Own base w v (M ++ [x]) := by
 unfold Ig.Own
 rw [List.length_append, List.length_singleton]
 exact h
theorem Ig.iv_snoc (M : List Int) (x : Int) : Value.int .i64 x = Ig.iv (M ++ [x]) M.length := by unfold Ig.iv; rw [Ig.nth_snoc]
theorem Ig.buf_ne {e : TypeId} {base : Nat} {w : World} {v : Value} {n : Nat} {f : Nat → Value} (h : Bt.Buf e base w v n f) {b : Nat} (hb : b < base) : v.ownBlock ≠ some b := fun e => by have := h.base_le b e; omega
theorem Ig.buf_by {e : TypeId} {base b : Nat} {w w' : World} {v : Value} {n : Nat} {f : Nat → Value} (h : Bt.Buf e base w v n f) (hg : w.grownBy w' (some b)) (hb : b < base) : Bt.Buf e base w' v n f :=
 World.ownsRow.kept h hg (.inr (Ig.buf_ne h hb))
theorem Ig.Own.by {base b : Nat} {w w' : World} {v : Value} {L : List Int} (h : Ig.Own base w v L) (hg : w.grownBy w' (some b)) (hb : b < base) : Ig.Own base w' v L := Ig.buf_by h hg hb
theorem Ig.Own.at {base : Nat} {w : World} {v : Value} {L : List Int} (h : Ig.Own base w v L) : Ig.At w.heap.size w v L := by
 have hs := Bt.Buf.sl h
 obtain ⟨a, c, rfl, h1⟩ := hs
 have hc : L.length ≤ c := by
  rcases h.2 with ⟨e, e0⟩ | ⟨g, cap, cur, e, _, _, hcap, _⟩
  ·omega
  ·simp only [Value.slice.injEq] at e
   omega
 refine ⟨a, c, rfl, hc, Nat.le_refl _, ?_⟩
 rcases h1 with h1 | h1
 ·exact .inl (List.eq_nil_of_length_eq_zero h1)
 ·exact .inr h1
theorem Ig.grew_by {w w' : World} {v v' : Value} (h : Ty.Grew w w' v v') {w0 : World} {b : Nat} (g : w0.grownBy w (some b)) (hv : ∀ k, v.ownBlock = some k → w0.heap.size ≤ k) : w0.grownBy w' (some b) :=
 ⟨h.by_.os.trans g.os, h.by_.tape.trans g.tape, h.by_.output.trans g.output, Nat.le_trans g.size h.by_.size, fun k hk hn => (h.by_.block k (Nat.lt_of_lt_of_le hk g.size) (fun e => by have := hv k e.symm; omega)).trans (g.block k hk hn)⟩
theorem Ig.below_by {w w' w0 : World} (h : Below w.heap.size w w') {b : Nat} (g : w0.grownBy w (some b)) : w0.grownBy w' (some b) :=
 ⟨h.os.trans g.os, h.tape.trans g.tape, h.output.trans g.output, Nat.le_trans g.size h.size, fun k hk hn => (h.block k (Nat.lt_of_lt_of_le hk g.size)).trans (g.block k hk hn)⟩
theorem Ig.cur_grew {b : Nat} {w w' : World} {v v' : Value} {l : List UInt8} {e : Nat} (h : Ty.Cur b w l e) (g : Ty.Grew w w' v v') (hv : v.ownBlock ≠ some b) : Ty.Cur b w' l e := h.by g.by_ hv
theorem Ig.cint_m (b : Nat) (l : List UInt8) (w : World) (hw : Ty.Tabs w) (h : Ty.Cur b w l 0) (hl : l.length ≤ 9223372036854775807) :
 Calls Tryz.prog 200 #[.pointer (some ⟨b, 0, none⟩)] w (Ty.Left b w (.int .i64 (sg l)) (rest l) (num l).2.2) := by
 have e : Ty.rdU l 0 = ((num l).1, rest l, (num l).2.2) := by unfold Ty.rdU; rw [if_neg (by omega)]; rfl
 have := Ty.cint_c b l 0 w hw h hl
 rw [e] at this
 exact this
theorem Ig.cuint_m (b : Nat) (l : List UInt8) (w : World) (hw : Ty.Tabs w) (h : Ty.Cur b w l 0) (hl : l.length ≤ 9223372036854775807) :
 Calls Tryz.prog 149 #[.pointer (some ⟨b, 0, none⟩)] w (Ty.Left b w (.int .u64 ((num l).1 : Int)) (rest l) (num l).2.2) := by
 have e : Ty.rdU l 0 = ((num l).1, rest l, (num l).2.2) := by unfold Ty.rdU; rw [if_neg (by omega)]; rfl
 have := Ty.cuint_c b l 0 w hw h hl
 rw [e] at this
 exact this
theorem Ig.rest_le (l : List UInt8) : (rest l).length ≤ l.length := by unfold rest; rw [List.length_drop]; omega
def Ig.Rd (b : Nat) (w : World) (r : Nat × List Int × List UInt8) (e : Ending) (w' : World) : Prop :=
 ∃ v, e = .returned (.tuple #[v, .int .i64 ((r.1 : Nat) : Int)]) ∧ Ig.Own w.heap.size w' v (if r.1 = 0 then r.2.1 else []) ∧ (r.1 = 0 → Ty.Cur b w' r.2.2 0) ∧ w.grownBy w' (some b)
theorem Ig.Rd.bad {b : Nat} {w w' : World} {r : Nat × List Int × List UInt8} {z : Int} (hz : z = ((r.1 : Nat) : Int)) (h : r.1 ≠ 0) (g : w.grownBy w' (some b)) : Ig.Rd b w r (.returned (.tuple #[.slice none 0 0, .int .i64 z])) w' :=
 ⟨_, by rw [hz], by rw [if_neg h]; exact Ig.Own.nil _ _, fun e => absurd e h, g⟩
theorem Ig.Rd.good {b : Nat} {w w' : World} {r : Nat × List Int × List UInt8} {v : Value} (h : r.1 = 0) (ho : Ig.Own w.heap.size w' v r.2.1) (hc : Ty.Cur b w' r.2.2 0) (g : w.grownBy w' (some b)) : Ig.Rd b w r (.returned (.tuple #[v, .int .i64 0])) w' :=
 ⟨_, by rw [h]; rfl, by rw [if_pos h]; exact ho, fun _ => hc, g⟩
def Ig.Mid (n : Nat) (l : List UInt8) (k : Nat) (M : List Int) (l2 : List UInt8) : Prop := M.length = k ∧ k ≤ n ∧ l2.length ≤ l.length ∧ rdInts n l = ((rdInts (n - k) l2).1, M ++ (rdInts (n - k) l2).2.1, (rdInts (n - k) l2).2.2)
theorem Ig.Mid.next {n : Nat} {l : List UInt8} {k : Nat} {M : List Int} {l2 : List UInt8} (h : Ig.Mid n l k M l2) (hk : k < n) (h0 : (num l2).2.2 = 0) : Ig.Mid n l (k + 1) (M ++ [sg l2]) (rest l2) := by
 obtain ⟨h1, h2, h3, h4⟩ := h
 refine ⟨by simp [h1], by omega, Nat.le_trans (Ig.rest_le l2) h3, ?_⟩
 have e : n - k = (n - (k + 1)) + 1 := by omega
 rw [h4, e]
 simp only [rdInts]
 rw [if_neg (by rw [h0]; simp)]
 simp
theorem Ig.Mid.fail {n : Nat} {l : List UInt8} {k : Nat} {M : List Int} {l2 : List UInt8} (h : Ig.Mid n l k M l2) (hk : k < n) (h0 : (num l2).2.2 ≠ 0) : (rdInts n l).1 = (num l2).2.2 := by
 obtain ⟨h1, h2, h3, h4⟩ := h
 have e : n - k = (n - (k + 1)) + 1 := by omega
 rw [h4, e]
 simp only [rdInts]
 rw [if_pos h0]
theorem Ig.Mid.done {n : Nat} {l : List UInt8} {M : List Int} {l2 : List UInt8} (h : Ig.Mid n l n M l2) : rdInts n l = (0, M, l2) := by
 obtain ⟨h1, h2, h3, h4⟩ := h
 rw [h4, Nat.sub_self]
 simp [rdInts]
set_option maxHeartbeats 1000000 in
theorem Ig.readPlain_c (b n : Nat) (l : List UInt8) (w : World) (hw : Ty.Tabs w) (hG : Ty.G ≤ b) (h : Ty.Cur b w l 0) (hl : l.length ≤ 140737488355328) (hn : n ≤ 65536) :
 Calls Tryz.prog 179 #[.pointer (some ⟨b, 0, none⟩), .int .i64 n] w (Ig.Rd b w (rdInts n l)) := by
 obtain ⟨i0, hi0, hz0, hz1, hz2⟩ := info_parts Ig.infoI
 have hbw := h.lt
 have hmk : ∀ m : Nat, m ≤ 65536 → ∃ w2, (Instr.makeSlice 187 (.int .i64 0) (.int .i64 (m : Int))).run Tryz.prog w = .ok (.slice (some ⟨w.heap.size, 0, none⟩) 0 m) w2 ∧ w2.ownsRow w.heap.size 2 1 (.slice (some ⟨w.heap.size, 0, none⟩) 0 m) 0 [] ∧ w.grownBy w2 none := fun m hm =>
  run_make_own w w.heap.size 187 2 i0 _ 1 Tryz.underlying187 hi0 hz0 hz1 .i64 .i64 m (by rw [hz2]; omega) (by unfold maxLen; omega) (Nat.le_refl _)
 have hm0 : Ig.Mid n l 0 [] l := ⟨rfl, by omega, Nat.le_refl _, by simp⟩
 have HM0 := Lib.hid hm0
 clear hm0 hi0 hz0 hz1 hz2
 by_cases hle : (n : Int) ≤ (l.length : Int)
 all_goals
  go_enter Tryz.func179, Tryz.ntmps179
  go_wp2_with fail
  refine (Ty.left_c b l 0 _ h).mono ?_
  rintro e w1 ⟨rfl, rfl⟩
  first
   | (have hm2 : n ≤ l.length := by omega
      obtain ⟨w2, hmr, hown, hg2⟩ := hmk n hn)
   | obtain ⟨w2, hmr, hown, hg2⟩ := hmk l.length (by omega)
  have hc2 := h.none_ hg2
  have H2 := Lib.hid hown
  have hgb := Ty.by_some hg2 b
  clear hmk hown
  go_wp2_with fail
  go_loopw [6, 14] (fun lv i wr => ∃ k M l2, i = .int .i64 ((k : Nat) : Int) ∧ Ig.Mid n l k M l2 ∧ Ig.Own w1.heap.size wr lv M ∧ Ty.Cur b wr l2 0 ∧ w1.grownBy wr (some b)) (fun _ i _ => n - (intOf i).toNat)
  case atStart => exact ⟨0, [], l, rfl, HM0.out, H2.out, hc2, hgb⟩
  case round =>
   obtain ⟨k, M, l2, rfl, hM, hO, hc, hg⟩ := hrel
   clear hmr hc2 hgb hg2
   have hT := hw.by hg (by intro k hk; cases hk; exact hG)
   have hkn := hM.2.1
   have hl2 := hM.2.2.1
   have hMl := hM.1
   have HM := Lib.hid hM
   have HO := Lib.hid hO
   have HGR := Lib.hid hg
   have hws := hg.size
   clear hM hO hg
   by_cases hk : k < n
   ·have hki : (k : Int) < (n : Int) := by omega
    have hk0 : (0 : Int) ≤ (k : Int) := by omega
    have ci := Ig.cint_m b l2 wr hT hc (by omega)
    by_cases he : (num l2).2.2 = 0
    ·have HN := Lib.hid (HM.out.next hk he)
     rw [he] at ci
     generalize sg l2 = x at ci HN
     generalize rest l2 = l3 at ci HN
     have HL := Lib.hid hMl
     clear he hc hT hl2 hMl
     go_wp2_with fail
     refine ci.mono ?_
     rintro e w3 ⟨rfl, hc3, hg3⟩
     have hO3 := HO.out.by hg3 hbw
     have HC3 := Lib.hid hc3
     have HG3 := Lib.hid (Ty.by_trans HGR.out hg3)
     have hs3 := hg3.size
     clear ci hg3
     go_wp2_with fail
     refine (Ty.err_c b l3 0 _ HC3.out).mono ?_
     rintro e w4 ⟨rfl, rfl⟩
     have HO3 := Lib.hid hO3
     clear hO3 hc3
     go_wp2_with (at_builtin; refine Bt.wpList_append_one 2 187 (.int .i64 0) 8 Tryz.underlying187 Ig.infoI rfl (HO3.out.pre x) (by omega) (by have := HL.out; omega) (by have := HL.out; omega) (.tmp 23) (.tmp 25) _ rfl rfl rfl rfl rfl ?_; intro v5 w5 h5 g5)
     have H5 := Lib.hid (Ig.Own.post (h5 (Ig.iv_snoc M x)))
     have HC5 := Lib.hid (Ig.cur_grew HC3.out g5 (Ig.buf_ne HO3.out hbw))
     have HG5 := Lib.hid (Ig.grew_by g5 HG3.out (Bt.Buf.base_le HO3.out))
     clear h5 g5
     go_roundw
     case rel => exact ⟨k + 1, _, _, by simp, HN.out, H5.out, HC5.out, HG5.out⟩
     case measure => simp [intOf]; omega
    ·have HE := Lib.hid (HM.out.fail hk he)
     generalize (num l2).2.2 = q at ci he HE
     have hne : ((q : Int) != 0) = true := by rw [bne_iff_ne]; omega
     have HQ := Lib.hid he
     clear he hT hc
     go_wp2_with fail
     refine ci.mono ?_
     rintro e w3 ⟨rfl, hc3, hg3⟩
     have HG3 := Lib.hid (Ty.by_trans HGR.out hg3)
     have HC3 := Lib.hid hc3
     clear ci hg3 hc3
     go_wp2_with fail
     refine (Ty.err_c b _ q _ HC3.out).mono ?_
     rintro e w4 ⟨rfl, rfl⟩
     go_wp2_with fail
     refine (Ty.err_c b _ q _ HC3.out).mono ?_
     rintro e w4 ⟨rfl, rfl⟩
     go_wp2
     go_ret2
     exact Ig.Rd.bad (by rw [HE.out]) (by rw [HE.out]; exact HQ.out) HG3.out
   ·obtain rfl : k = n := by omega
    have hki : ¬ (k : Int) < (k : Int) := by omega
    have HD := Lib.hid HM.out.done
    have HC := Lib.hid hc
    clear hMl hc
    go_wp2
    go_ret2
    exact Ig.Rd.good (by rw [HD.out]) (by rw [HD.out]; exact HO.out) (by rw [HD.out]; exact HC.out) HGR.out
end
section
open Go.RowKit
open Ig (nth encI encR grp diffs prv low off sg rest rdInts acc)
open Ty (encU num)
theorem Ig.buf_set {e : TypeId} {base : Nat} {w : World} {g n c : Nat} {f : Nat → Value} (h : Bt.Buf e base w (.slice (some ⟨g, 0, none⟩) n c) n f) {i : Nat} (u : Value) (hi : i < n) :
 Bt.Buf e base (w.setCell ⟨g, i, none⟩ u) (.slice (some ⟨g, 0, none⟩) n c) n (fun j => if j = i then u else f j) := by
 refine ⟨by simp, .inr ?_⟩
 rcases h.2 with ⟨e1, _⟩ | ⟨g', cap, cur, e1, hb, hg, h1, h2, h3, h4⟩
 ·simp at e1
 ·simp only [Value.slice.injEq, Option.some.injEq, Addr.mk.injEq, and_true, true_and] at e1
  obtain ⟨rfl, rfl⟩ := e1
  have hlt := (Array.getElem?_eq_some_iff.1 hg).1
  refine ⟨g, c, cur.set! i u, rfl, hb, ?_, h1, h2, by simpa using h3, ?_⟩
  ·have h' : w.heap[g] = .cells cur e (0, 0) := by simpa [Array.getElem?_eq_getElem hlt] using hg
   show (w.heap.modify g _)[g]? = _
   rw [Array.getElem?_eq_getElem (by simpa using hlt), Array.getElem_modify_self, h']
   rfl
  ·rw [Nat.mul_one] at h4 ⊢
   refine List.ext_getElem? fun j => ?_
   by_cases hj : j < n
   ·rw [List.getElem?_take_of_lt hj, List.getElem?_map, List.getElem?_range hj]
    have hc : cur.toList[j]? = some (f j) := by
     have := congrArg (·[j]?) h4
     simp only [List.getElem?_map, List.getElem?_range hj] at this
     rwa [List.getElem?_take_of_lt hj] at this
    by_cases hji : j = i
    ·subst hji
     have hs : j < cur.size := by rw [h3]; omega
     simp [hs]
    ·simp only [Option.map_some, if_neg hji]
     simp only [Array.set!_eq_setIfInBounds, Array.toList_setIfInBounds]
     rw [List.getElem?_set_ne (fun h => hji h.symm)]
     exact hc
   ·rw [List.getElem?_eq_none (by rw [List.length_take]; omega), List.getElem?_eq_none (by simp; omega)]
theorem Ig.buf_cell {e : TypeId} {base : Nat} {w : World} {g n c : Nat} {f : Nat → Value} (h : Bt.Buf e base w (.slice (some ⟨g, 0, none⟩) n c) n f) {i : Nat} (hi : i < n) : w.cell? ⟨g, i, none⟩ = some (f i) ∧ w.frozen? ⟨g, i, none⟩ = false := by
 have hs := Bt.Buf.sl h
 obtain ⟨a, c', e1, h1⟩ := hs
 simp only [Value.slice.injEq] at e1
 obtain ⟨rfl, _, _⟩ := e1
 rcases h1 with h1 | ⟨b, o, e2, _, h1⟩
 ·omega
 ·simp only [Option.some.injEq, Addr.mk.injEq, and_true] at e2
  obtain ⟨rfl, rfl⟩ := e2
  refine ⟨by have := h1 i hi; rwa [Nat.zero_add] at this, ?_⟩
  rcases h.2 with ⟨e1, _⟩ | ⟨g', cap, cur, e1, hb, hg, _⟩
  ·simp at e1
  ·simp only [Value.slice.injEq, Option.some.injEq, Addr.mk.injEq, and_true, true_and] at e1
   obtain ⟨rfl, rfl⟩ := e1
   simp [World.frozen?, hg]
def Ig.mix (A D : List Int) (k i : Nat) : Value := .int .i64 (if i < k then nth A i else nth D i)
theorem Ig.acc_nth : ∀ (D : List Int) (p : Int) (k : Nat), k < D.length → nth (acc p D) k = wrap64 ((match k with | 0 => p | j + 1 => nth (acc p D) j) + nth D k)
 | [], _, _, h => by simp at h
 | x :: D, p, 0, _ => rfl
 | x :: D, p, k + 1, h => by
   have hk : k < D.length := by simpa using h
   have ih := Ig.acc_nth D (wrap64 (p + x)) k hk
   have e1 : nth (acc p (x :: D)) (k + 1) = nth (acc (wrap64 (p + x)) D) k := by simp [nth, acc]
   have e2 : nth (x :: D) (k + 1) = nth D k := by simp [nth]
   rw [e1, e2, ih]
   cases k with
   | zero => rfl
   | succ j =>
     have : nth (acc p (x :: D)) (j + 1) = nth (acc (wrap64 (p + x)) D) j := by simp [nth, acc]
     simp only [this]
theorem Ig.acc_first {D : List Int} (h : 0 < D.length) (hD : ∀ x ∈ D, Ty.I64 x) : nth (acc 0 D) 0 = nth D 0 := by
 have hx := Ig.nth_i64 hD h
 have e := Ig.acc_nth D 0 0 h
 simp only at e
 rw [e]
 unfold Ty.I64 at hx
 unfold wrap64
 omega
theorem Ig.acc_next {D : List Int} {k : Nat} (h : k + 1 < D.length) : nth (acc 0 D) (k + 1) = wrap64 (nth D (k + 1) + nth (acc 0 D) k) := by
 rw [Ig.acc_nth D 0 (k + 1) h]
 simp only
 rw [Int.add_comm]
theorem Ig.rdInts_i64 (n : Nat) : ∀ l, ∀ x ∈ (rdInts n l).2.1, Ty.I64 x := by
 induction n with
 | zero => intro l x hx; simp [rdInts] at hx
 | succ n ih =>
   intro l x hx
   simp only [rdInts] at hx
   split at hx
   ·simp at hx
   ·rcases List.mem_cons.1 hx with rfl | hx
    ·exact Ig.sg_i64 l
    ·exact ih _ x hx
def Ig.rdDelta (n : Nat) (l : List UInt8) : Nat × List Int × List UInt8 := ((rdInts n l).1, acc 0 (rdInts n l).2.1, (rdInts n l).2.2)
set_option maxRecDepth 100000 in
set_option maxHeartbeats 2000000 in
theorem Ig.readDelta_c (b n : Nat) (l : List UInt8) (w : World) (hw : Ty.Tabs w) (hG : Ty.G ≤ b) (h : Ty.Cur b w l 0) (hl : l.length ≤ 140737488355328) (hn : n ≤ 65536) :
 Calls Tryz.prog 181 #[.pointer (some ⟨b, 0, none⟩), .int .i64 n] w (Ig.Rd b w (Ig.rdDelta n l)) := by
 have hbw := h.lt
 have c0 := Ig.readPlain_c b n l w hw hG h hl hn
 have hRD : Ig.rdDelta n l = ((rdInts n l).1, acc 0 (rdInts n l).2.1, (rdInts n l).2.2) := rfl
 have hlen : (if (rdInts n l).1 = 0 then (rdInts n l).2.1 else []).length ≤ 65536 := by
  split
  ·rename_i h0
   rw [(Ig.rdInts_only n l h0).2.1]; exact hn
  ·simp
 have hi64 : ∀ x ∈ (if (rdInts n l).1 = 0 then (rdInts n l).2.1 else []), Ty.I64 x := by
  split
  ·exact Ig.rdInts_i64 n l
  ·intro x hx; cases hx
 rw [hRD]
 generalize hr : rdInts n l = r at c0 hlen hi64 ⊢
 obtain ⟨er, L, l2⟩ := r
 simp only at hlen hi64 ⊢
 have HLN := Lib.hid hlen
 have HI := Lib.hid hi64
 clear hRD hr hlen hi64 hw hG h hl hn
 go_enter Tryz.func181, Tryz.ntmps181
 go_wp2_with fail
 refine c0.mono ?_
 rintro e w1 ⟨v, rfl, hO, hc, hg⟩
 clear c0
 simp only at hO hc
 generalize hD : (if er = 0 then L else []) = D at hO HLN HI
 have HDD : Hid ((if er = 0 then acc 0 L else []) = acc 0 D) := Lib.hid (by
  rw [← hD]
  split <;> rfl)
 have HC := Lib.hid hc
 have HG := Lib.hid hg
 have hO0 := hO
 clear hc hg hD
 rcases hO.2 with ⟨rfl, hn0⟩ | ⟨g, cap, cur, rfl, hbg, hgg, hcap, _⟩
 ·obtain rfl : D = [] := List.eq_nil_of_length_eq_zero hn0
  clear hO hn0
  go_wp2
  refine wp_loop_rounds 1 ?_; rw [rounds_succ]
  go_wp2
  go_ret2
  exact ⟨_, rfl, by rw [HDD.out]; exact hO0, HC.out, HG.out⟩
 ·have hgl := HG.out.size
  have hgs : g < w1.heap.size := (Array.getElem?_eq_some_iff.1 hgg).1
  clear hO hgg
  go_wp2_with fail
  go_loopw [8] (fun i wr => ∃ j : Nat, (j = 0 ∨ j < D.length) ∧ i = .int .i64 ((j : Int) + 1) ∧ Bt.Buf 2 w.heap.size wr (.slice (some ⟨g, 0, none⟩) D.length cap) D.length (Ig.mix (acc 0 D) D (j + 1)) ∧ (er = 0 → Ty.Cur b wr l2 0) ∧ w.grownBy wr (some b)) (fun i _ => D.length - (intOf i).toNat)
  case atStart => exact ⟨0, .inl rfl, rfl, Bt.Buf.congr hO0 fun i hi => by
   unfold Ig.iv Ig.mix
   by_cases h0 : i < 0 + 1
   ·obtain rfl : i = 0 := by omega
    rw [if_pos h0, Ig.acc_first hi HI.out]
   ·rw [if_neg h0], HC.out, HG.out⟩
  case round =>
   obtain ⟨j, hk2, rfl, hB, hc, hg⟩ := hrel
   have HB := Lib.hid hB
   have HCC := Lib.hid hc
   have HGG := Lib.hid hg
   clear hB hc hg hO0
   by_cases hl2 : j + 1 < D.length
   ·have hc1 := (Ig.buf_cell HB.out hl2).1
    have hf1 := (Ig.buf_cell HB.out hl2).2
    have hc0 := (Ig.buf_cell HB.out (i := j) (by omega)).1
    unfold Ig.mix at hc1 hc0
    rw [if_neg (Nat.lt_irrefl _)] at hc1
    rw [if_pos (Nat.lt_succ_self _)] at hc0
    have HA := Lib.hid (Ig.acc_next hl2)
    generalize hx : nth D (j + 1) = x at hc1 HA
    generalize hy : nth (acc 0 D) j = y at hc0 HA
    have hkl : (j : Int) + 1 < (D.length : Int) := by omega
    have hkl2 : (j : Int) < (D.length : Int) := by omega
    have hk0 : (0 : Int) ≤ (j : Int) := by omega
    have hk00 : (0 : Int) ≤ (j : Int) + 1 := by omega
    have hsub : IntKind.i64.wrap (j : Int) = (j : Int) := by have := HLN.out; rw [IntKind.wrap_i64]; omega
    have htn : ((j : Int) + 1).toNat = j + 1 := by omega
    have hj5 : (j : Int) ≤ 65536 := by have := HLN.out; omega
    clear hx hy
    go_wp2_with fail
    refine wp_region_still_tail 11 (by kernel_rfl) (by kernel_rfl) ?_
    simp only [List.take_succ_cons, List.take_zero, List.drop_succ_cons, List.drop_zero]
    change wpStill _ _ (World.drew _) (fun a' => wpList _ _ _ _ a' (World.drew _)) _ _
    still_step
    still_step
    still_step
    still_step
    still_step
    still_step
    still_step
    still_step
    still_step
    still_step
    still_step
    refine wpStill_nil ?_
    clear hsub htn
    go_wp2
    have hs2 : Bt.Buf 2 w.heap.size (wr.setCell ⟨g, j + 1, none⟩ (.int .i64 (wrap64 (x + y)))).drew (.slice (some ⟨g, 0, none⟩) D.length cap) D.length (Ig.mix (acc 0 D) D (j + 1 + 1)) := by
     have h1 := Ig.buf_set HB.out (.int .i64 (wrap64 (x + y))) hl2
     refine (Bt.Buf.congr h1 fun i hi => ?_ : Bt.Buf 2 w.heap.size (wr.setCell ⟨g, j + 1, none⟩ (.int .i64 (wrap64 (x + y)))) _ _ _)
     unfold Ig.mix
     by_cases he : i = j + 1
     ·subst he
      rw [if_pos rfl, if_pos (Nat.lt_succ_self _), HA.out]
     ·rw [if_neg he]
      by_cases h3 : i < j + 1
      ·rw [if_pos h3, if_pos (by omega)]
      ·rw [if_neg h3, if_neg (by omega)]
    have hg2 : w.grownBy (wr.setCell ⟨g, j + 1, none⟩ (.int .i64 (wrap64 (x + y)))).drew (some b) :=
     ⟨HGG.out.os, HGG.out.tape, HGG.out.output, by have := HGG.out.size; simpa [World.setCell] using this, fun k hk hn => (Below.heap_setCell _ _ _ _ (by show k ≠ g; omega)).trans (HGG.out.block k hk hn)⟩
    have hc2 : er = 0 → Ty.Cur b (wr.setCell ⟨g, j + 1, none⟩ (.int .i64 (wrap64 (x + y)))).drew l2 0 := fun h => by
     have := HCC.out h
     unfold Ty.Cur at this ⊢
     exact (Below.heap_setCell _ _ _ _ (by show b ≠ g; omega)).trans this
    refine ⟨⟨j + 1, .inr hl2, by simp, hs2, hc2, hg2⟩, ?_⟩
    simp [intOf]
    omega
   ·have hki : ¬ (j : Int) + 1 < (D.length : Int) := by omega
    go_wp2
    go_ret2
    refine ⟨_, rfl, ?_, HCC.out, HGG.out⟩
    rw [HDD.out]
    have h1 : Bt.Buf 2 w.heap.size _ (.slice (some ⟨g, 0, none⟩) D.length cap) D.length (Ig.iv (acc 0 D)) := Bt.Buf.congr HB.out fun i hi => by
     unfold Ig.mix Ig.iv
     rw [if_pos (by omega)]
    unfold Ig.Own
    rw [Ig.acc_len]
    exact h1
end
section
open Go.RowKit
open Ig (nth encI encR grp diffs prv low off sg rest rdInts acc rdRuns spread)
open Ty (encU num)
def Ig.rr (m : Nat) (p : Option Int) (l : List UInt8) : Nat × List (Nat × Int) × List UInt8 := rdRuns m m p l
theorem Ig.fuel : ∀ (f g m : Nat) (p : Option Int) (l : List UInt8), m ≤ f → m ≤ g → rdRuns f m p l = rdRuns g m p l
 | f, g, 0, p, l, _, _ => by rw [Ig.rdRuns_zero, Ig.rdRuns_zero]
 | 0, _, m + 1, _, _, h, _ => by omega
 | _, 0, m + 1, _, _, _, h => by omega
 | f + 1, g + 1, m + 1, p, l, h1, h2 => by
   simp only [rdRuns]
   split
   ·rfl
   ·split
    ·rfl
    ·split
     ·rfl
     ·split
      ·rfl
      ·rename_i a b c d
       rw [Ig.fuel f g (m + 1 - (num l).1) (some (sg (rest l))) (rest (rest l)) (by omega) (by omega)]
theorem Ig.rr_zero (p : Option Int) (l : List UInt8) : Ig.rr 0 p l = (0, [], l) := Ig.rdRuns_zero _ _ _
theorem Ig.rr_step (m : Nat) (hm : 0 < m) (p : Option Int) (l : List UInt8) : Ig.rr m p l =
 if (num l).2.2 ≠ 0 then ((num l).2.2, [], l)
 else if (num l).1 = 0 ∨ m < (num l).1 then (4, [], l)
 else if (num (rest l)).2.2 ≠ 0 then ((num (rest l)).2.2, [], l)
 else if p = some (sg (rest l)) then (4, [], l)
 else ((Ig.rr (m - (num l).1) (some (sg (rest l))) (rest (rest l))).1, ((num l).1, sg (rest l)) :: (Ig.rr (m - (num l).1) (some (sg (rest l))) (rest (rest l))).2.1, (Ig.rr (m - (num l).1) (some (sg (rest l))) (rest (rest l))).2.2) := by
 obtain ⟨j, rfl⟩ : ∃ j, m = j + 1 := ⟨m - 1, by omega⟩
 unfold Ig.rr
 conv => lhs; simp only [rdRuns]
 split
 ·rfl
 ·split
  ·rfl
  ·split
   ·rfl
   ·split
    ·rfl
    ·rename_i a b c d
     rw [Ig.fuel j (j + 1 - (num l).1) (j + 1 - (num l).1) (some (sg (rest l))) (rest (rest l)) (by omega) (by omega)]
def Ig.rdR (n : Nat) (l : List UInt8) : Nat × List Int × List UInt8 := ((Ig.rr n none l).1, spread (Ig.rr n none l).2.1, (Ig.rr n none l).2.2)
def Ig.MidR (n : Nat) (l : List UInt8) (M : List Int) (l2 : List UInt8) : Prop := M.length ≤ n ∧ l2.length ≤ l.length ∧
 Ig.rdR n l = ((Ig.rr (n - M.length) M.getLast? l2).1, M ++ spread (Ig.rr (n - M.length) M.getLast? l2).2.1, (Ig.rr (n - M.length) M.getLast? l2).2.2)
theorem Ig.MidR.start (n : Nat) (l : List UInt8) : Ig.MidR n l [] l := ⟨by simp, Nat.le_refl _, by simp [Ig.rdR]⟩
theorem Ig.MidR.done {n : Nat} {l : List UInt8} {M : List Int} {l2 : List UInt8} (h : Ig.MidR n l M l2) (hn : n ≤ M.length) : Ig.rdR n l = (0, M, l2) := by
 obtain ⟨h1, h2, h3⟩ := h
 rw [h3, show n - M.length = 0 by omega, Ig.rr_zero]
 simp [spread]
theorem Ig.MidR.bad1 {n : Nat} {l : List UInt8} {M : List Int} {l2 : List UInt8} (h : Ig.MidR n l M l2) (hn : M.length < n) (h1 : (num l2).2.2 ≠ 0) : (Ig.rdR n l).1 = (num l2).2.2 := by
 obtain ⟨_, _, h3⟩ := h
 rw [h3, Ig.rr_step _ (by omega), if_pos h1]
theorem Ig.MidR.bad2 {n : Nat} {l : List UInt8} {M : List Int} {l2 : List UInt8} (h : Ig.MidR n l M l2) (hn : M.length < n) (h1 : (num l2).2.2 = 0) (h2 : (num l2).1 = 0 ∨ n - M.length < (num l2).1) : (Ig.rdR n l).1 = 4 := by
 obtain ⟨_, _, h3⟩ := h
 rw [h3, Ig.rr_step _ (by omega), if_neg (by rw [h1]; simp), if_pos h2]
theorem Ig.MidR.bad3 {n : Nat} {l : List UInt8} {M : List Int} {l2 : List UInt8} (h : Ig.MidR n l M l2) (hn : M.length < n) (h1 : (num l2).2.2 = 0) (h2 : ¬ ((num l2).1 = 0 ∨ n - M.length < (num l2).1)) (h4 : (num (rest l2)).2.2 ≠ 0) : (Ig.rdR n l).1 = (num (rest l2)).2.2 := by
 obtain ⟨_, _, h3⟩ := h
 rw [h3, Ig.rr_step _ (by omega), if_neg (by rw [h1]; simp), if_neg h2, if_pos h4]
theorem Ig.MidR.bad4 {n : Nat} {l : List UInt8} {M : List Int} {l2 : List UInt8} (h : Ig.MidR n l M l2) (hn : M.length < n) (h1 : (num l2).2.2 = 0) (h2 : ¬ ((num l2).1 = 0 ∨ n - M.length < (num l2).1)) (h4 : (num (rest l2)).2.2 = 0) (h5 : M.getLast? = some (sg (rest l2))) : (Ig.rdR n l).1 = 4 := by
 obtain ⟨_, _, h3⟩ := h
 rw [h3, Ig.rr_step _ (by omega), if_neg (by rw [h1]; simp), if_neg h2, if_neg (by rw [h4]; simp), if_pos h5]
theorem Ig.MidR.next {n : Nat} {l : List UInt8} {M : List Int} {l2 : List UInt8} (h : Ig.MidR n l M l2) (hn : M.length < n) (h1 : (num l2).2.2 = 0) (h2 : ¬ ((num l2).1 = 0 ∨ n - M.length < (num l2).1)) (h4 : (num (rest l2)).2.2 = 0) (h5 : ¬ M.getLast? = some (sg (rest l2))) :
 Ig.MidR n l (M ++ List.replicate (num l2).1 (sg (rest l2))) (rest (rest l2)) := by
 obtain ⟨_, hl, h3⟩ := h
 have e1 : (M ++ List.replicate (num l2).1 (sg (rest l2))).getLast? = some (sg (rest l2)) := by
  obtain ⟨j, hj⟩ : ∃ j, (num l2).1 = j + 1 := ⟨(num l2).1 - 1, by omega⟩
  rw [hj, List.replicate_succ', ← List.append_assoc, List.getLast?_append]
  simp
 have e2 : n - (M ++ List.replicate (num l2).1 (sg (rest l2))).length = n - M.length - (num l2).1 := by simp; omega
 refine ⟨by simp; omega, Nat.le_trans (Nat.le_trans (Ig.rest_le _) (Ig.rest_le _)) hl, ?_⟩
 rw [e1, e2, h3, Ig.rr_step (n - M.length) (by omega), if_neg (by rw [h1]; simp), if_neg h2, if_neg (by rw [h4]; simp), if_neg h5]
 simp [spread]
theorem Ig.last_nth {M : List Int} {q : Nat} (h : M.length = q + 1) : M.getLast? = some (nth M q) := by
 rw [List.getLast?_eq_getElem?, h, Ig.nth_get (by omega), List.getElem?_eq_getElem (by omega)]
 simp
end
section
open Go.RowKit
open Ig (nth encI encR grp diffs prv low off sg rest rdInts acc rdRuns spread)
open Ty (encU num)
theorem Ig.own_len {base : Nat} {w : World} {v : Value} {M : List Int} (h : Ig.Own base w v M) : ∃ a c, v = .slice a M.length c := by
 obtain ⟨a, c, rfl, _⟩ := Bt.Buf.sl h
 exact ⟨a, c, rfl⟩
theorem Ig.own_some {base : Nat} {w : World} {v : Value} {M : List Int} {q : Nat} (h : Ig.Own base w v M) (hq : M.length = q + 1) : ∃ g c, v = .slice (some ⟨g, 0, none⟩) (q + 1) c ∧ w.cell? ⟨g, q, none⟩ = some (.int .i64 (nth M q)) := by
 obtain ⟨a, c, rfl, h1⟩ := Bt.Buf.sl h
 rcases h.2 with ⟨e1, e2⟩ | ⟨g, cap, cur, e1, _⟩
 ·omega
 ·simp only [Value.slice.injEq, true_and] at e1
  obtain ⟨rfl, rfl⟩ := e1
  refine ⟨g, c, by rw [hq], ?_⟩
  have := (Ig.buf_cell (i := q) h (by omega)).1
  exact this
theorem Ig.rep_snoc (M : List Int) (x : Int) (j : Nat) : M ++ List.replicate (j + 1) x = (M ++ List.replicate j x) ++ [x] := by
 rw [List.replicate_succ', List.append_assoc]
theorem Ig.rep_len (M : List Int) (x : Int) (j : Nat) : (M ++ List.replicate j x).length = M.length + j := by simp
set_option maxHeartbeats 4000000 in
set_option maxRecDepth 100000 in
theorem Ig.readRuns_c (b n : Nat) (l : List UInt8) (w : World) (hw : Ty.Tabs w) (hG : Ty.G ≤ b) (h : Ty.Cur b w l 0) (hl : l.length ≤ 140737488355328) (hn : n ≤ 65536) :
 Calls Tryz.prog 183 #[.pointer (some ⟨b, 0, none⟩), .int .i64 n] w (Ig.Rd b w (Ig.rdR n l)) := by
 have hbw := h.lt
 go_enter Tryz.func183, Tryz.ntmps183
 go_wp2
 go_loopw [6] (fun lv wr => ∃ M l2, Ig.MidR n l M l2 ∧ Ig.Own w.heap.size wr lv M ∧ Ty.Cur b wr l2 0 ∧ w.grownBy wr (some b)) (fun lv _ => match lv with | .slice _ m _ => n - m | _ => 0)
 case atStart => exact ⟨[], l, Ig.MidR.start n l, Ig.Own.nil _ _, h, Ty.by_refl _ _⟩
 case round =>
  obtain ⟨M, l2, hM, hO, hc, hg⟩ := hrel
  have hT := hw.by hg (by intro k hk; cases hk; exact hG)
  have hMn := hM.1
  have hl2 := hM.2.1
  have HM := Lib.hid hM
  have HO := Lib.hid hO
  have HGR := Lib.hid hg
  obtain ⟨a, c, rfl⟩ := Ig.own_len hO
  clear hM hO hg h
  by_cases hk : M.length < n
  ·have hki : (M.length : Int) < (n : Int) := by omega
   have cu := Ig.cuint_m b l2 wr hT hc (by omega)
   have hu := Ty.num_u64 l2
   by_cases he : (num l2).2.2 = 0
   ·rw [he] at cu
    have HE := Lib.hid he
    have hr1 := Ig.rest_le l2
    by_cases hb2 : (num l2).1 = 0 ∨ n - M.length < (num l2).1
    ·have HB := Lib.hid (HM.out.bad2 hk he hb2)
     generalize (num l2).1 = k at cu hb2
     generalize rest l2 = l3 at cu
     clear he hc hT hl2 hr1 hu
     rcases Nat.eq_zero_or_pos k with h0 | h0
     ·subst h0
      clear hb2
      go_wp2_with fail
      refine cu.mono ?_
      rintro e w3 ⟨rfl, hc3, hg3⟩
      have HG3 := Lib.hid (Ty.by_trans HGR.out hg3)
      have HC3 := Lib.hid hc3
      clear cu hg3 hc3
      go_wp2_with fail
      refine (Ty.err_c b _ 0 _ HC3.out).mono ?_
      rintro e w4 ⟨rfl, rfl⟩
      go_wp2
      go_ret2
      exact Ig.Rd.bad (by rw [HB.out]; rfl) (by rw [HB.out]; omega) HG3.out
     ·have hk0 : ((k : Int) == 0) = false := by rw [beq_eq_false_iff_ne]; omega
      have hlt : (n : Int) - (M.length : Int) < (k : Int) := by omega
      clear hb2
      go_wp2_with fail
      refine cu.mono ?_
      rintro e w3 ⟨rfl, hc3, hg3⟩
      have HG3 := Lib.hid (Ty.by_trans HGR.out hg3)
      have HC3 := Lib.hid hc3
      clear cu hg3 hc3
      go_wp2_with fail
      refine (Ty.err_c b _ 0 _ HC3.out).mono ?_
      rintro e w4 ⟨rfl, rfl⟩
      go_wp2
      go_ret2
      exact Ig.Rd.bad (by rw [HB.out]; rfl) (by rw [HB.out]; omega) HG3.out
    ·have HNB := Lib.hid hb2
     have hk1 : 0 < (num l2).1 := by omega
     have hk2 : (num l2).1 ≤ n - M.length := by omega
     have ci := fun wz h1 h2 => Ig.cint_m b (rest l2) wz h1 h2 (by omega)
     have hk0 : (((num l2).1 : Int) == 0) = false := by rw [beq_eq_false_iff_ne]; omega
     have hle : ((num l2).1 : Int) ≤ (n : Int) - (M.length : Int) := by omega
     by_cases he2 : (num (rest l2)).2.2 = 0
     ·rw [he2] at ci
      by_cases hlast : M.getLast? = some (sg (rest l2))
      ·have HB := Lib.hid (HM.out.bad4 hk he hb2 he2 hlast)
       obtain ⟨q, hq⟩ : ∃ q, M.length = q + 1 := by
        cases hM : M with
        | nil => rw [hM] at hlast; cases hlast
        | cons y M => exact ⟨M.length, rfl⟩
       rw [Ig.last_nth hq] at hlast
       have hx : nth M q = sg (rest l2) := Option.some.inj hlast
       obtain ⟨g, c', hv, _⟩ := Ig.own_some HO.out hq
       simp only [Value.slice.injEq] at hv
       obtain ⟨rfl, _, rfl⟩ := hv
       have hq2 : q < M.length := by omega
       generalize (num l2).1 = k at cu hk1 hk2 hu hk0 hle
       generalize sg (rest l2) = x at ci hx
       generalize rest (rest l2) = l4 at ci
       generalize rest l2 = l3 at cu ci
       have HX := Lib.hid hx
       have HQ := Lib.hid hq2
       clear he he2 hlast hq hx hr1 hb2 hl2 hq2
       go_wp2_with fail
       refine cu.mono ?_
       rintro e w3 ⟨rfl, hc3, hg3⟩
       have hT3 := hT.at_ hg3 hG
       have hO3 := HO.out.by hg3 hbw
       have HG3 := Lib.hid (Ty.by_trans HGR.out hg3)
       have HC3 := Lib.hid hc3
       have HO3 := Lib.hid hO3
       clear cu hg3 hc3 hO3 hc hT
       go_wp2_with fail
       refine (Ty.err_c b _ 0 _ HC3.out).mono ?_
       rintro e w4 ⟨rfl, rfl⟩
       have ci2 := ci _ hT3 HC3.out
       clear ci
       go_wp2_with fail
       refine ci2.mono ?_
       rintro e w5 ⟨rfl, hc5, hg5⟩
       have HO5 := Lib.hid (HO3.out.by hg5 hbw)
       have HG5 := Lib.hid (Ty.by_trans HG3.out hg5)
       have HC5 := Lib.hid hc5
       clear ci2 hg5 hc5 hT3 HO3 HG3 HC3
       go_wp2_with fail
       refine (Ty.err_c b _ 0 _ HC5.out).mono ?_
       rintro e w6 ⟨rfl, rfl⟩
       have hcl : _ = some (Value.int .i64 _) := (Ig.buf_cell HO5.out HQ.out).1
       rw [HX.out] at hcl
       go_wp2
       go_ret2
       exact Ig.Rd.bad (by rw [HB.out]; rfl) (by rw [HB.out]; omega) HG5.out
      ·have HN := Lib.hid (HM.out.next hk he hb2 he2 hlast)
       have hu2 := hu
       generalize hkk : (num l2).1 = k at cu hk1 hk2 hu hk0 hle HN
       generalize hxx : sg (rest l2) = x at ci HN hlast
       generalize rest (rest l2) = l4 at ci HN
       generalize rest l2 = l3 at cu ci
       clear he he2 hr1 hb2 hl2 hkk hxx hu2
       rcases (by
        cases hM : M with
        | nil => exact .inl rfl
        | cons y M' => exact .inr ⟨M'.length, rfl⟩ : M.length = 0 ∨ ∃ q, M.length = q + 1) with hq | ⟨q, hq⟩
       ·have hz : ¬ (0 : Int) < (M.length : Int) := by omega
        have HZ := Lib.hid hz
        clear hlast hz
        go_wp2_with fail
        refine cu.mono ?_
        rintro e w3 ⟨rfl, hc3, hg3⟩
        have hT3 := hT.at_ hg3 hG
        have hO3 := HO.out.by hg3 hbw
        have HG3 := Lib.hid (Ty.by_trans HGR.out hg3)
        have HC3 := Lib.hid hc3
        have HO3 := Lib.hid hO3
        clear cu hg3 hc3 hO3 hc hT
        go_wp2_with fail
        refine (Ty.err_c b _ 0 _ HC3.out).mono ?_
        rintro e w4 ⟨rfl, rfl⟩
        have ci2 := ci _ hT3 HC3.out
        clear ci
        go_wp2_with fail
        refine ci2.mono ?_
        rintro e w5 ⟨rfl, hc5, hg5⟩
        have HO5 := Lib.hid (HO3.out.by hg5 hbw)
        have HG5 := Lib.hid (Ty.by_trans HG3.out hg5)
        have HC5 := Lib.hid hc5
        clear ci2 hg5 hc5 hT3 HO3 HG3 HC3
        go_wp2_with fail
        refine (Ty.err_c b _ 0 _ HC5.out).mono ?_
        rintro e w6 ⟨rfl, rfl⟩
        have hkb : (k : Int) ≤ 65536 := by omega
        have HKN : Hid (k ≤ n - M.length ∧ 0 < k) := Lib.hid ⟨hk2, hk1⟩
        have HO6 := HO5.out
        rw [hq] at HO6
        go_wp2
        go_loopw [6, 52] (fun lv i wz => ∃ j M2, j ≤ k ∧ i = .int .u64 ((j : Nat) : Int) ∧ M2 = M ++ List.replicate j x ∧ Ig.Own w.heap.size wz lv M2 ∧ Ty.Cur b wz l4 0 ∧ w.grownBy wz (some b)) (fun _ i _ => k - (intOf i).toNat)
        case atStart => exact ⟨0, M, by omega, rfl, by simp, HO6, HC5.out, HG5.out⟩
        case round =>
         obtain ⟨j, M2, hj, rfl, hM2, hO2, hc2, hg2⟩ := hrel
         have HM2 := Lib.hid hM2
         have HO2 := Lib.hid hO2
         have HC2 := Lib.hid hc2
         have HG2 := Lib.hid hg2
         have hM2l : M2.length = M.length + j := by rw [hM2]; exact Ig.rep_len M x j
         have HL2 := Lib.hid hM2l
         have hs2 := hg2.size
         obtain ⟨a2, c2, rfl⟩ := Ig.own_len hO2
         clear hM2 hc2 hg2 hM2l HO6 hO2
         by_cases hjk : j < k
         ·have hji : (j : Int) < (k : Int) := by omega
          have hj0 : (0 : Int) ≤ (j : Int) := by omega
          go_wp2_with (at_builtin; refine Bt.wpList_append_one 2 187 (.int .i64 0) 8 Tryz.underlying187 Ig.infoI rfl (HO2.out.pre x) (by omega) (by have := HL2.out; have := HKN.out; omega) (by have := HL2.out; have := HKN.out; omega) (.tmp 54) (.tmp 56) _ rfl rfl rfl rfl rfl ?_; intro v7 w7 h7 g7)
          have H7 := Lib.hid (Ig.Own.post (h7 (Ig.iv_snoc M2 x)))
          have HC7 := Lib.hid (Ig.cur_grew HC2.out g7 (Ig.buf_ne HO2.out hbw))
          have HG7 := Lib.hid (Ig.grew_by g7 HG2.out (Bt.Buf.base_le HO2.out))
          clear h7 g7
          go_roundw
          case rel => exact ⟨j + 1, _, by omega, by simp, by rw [HM2.out, Ig.rep_snoc], H7.out, HC7.out, HG7.out⟩
          case measure => simp [intOf]; omega
         ·obtain rfl : j = k := by omega
          have hji : ¬ (j : Int) < (j : Int) := by omega
          go_wp2
          go_roundw
          case rel => exact ⟨M2, l4, by rw [HM2.out]; exact HN.out, HO2.out, HC2.out, HG2.out⟩
          case measure =>
           have := HL2.out
           have := HKN.out
           simp only
           omega
       ·have hx : nth M q ≠ x := fun e => hlast (by rw [Ig.last_nth hq, e])
        obtain ⟨g, c', hv, _⟩ := Ig.own_some HO.out hq
        simp only [Value.slice.injEq] at hv
        obtain ⟨rfl, _, rfl⟩ := hv
        have hq2 : q < M.length := by omega
        obtain ⟨y, ey⟩ : ∃ y, y = nth M q := ⟨_, rfl⟩
        have hxy : (y == x) = false := by rw [beq_eq_false_iff_ne, ey]; exact hx
        have HY := Lib.hid ey
        have HQ := Lib.hid hq2
        clear hlast hx ey hq2
        go_wp2_with fail
        refine cu.mono ?_
        rintro e w3 ⟨rfl, hc3, hg3⟩
        have hT3 := hT.at_ hg3 hG
        have hO3 := HO.out.by hg3 hbw
        have HG3 := Lib.hid (Ty.by_trans HGR.out hg3)
        have HC3 := Lib.hid hc3
        have HO3 := Lib.hid hO3
        clear cu hg3 hc3 hO3 hc hT
        go_wp2_with fail
        refine (Ty.err_c b _ 0 _ HC3.out).mono ?_
        rintro e w4 ⟨rfl, rfl⟩
        have ci2 := ci _ hT3 HC3.out
        clear ci
        go_wp2_with fail
        refine ci2.mono ?_
        rintro e w5 ⟨rfl, hc5, hg5⟩
        have HO5 := Lib.hid (HO3.out.by hg5 hbw)
        have HG5 := Lib.hid (Ty.by_trans HG3.out hg5)
        have HC5 := Lib.hid hc5
        clear ci2 hg5 hc5 hT3 HO3 HG3 HC3
        go_wp2_with fail
        refine (Ty.err_c b _ 0 _ HC5.out).mono ?_
        rintro e w6 ⟨rfl, rfl⟩
        have hcl : _ = some (Value.int .i64 _) := (Ig.buf_cell HO5.out HQ.out).1
        rw [← HY.out] at hcl
        have hkb : (k : Int) ≤ 65536 := by omega
        have HKN : Hid (k ≤ n - M.length ∧ 0 < k) := Lib.hid ⟨hk2, hk1⟩
        have HO6 := HO5.out
        rw [hq] at HO6
        go_wp2
        go_loopw [6, 52] (fun lv i wz => ∃ j M2, j ≤ k ∧ i = .int .u64 ((j : Nat) : Int) ∧ M2 = M ++ List.replicate j x ∧ Ig.Own w.heap.size wz lv M2 ∧ Ty.Cur b wz l4 0 ∧ w.grownBy wz (some b)) (fun _ i _ => k - (intOf i).toNat)
        case atStart => exact ⟨0, M, by omega, rfl, by simp, HO6, HC5.out, HG5.out⟩
        case round =>
         obtain ⟨j, M2, hj, rfl, hM2, hO2, hc2, hg2⟩ := hrel
         have HM2 := Lib.hid hM2
         have HO2 := Lib.hid hO2
         have HC2 := Lib.hid hc2
         have HG2 := Lib.hid hg2
         have hM2l : M2.length = M.length + j := by rw [hM2]; exact Ig.rep_len M x j
         have HL2 := Lib.hid hM2l
         have hs2 := hg2.size
         obtain ⟨a2, c2, rfl⟩ := Ig.own_len hO2
         clear hM2 hc2 hg2 hM2l HO6 hO2
         by_cases hjk : j < k
         ·have hji : (j : Int) < (k : Int) := by omega
          have hj0 : (0 : Int) ≤ (j : Int) := by omega
          go_wp2_with (at_builtin; refine Bt.wpList_append_one 2 187 (.int .i64 0) 8 Tryz.underlying187 Ig.infoI rfl (HO2.out.pre x) (by omega) (by have := HL2.out; have := HKN.out; omega) (by have := HL2.out; have := HKN.out; omega) (.tmp 54) (.tmp 56) _ rfl rfl rfl rfl rfl ?_; intro v7 w7 h7 g7)
          have H7 := Lib.hid (Ig.Own.post (h7 (Ig.iv_snoc M2 x)))
          have HC7 := Lib.hid (Ig.cur_grew HC2.out g7 (Ig.buf_ne HO2.out hbw))
          have HG7 := Lib.hid (Ig.grew_by g7 HG2.out (Bt.Buf.base_le HO2.out))
          clear h7 g7
          go_roundw
          case rel => exact ⟨j + 1, _, by omega, by simp, by rw [HM2.out, Ig.rep_snoc], H7.out, HC7.out, HG7.out⟩
          case measure => simp [intOf]; omega
         ·obtain rfl : j = k := by omega
          have hji : ¬ (j : Int) < (j : Int) := by omega
          go_wp2
          go_roundw
          case rel => exact ⟨M2, l4, by rw [HM2.out]; exact HN.out, HO2.out, HC2.out, HG2.out⟩
          case measure =>
           have := HL2.out
           have := HKN.out
           simp only
           omega
     ·have HB := Lib.hid (HM.out.bad3 hk he hb2 he2)
      generalize (num (rest l2)).2.2 = q at ci he2 HB
      have hne : ((q : Int) != 0) = true := by rw [bne_iff_ne]; omega
      have HQ := Lib.hid he2
      generalize (num l2).1 = k at cu hk1 hk2 hu hk0 hle
      generalize sg (rest l2) = x at ci
      generalize rest (rest l2) = l4 at ci
      generalize rest l2 = l3 at cu ci
      clear he he2 hr1 hb2 hl2
      go_wp2_with fail
      refine cu.mono ?_
      rintro e w3 ⟨rfl, hc3, hg3⟩
      have hT3 := hT.at_ hg3 hG
      have hO3 := HO.out.by hg3 hbw
      have HG3 := Lib.hid (Ty.by_trans HGR.out hg3)
      have HC3 := Lib.hid hc3
      have HO3 := Lib.hid hO3
      clear cu hg3 hc3 hO3 hc hT
      go_wp2_with fail
      refine (Ty.err_c b _ 0 _ HC3.out).mono ?_
      rintro e w4 ⟨rfl, rfl⟩
      have ci2 := ci _ hT3 HC3.out
      clear ci
      go_wp2_with fail
      refine ci2.mono ?_
      rintro e w5 ⟨rfl, hc5, hg5⟩
      have HO5 := Lib.hid (HO3.out.by hg5 hbw)
      have HG5 := Lib.hid (Ty.by_trans HG3.out hg5)
      have HC5 := Lib.hid hc5
      clear ci2 hg5 hc5 hT3 HO3 HG3 HC3
      go_wp2_with fail
      refine (Ty.err_c b _ q _ HC5.out).mono ?_
      rintro e w6 ⟨rfl, rfl⟩
      go_wp2_with fail
      refine (Ty.err_c b _ q _ HC5.out).mono ?_
      rintro e w6 ⟨rfl, rfl⟩
      go_wp2
      go_ret2
      exact Ig.Rd.bad (by rw [HB.out]) (by rw [HB.out]; exact HQ.out) HG5.out
   ·have HE := Lib.hid (HM.out.bad1 hk he)
    generalize (num l2).2.2 = q at cu he HE
    have hne : ((q : Int) != 0) = true := by rw [bne_iff_ne]; omega
    have HQ := Lib.hid he
    clear he hT hc hu hl2
    go_wp2_with fail
    refine cu.mono ?_
    rintro e w3 ⟨rfl, hc3, hg3⟩
    have HG3 := Lib.hid (Ty.by_trans HGR.out hg3)
    have HC3 := Lib.hid hc3
    clear cu hg3 hc3
    go_wp2_with fail
    refine (Ty.err_c b _ q _ HC3.out).mono ?_
    rintro e w4 ⟨rfl, rfl⟩
    go_wp2_with fail
    refine (Ty.err_c b _ q _ HC3.out).mono ?_
    rintro e w4 ⟨rfl, rfl⟩
    go_wp2
    go_ret2
    exact Ig.Rd.bad (by rw [HE.out]) (by rw [HE.out]; exact HQ.out) HG3.out
  ·have hki : ¬ (M.length : Int) < (n : Int) := by omega
   have HD := Lib.hid (HM.out.done (by omega))
   have HC := Lib.hid hc
   clear hc hl2 hMn
   go_wp2
   go_ret2
   exact Ig.Rd.good (by rw [HD.out]) (by rw [HD.out]; exact HO.out) (by rw [HD.out]; exact HC.out) HGR.out
end
section
open Go.RowKit
open Ig (nth encI encR grp diffs prv low off sg rest rdInts acc rdRuns spread outs good un)
open Ty (encU num)
theorem Ig.own_row {base : Nat} {w : World} {g n : Nat} {L : List Int} (h : w.rowIs g 2 n (Ig.iv L)) (hn : L.length = n) (hb : base ≤ g) (hm : n ≤ maxLen) : Ig.Own base w (.slice (some ⟨g, 0, none⟩) n n) L := by
 obtain ⟨c, hg, hc, hf⟩ := h
 subst hn
 refine ⟨by simp, .inr ⟨g, L.length, c, rfl, hb, hg, Nat.le_refl _, hm, by simpa using hc, ?_⟩⟩
 rw [Nat.mul_one]
 refine List.ext_getElem? fun j => ?_
 by_cases hj : j < L.length
 ·rw [List.getElem?_take_of_lt hj, List.getElem?_map, List.getElem?_range hj, Array.getElem?_toList, hf j hj]
  rfl
 ·rw [List.getElem?_eq_none (by rw [List.length_take]; omega), List.getElem?_eq_none (by simp; omega)]
theorem Ig.un_nums (s : ByteArray) (q : Nat) : un s q = Bt.nums s q := rfl
theorem Ig.low_zero {n : Nat} {x : Int} {X : Nat → Nat} (hn : 0 < n) (hX : ∀ i, X i < 2 ^ 64) (h : low (outs n x X) = x) : (List.range n).any (fun i => X i == 0) = true := by
 have hne : outs n x X ≠ [] := by
  intro e
  have := congrArg List.length e
  simp [outs] at this
  omega
 have hm := Ig.low_mem _ hne
 rw [h] at hm
 obtain ⟨i, hi, e⟩ := List.mem_map.1 hm
 refine List.any_eq_true.2 ⟨i, hi, ?_⟩
 have h2 := hX i
 unfold wrap64 at e
 rw [beq_iff_eq]
 omega
theorem Ig.good_is {n q : Nat} {x : Int} {X : Nat → Nat} (hn : 0 < n) (hX : ∀ i, X i < 2 ^ 64) : good n q x X = true ↔ Bt.wid n X = q ∧ low (outs n x X) = x := by
 unfold good
 simp only [Bool.and_eq_true, beq_iff_eq]
 constructor
 ·rintro ⟨⟨_, h1⟩, h2⟩
  exact ⟨h1, h2⟩
 ·rintro ⟨h1, h2⟩
  exact ⟨⟨Ig.low_zero hn hX h2, h1⟩, h2⟩
end
end Go.Proofs.YtbelkhkllneifaaGreatDoor
