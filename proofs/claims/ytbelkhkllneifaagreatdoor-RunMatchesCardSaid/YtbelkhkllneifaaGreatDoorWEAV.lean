import Derived.Test.YtbelkhkllneifaaGreatDoorWEAU
import Derived.Test.YtbelkhkllneifaaGreatDoorWEAO
import Derived.Laws.MakeOwn
import Derived.Test.YtbelkhkllneifaaGreatDoorWEAT
import Derived.Test.YtbelkhkllneifaaGreatDoorWEAF
import Derived.Test.YtbelkhkllneifaaGreatDoorWEAN
namespace Go.Proofs.YtbelkhkllneifaaGreatDoor
section
open Go.RowKit
open Ty (encU num txt)
open Ig (rest)
open Tx (restT rdWords rdPick)
theorem Tx.cuint_m (b : Nat) (l : List UInt8) (w : World) (hw : Ty.Tabs w) (h : Ty.Cur b w l 0) (hl : l.length ≤ 9223372036854775807) :
 Calls Tryz.prog 149 #[.pointer (some ⟨b, 0, none⟩)] w (Ty.Left b w (.int .u64 ((num l).1 : Int)) (rest l) (num l).2.2) := by
 have e : Ty.rdU l 0 = ((num l).1, rest l, (num l).2.2) := by unfold Ty.rdU; rw [if_neg (by omega)]; rfl
 have := Ty.cuint_c b l 0 w hw h hl
 rw [e] at this
 exact this
theorem Tx.ctext_m (b : Nat) (l : List UInt8) (w : World) (hw : Ty.Tabs w) (h : Ty.Cur b w l 0) (hl : l.length ≤ 9223372036854775807) :
 Calls Tryz.prog 153 #[.pointer (some ⟨b, 0, none⟩), .int .i64 64] w (Ty.Left b w (.string (Ty.S (txt l 64).1)) (restT l) (txt l 64).2.2) := by
 have e : Ty.rdT 64 l 0 = ((txt l 64).1, restT l, (txt l 64).2.2) := by unfold Ty.rdT; rw [if_neg (by omega)]; rfl
 have := Ty.ctext_c b l 0 64 (by omega) w hw h hl
 rw [e] at this
 exact this
theorem Tx.rest_le (l : List UInt8) : (rest l).length ≤ l.length := by unfold rest; rw [List.length_drop]; omega
theorem Tx.restT_le (l : List UInt8) : (restT l).length ≤ l.length := by unfold restT; rw [List.length_drop]; omega
def Tx.cntE (l : List UInt8) : Nat := if (num l).2.2 ≠ 0 then (num l).2.2 else if 65536 < (num l).1 then 3 else 0
set_option maxRecDepth 100000 in
set_option maxHeartbeats 1000000 in
theorem Tx.readCount_c (b : Nat) (l : List UInt8) (w : World) (hw : Ty.Tabs w) (h : Ty.Cur b w l 0) (hl : l.length ≤ 140737488355328) :
 Calls Tryz.prog 204 #[.pointer (some ⟨b, 0, none⟩)] w fun e w' => ∃ n : Nat, e = .returned (.tuple #[.int .i64 (n : Int), .int .i64 ((Tx.cntE l : Nat) : Int)]) ∧ (Tx.cntE l = 0 → n = (num l).1 ∧ n ≤ 65536 ∧ Ty.Cur b w' (rest l) 0) ∧ w.grownBy w' (some b) := by
 have cu := Tx.cuint_m b l w hw h (by omega)
 by_cases he : (num l).2.2 = 0
 ·rw [he] at cu
  by_cases hn : 65536 < (num l).1
  ·have HE : Hid (Tx.cntE l = 3) := Lib.hid (by unfold Tx.cntE; rw [if_neg (by rw [he]; simp), if_pos hn])
   rw [HE.out]
   have hni : (65536 : Int) < ((num l).1 : Int) := by omega
   generalize (num l).1 = x at cu hni
   clear he h hn
   go_enter Tryz.func204, Tryz.ntmps204
   go_wp2_with fail
   refine cu.mono ?_
   rintro e w3 ⟨rfl, hc3, hg3⟩
   have HC3 := Lib.hid hc3
   have HG3 := Lib.hid hg3
   clear cu hc3 hg3
   go_wp2_with fail
   refine (Ty.err_c b _ 0 _ HC3.out).mono ?_
   rintro e w4 ⟨rfl, rfl⟩
   go_wp2
   go_ret2
   exact ⟨0, rfl, fun e => absurd e (by decide), HG3.out⟩
  ·have HE : Hid (Tx.cntE l = 0) := Lib.hid (by unfold Tx.cntE; rw [if_neg (by rw [he]; simp), if_neg hn])
   rw [HE.out]
   have hni : ¬ (65536 : Int) < ((num l).1 : Int) := by omega
   have HX : Hid ((num l).1 ≤ 65536) := Lib.hid (by omega)
   generalize (num l).1 = x at cu hni HX ⊢
   have hx0 : (0 : Int) ≤ (x : Int) := by omega
   clear he h hn
   go_enter Tryz.func204, Tryz.ntmps204
   go_wp2_with fail
   refine cu.mono ?_
   rintro e w3 ⟨rfl, hc3, hg3⟩
   have HC3 := Lib.hid hc3
   have HG3 := Lib.hid hg3
   clear cu hc3 hg3
   go_wp2_with fail
   refine (Ty.err_c b _ 0 _ HC3.out).mono ?_
   rintro e w4 ⟨rfl, rfl⟩
   go_wp2
   go_ret2
   exact ⟨x, rfl, fun _ => ⟨rfl, HX.out, HC3.out⟩, HG3.out⟩
 ·have HE : Hid (Tx.cntE l = (num l).2.2) := Lib.hid (by unfold Tx.cntE; rw [if_pos he])
  rw [HE.out]
  generalize (num l).2.2 = q at cu he ⊢
  have hne : ((q : Int) != 0) = true := by rw [bne_iff_ne]; omega
  have HQ := Lib.hid he
  clear he h
  go_enter Tryz.func204, Tryz.ntmps204
  go_wp2_with fail
  refine cu.mono ?_
  rintro e w3 ⟨rfl, hc3, hg3⟩
  have HC3 := Lib.hid hc3
  have HG3 := Lib.hid hg3
  clear cu hc3 hg3
  go_wp2_with fail
  refine (Ty.err_c b _ q _ HC3.out).mono ?_
  rintro e w4 ⟨rfl, rfl⟩
  go_wp2_with fail
  refine (Ty.err_c b _ q _ HC3.out).mono ?_
  rintro e w4 ⟨rfl, rfl⟩
  go_wp2
  go_ret2
  exact ⟨0, rfl, fun e => absurd e HQ.out, HG3.out⟩
set_option maxRecDepth 100000 in
set_option maxHeartbeats 1000000 in
theorem Tx.readCount_bad (b q : Nat) (l : List UInt8) (w : World) (hw : Ty.Tabs w) (h : Ty.Cur b w l q) (hq : q ≠ 0) (hl : l.length ≤ 140737488355328) :
 Calls Tryz.prog 204 #[.pointer (some ⟨b, 0, none⟩)] w fun e w' => e = .returned (.tuple #[.int .i64 0, .int .i64 (q : Int)]) ∧ w.grownBy w' (some b) := by
 have cu := Ty.cuint_c b l q w hw h (by omega)
 have e1 : Ty.rdU l q = (0, l, q) := by unfold Ty.rdU; rw [if_pos hq]
 rw [e1] at cu
 have hne : ((q : Int) != 0) = true := by rw [bne_iff_ne]; omega
 clear e1 h hq
 go_enter Tryz.func204, Tryz.ntmps204
 go_wp2_with fail
 refine cu.mono ?_
 rintro e w3 ⟨rfl, hc3, hg3⟩
 have HC3 := Lib.hid hc3
 have HG3 := Lib.hid hg3
 clear cu hc3 hg3
 go_wp2_with fail
 refine (Ty.err_c b _ q _ HC3.out).mono ?_
 rintro e w4 ⟨rfl, rfl⟩
 go_wp2_with fail
 refine (Ty.err_c b _ q _ HC3.out).mono ?_
 rintro e w4 ⟨rfl, rfl⟩
 go_wp2
 go_ret2
 exact ⟨rfl, HG3.out⟩
def Tx.Rd (b : Nat) (w : World) (r : Nat × List Tx.Str × List UInt8) (e : Ending) (w' : World) : Prop :=
 ∃ v, e = .returned (.tuple #[v, .int .i64 ((r.1 : Nat) : Int)]) ∧ Tx.Own w.heap.size w' v (if r.1 = 0 then r.2.1 else []) ∧ (r.1 = 0 → Ty.Cur b w' r.2.2 0) ∧ w.grownBy w' (some b)
theorem Tx.Rd.bad {b : Nat} {w w' : World} {r : Nat × List Tx.Str × List UInt8} {z : Int} (hz : z = ((r.1 : Nat) : Int)) (h : r.1 ≠ 0) (g : w.grownBy w' (some b)) : Tx.Rd b w r (.returned (.tuple #[.slice none 0 0, .int .i64 z])) w' :=
 ⟨_, by rw [hz], by rw [if_neg h]; exact Tx.Own.nil _ _, fun e => absurd e h, g⟩
theorem Tx.Rd.good {b : Nat} {w w' : World} {r : Nat × List Tx.Str × List UInt8} {v : Value} (h : r.1 = 0) (ho : Tx.Own w.heap.size w' v r.2.1) (hc : Ty.Cur b w' r.2.2 0) (g : w.grownBy w' (some b)) : Tx.Rd b w r (.returned (.tuple #[v, .int .i64 0])) w' :=
 ⟨_, by rw [h]; rfl, by rw [if_pos h]; exact ho, fun _ => hc, g⟩
theorem Tx.le_not (q x : Tx.Str) : (Tx.lt q x = true ∧ Op.bytesLess (Ty.S x).toList (Ty.S q).toList = false ∧ ((Ty.S x).toList == (Ty.S q).toList) = false) ∨ (Tx.lt q x = false ∧ Op.bytesLess (Ty.S x).toList (Ty.S q).toList = true ∧ ((Ty.S x).toList == (Ty.S q).toList) = false) ∨ (Tx.lt q x = false ∧ Op.bytesLess (Ty.S x).toList (Ty.S q).toList = false ∧ ((Ty.S x).toList == (Ty.S q).toList) = true) := by
 rw [Tx.S_toList, Tx.S_toList]
 rcases Kn.bl_total q x with h | h | h
 ·exact .inl ⟨h, (Kn.bl_ne h).1, by rw [beq_eq_false_iff_ne]; exact fun e => (Kn.bl_ne h).2 e.symm⟩
 ·subst h
  exact .inr (.inr ⟨Kn.bl_irrefl q, Kn.bl_irrefl q, by rw [beq_iff_eq]⟩)
 ·exact .inr (.inl ⟨(Kn.bl_ne h).1, h, by rw [beq_eq_false_iff_ne]; exact (Kn.bl_ne h).2⟩)
set_option maxHeartbeats 4000000 in
set_option maxRecDepth 100000 in
theorem Tx.readStrings_c (b n : Nat) (l : List UInt8) (ord : Bool) (w : World) (hw : Ty.Tabs w) (hG : Ty.G ≤ b) (h : Ty.Cur b w l 0) (hl : l.length ≤ 140737488355328) (hn : n ≤ 65536) :
 Calls Tryz.prog 218 #[.pointer (some ⟨b, 0, none⟩), .int .i64 n, .bool ord] w (Tx.Rd b w (rdWords ord n none l)) := by
 obtain ⟨i0, hi0, hz0, hz1, hz2⟩ := info_parts Tx.infoS
 have hbw := h.lt
 have hmk : ∀ m : Nat, m ≤ 65536 → ∃ w2, (Instr.makeSlice 111 (.int .i64 0) (.int .i64 (m : Int))).run Tryz.prog w = .ok (.slice (some ⟨w.heap.size, 0, none⟩) 0 m) w2 ∧ w2.ownsRow w.heap.size 9 1 (.slice (some ⟨w.heap.size, 0, none⟩) 0 m) 0 [] ∧ w.grownBy w2 none := fun m hm =>
  run_make_own w w.heap.size 111 9 i0 _ 1 Tryz.underlying111 hi0 hz0 hz1 .i64 .i64 m (by rw [hz2]; omega) (by unfold maxLen; omega) (Nat.le_refl _)
 have HM0 := Lib.hid (Tx.MidW.start ord n l)
 clear hi0 hz0 hz1 hz2
 by_cases hle : (n : Int) ≤ (l.length : Int)
 all_goals
  go_enter Tryz.func218, Tryz.ntmps218
  go_wp2_with fail
  refine (Ty.left_c b l 0 _ h).mono ?_
  rintro e w1 ⟨rfl, rfl⟩
  first
   | (have hm2 : n ≤ l.length := by omega
      have hmin : min (n : Int) (l.length : Int) = (n : Int) := Int.min_eq_left hle
      obtain ⟨w2, hmr, hown, hg2⟩ := hmk n hn)
   | (have hmin : min (n : Int) (l.length : Int) = (l.length : Int) := Int.min_eq_right (by omega)
      obtain ⟨w2, hmr, hown, hg2⟩ := hmk l.length (by omega))
  have hc2 := h.none_ hg2
  have H2 := Lib.hid hown
  have hgb := Pk.by_some hg2 b
  clear hmk hown
  go_wp2_with fail
  go_loopw [8, 17] (fun lv i wr => ∃ M l2, i = .int .i64 ((M.length : Nat) : Int) ∧ Tx.MidW ord n l M l2 ∧ l2.length ≤ l.length ∧ Tx.Own w1.heap.size wr lv M ∧ Ty.Cur b wr l2 0 ∧ w1.grownBy wr (some b) ∧ ∀ t ∈ M, t.length ≤ 64) (fun _ i _ => n - (intOf i).toNat)
  case atStart => exact ⟨[], l, rfl, HM0.out, Nat.le_refl _, H2.out, hc2, hgb, fun t ht => by cases ht⟩
  case round =>
   obtain ⟨M, l2, rfl, hM, hll, hO, hc, hg, h64⟩ := hrel
   clear hmr hc2 hgb hg2 hmin
   have hT := hw.by hg (by intro k hk; cases hk; exact hG)
   have HM64 := Lib.hid h64
   have hMn := hM.1
   have HM := Lib.hid hM
   have HO := Lib.hid hO
   have HGR := Lib.hid hg
   have hws := hg.size
   clear hM hg h64
   have hj0 : (0 : Int) ≤ (M.length : Int) := by omega
   by_cases hk : M.length < n
   ·have hki : (M.length : Int) < (n : Int) := by omega
    have cu := Tx.ctext_m b l2 wr hT hc (by omega)
    by_cases he : (txt l2 64).2.2 = 0
    ·rw [he] at cu
     obtain ⟨x, hx⟩ : ∃ x, x = (txt l2 64).1 := ⟨_, rfl⟩
     have hform := hO.form
     have HNX : Hid ((ord = true → ∀ q, M.getLast? = some q → Tx.lt q x = true) → Tx.MidW ord n l (M ++ [x]) (restT l2)) := Lib.hid (by rw [hx]; exact HM.out.next hk he)
     have HBD : Hid (∀ q, M.getLast? = some q → ord = true → Tx.lt q x = false → (rdWords ord n none l).1 = 4) := Lib.hid (by
      intro q hq ho hl
      subst ho
      rw [hx] at hl
      exact HM.out.bad hk he hq hl)
     have HXL : Hid (x.length ≤ 64) := Lib.hid (by rw [hx]; exact (Tx.splitT he).2)
     have HX64 : Hid (∀ t ∈ M ++ [x], t.length ≤ 64) := Lib.hid fun t ht => by
      rcases List.mem_append.1 ht with h | h
      ·exact HM64.out t h
      ·rw [List.mem_singleton.1 h]; exact HXL.out
     have HRL : Hid ((restT l2).length ≤ l.length) := Lib.hid (Nat.le_trans (Tx.restT_le l2) hll)
     rw [← hx] at cu
     generalize restT l2 = l3 at cu HNX HRL
     clear he hx hO hc hT
     have HLT := Lib.hid (fun q => Tx.le_not q x)
     have cc := fun wz => Tx.clone_c (Ty.S x) wz (by rw [Tx.S_size]; have := HXL.out; omega)
     obtain ⟨xs, hxs⟩ : ∃ xs, xs = Ty.S x := ⟨_, rfl⟩
     rw [← hxs] at cu cc HLT
     have HXS := Lib.hid hxs
     clear hxs
     cases ord
     ·clear hform
      go_wp2_with fail
      refine cu.mono ?_
      rintro e w3 ⟨rfl, hc3, hg3⟩
      have HC3 := Lib.hid hc3
      have hO3 := HO.out.by hg3 hbw
      have HO3 := Lib.hid hO3
      have HG3 := Lib.hid (Ty.by_trans HGR.out hg3)
      have hs3 := hg3.size
      have HN := Lib.hid (HNX.out (fun e => by cases e))
      clear cu hg3 hc3 hO3
      go_wp2_with fail
      refine (Ty.err_c b _ 0 _ HC3.out).mono ?_
      rintro e w4 ⟨rfl, rfl⟩
      go_wp2_with fail
      refine (cc _).mono ?_
      rintro e w5 ⟨rfl, g5⟩
      have hO5 : Tx.Own w1.heap.size w5 _ _ := Bt.Buf.kept HO3.out g5
      have HC5 := Lib.hid (HC3.out.below g5 HC3.out.lt)
      have HG5 := Lib.hid (Tx.below_by g5 HG3.out)
      have hs5 := g5.size
      clear cc g5
      go_wp2_with (at_builtin; refine Bt.wpList_append_one 9 111 (.string ⟨#[]⟩) 16 Tryz.underlying111 Tx.infoS rfl (hO5.pre x) (by omega) (by first | omega | (simp only [List.length_nil]; omega)) (by first | omega | (simp only [List.length_nil]; omega)) (.tmp 41) (.tmp 44) _ rfl rfl rfl rfl rfl ?_; intro v6 w6 h6 g6)
      have H6 := Lib.hid (Tx.Own.post (h6 (by rw [← Tx.sv_snoc, HXS.out])))
      have HC6 := Lib.hid (HC5.out.by g6.by_ (Tx.buf_ne hO5 hbw))
      have HG6 := Lib.hid (Tx.grew_by g6 HG5.out (Bt.Buf.base_le hO5))
      clear h6 g6 hO5
      go_roundw
      case rel => exact ⟨_, _, by simp, HN.out, HRL.out, H6.out, HC6.out, HG6.out, HX64.out⟩
      case measure => simp [intOf]; omega
     ·rcases hform with ⟨rfl, hM0⟩ | ⟨g, c, rfl, hcap, hgl, hcl⟩
      ·subst hM0
       go_wp2_with fail
       refine cu.mono ?_
       rintro e w3 ⟨rfl, hc3, hg3⟩
       have HC3 := Lib.hid hc3
       have hO3 := HO.out.by hg3 hbw
       have HO3 := Lib.hid hO3
       have HG3 := Lib.hid (Ty.by_trans HGR.out hg3)
       have hs3 := hg3.size
       have HN := Lib.hid (HNX.out (fun _ q hq => by cases hq))
       clear cu hg3 hc3 hO3
       go_wp2_with fail
       refine (Ty.err_c b _ 0 _ HC3.out).mono ?_
       rintro e w4 ⟨rfl, rfl⟩
       go_wp2_with fail
       refine (cc _).mono ?_
       rintro e w5 ⟨rfl, g5⟩
       have hO5 : Tx.Own w1.heap.size w5 _ _ := Bt.Buf.kept HO3.out g5
       have HC5 := Lib.hid (HC3.out.below g5 HC3.out.lt)
       have HG5 := Lib.hid (Tx.below_by g5 HG3.out)
       have hs5 := g5.size
       clear cc g5
       go_wp2_with (at_builtin; refine Bt.wpList_append_one 9 111 (.string ⟨#[]⟩) 16 Tryz.underlying111 Tx.infoS rfl (hO5.pre x) (by omega) (by first | omega | (simp only [List.length_nil]; omega)) (by first | omega | (simp only [List.length_nil]; omega)) (.tmp 41) (.tmp 44) _ rfl rfl rfl rfl rfl ?_; intro v6 w6 h6 g6)
       have H6 := Lib.hid (Tx.Own.post (h6 (by rw [← Tx.sv_snoc, HXS.out])))
       have HC6 := Lib.hid (HC5.out.by g6.by_ (Tx.buf_ne hO5 hbw))
       have HG6 := Lib.hid (Tx.grew_by g6 HG5.out (Bt.Buf.base_le hO5))
       clear h6 g6 hO5
       go_roundw
       case rel => exact ⟨_, _, by simp, HN.out, HRL.out, H6.out, HC6.out, HG6.out, HX64.out⟩
       case measure => simp [intOf]; omega
      ·by_cases hM1 : 0 < M.length
       ·have hlast := Tx.last_at hM1
        have hc1 := hcl (M.length - 1) (by omega)
        unfold Tx.sv at hc1
        obtain ⟨q, hq⟩ : ∃ q, q = M.getD (M.length - 1) [] := ⟨_, rfl⟩
        rw [← hq] at hlast hc1
        have HLQ := Lib.hid hlast
        have hlq := HLT.out q
        have htn : ((M.length : Int) - 1).toNat = M.length - 1 := by omega
        have hs1 : (0 : Int) ≤ (M.length : Int) - 1 := by omega
        have hs2 : (M.length : Int) - 1 < (M.length : Int) := by omega
        have hjz : (0 : Int) < (M.length : Int) := by omega
        have hcB : ∀ w3, wr.grownBy w3 (some b) → w3.cell? ⟨g, M.length - 1, none⟩ = some (.string (Ty.S q)) := fun w3 hg3 => by
         rcases (HO.out.by hg3 hbw).form with ⟨e, _⟩ | ⟨g', c', e, _, _, hc'⟩
         ·cases e
         ·simp only [Value.slice.injEq, Option.some.injEq, Addr.mk.injEq, and_true, true_and] at e
          obtain ⟨rfl, rfl⟩ := e
          rw [hc' (M.length - 1) (by omega), hq]
          rfl
        generalize Ty.S q = qs at hc1 hcB hlq
        have HCB := Lib.hid hcB
        clear hq hlast hc1 hcl hcB
        rcases hlq with ⟨hlt, hb1, hb2⟩ | hlq
        ·have HLT2 := Lib.hid hlt
         clear hlt HLT
         go_wp2_with fail
         refine cu.mono ?_
         rintro e w3 ⟨rfl, hc3, hg3⟩
         have HC3 := Lib.hid hc3
         have hcc := HCB.out _ hg3
         have hO3 := HO.out.by hg3 hbw
         have HO3 := Lib.hid hO3
         have HG3 := Lib.hid (Ty.by_trans HGR.out hg3)
         have hs3 := hg3.size
         have HN := Lib.hid (HNX.out (fun _ q hq => by rw [HLQ.out] at hq; cases hq; exact HLT2.out))
         clear cu hg3 hc3 hO3
         go_wp2_with fail
         refine (Ty.err_c b _ 0 _ HC3.out).mono ?_
         rintro e w4 ⟨rfl, rfl⟩
         go_wp2_with fail
         refine (cc _).mono ?_
         rintro e w5 ⟨rfl, g5⟩
         have hO5 : Tx.Own w1.heap.size w5 _ _ := Bt.Buf.kept HO3.out g5
         have HC5 := Lib.hid (HC3.out.below g5 HC3.out.lt)
         have HG5 := Lib.hid (Tx.below_by g5 HG3.out)
         have hs5 := g5.size
         clear cc g5
         go_wp2_with (at_builtin; refine Bt.wpList_append_one 9 111 (.string ⟨#[]⟩) 16 Tryz.underlying111 Tx.infoS rfl (hO5.pre x) (by omega) (by first | omega | (simp only [List.length_nil]; omega)) (by first | omega | (simp only [List.length_nil]; omega)) (.tmp 41) (.tmp 44) _ rfl rfl rfl rfl rfl ?_; intro v6 w6 h6 g6)
         have H6 := Lib.hid (Tx.Own.post (h6 (by rw [← Tx.sv_snoc, HXS.out])))
         have HC6 := Lib.hid (HC5.out.by g6.by_ (Tx.buf_ne hO5 hbw))
         have HG6 := Lib.hid (Tx.grew_by g6 HG5.out (Bt.Buf.base_le hO5))
         clear h6 g6 hO5
         go_roundw
         case rel => exact ⟨_, _, by simp, HN.out, HRL.out, H6.out, HC6.out, HG6.out, HX64.out⟩
         case measure => simp [intOf]; omega
        ·obtain ⟨hlt, hbb⟩ : Tx.lt q x = false ∧ (Op.bytesLess xs.toList qs.toList || xs.toList == qs.toList) = true := by
          rcases hlq with ⟨h1, h2, h3⟩ | ⟨h1, h2, h3⟩
          ·exact ⟨h1, by rw [h2]; rfl⟩
          ·exact ⟨h1, by rw [h2, h3]; rfl⟩
         have HE := Lib.hid (HBD.out q HLQ.out rfl hlt)
         clear hlt HLT hlq
         go_wp2_with fail
         refine cu.mono ?_
         rintro e w3 ⟨rfl, hc3, hg3⟩
         have HC3 := Lib.hid hc3
         have hcc := HCB.out _ hg3
         have HG3 := Lib.hid (Ty.by_trans HGR.out hg3)
         clear cu hg3 hc3
         go_wp2_with fail
         refine (Ty.err_c b _ 0 _ HC3.out).mono ?_
         rintro e w4 ⟨rfl, rfl⟩
         go_wp2
         go_ret2
         exact Tx.Rd.bad (by rw [HE.out]; rfl) (by rw [HE.out]; decide) HG3.out
       ·have hM0 : M = [] := List.eq_nil_of_length_eq_zero (by omega)
        subst hM0
        clear hM1
        go_wp2_with fail
        refine cu.mono ?_
        rintro e w3 ⟨rfl, hc3, hg3⟩
        have HC3 := Lib.hid hc3
        have hO3 := HO.out.by hg3 hbw
        have HO3 := Lib.hid hO3
        have HG3 := Lib.hid (Ty.by_trans HGR.out hg3)
        have hs3 := hg3.size
        have HN := Lib.hid (HNX.out (fun _ q hq => by cases hq))
        clear cu hg3 hc3 hO3
        go_wp2_with fail
        refine (Ty.err_c b _ 0 _ HC3.out).mono ?_
        rintro e w4 ⟨rfl, rfl⟩
        go_wp2_with fail
        refine (cc _).mono ?_
        rintro e w5 ⟨rfl, g5⟩
        have hO5 : Tx.Own w1.heap.size w5 _ _ := Bt.Buf.kept HO3.out g5
        have HC5 := Lib.hid (HC3.out.below g5 HC3.out.lt)
        have HG5 := Lib.hid (Tx.below_by g5 HG3.out)
        have hs5 := g5.size
        clear cc g5
        go_wp2_with (at_builtin; refine Bt.wpList_append_one 9 111 (.string ⟨#[]⟩) 16 Tryz.underlying111 Tx.infoS rfl (hO5.pre x) (by omega) (by first | omega | (simp only [List.length_nil]; omega)) (by first | omega | (simp only [List.length_nil]; omega)) (.tmp 41) (.tmp 44) _ rfl rfl rfl rfl rfl ?_; intro v6 w6 h6 g6)
        have H6 := Lib.hid (Tx.Own.post (h6 (by rw [← Tx.sv_snoc, HXS.out])))
        have HC6 := Lib.hid (HC5.out.by g6.by_ (Tx.buf_ne hO5 hbw))
        have HG6 := Lib.hid (Tx.grew_by g6 HG5.out (Bt.Buf.base_le hO5))
        clear h6 g6 hO5
        go_roundw
        case rel => exact ⟨_, _, by simp, HN.out, HRL.out, H6.out, HC6.out, HG6.out, HX64.out⟩
        case measure => simp [intOf]; omega
    ·have HE := Lib.hid (HM.out.fail hk he)
     generalize (txt l2 64).2.2 = q at cu he HE
     have hne : ((q : Int) != 0) = true := by rw [bne_iff_ne]; omega
     have HQ := Lib.hid he
     generalize Ty.S (txt l2 64).1 = x at cu
     clear he hT hc hO
     go_wp2_with fail
     refine cu.mono ?_
     rintro e w3 ⟨rfl, hc3, hg3⟩
     have HG3 := Lib.hid (Ty.by_trans HGR.out hg3)
     have HC3 := Lib.hid hc3
     clear cu hg3 hc3
     go_wp2_with fail
     refine (Ty.err_c b _ q _ HC3.out).mono ?_
     rintro e w4 ⟨rfl, rfl⟩
     go_wp2_with fail
     refine (Ty.err_c b _ q _ HC3.out).mono ?_
     rintro e w4 ⟨rfl, rfl⟩
     go_wp2
     go_ret2
     exact Tx.Rd.bad (by rw [HE.out]) (by rw [HE.out]; exact HQ.out) HG3.out
   ·have hki : ¬ (M.length : Int) < (n : Int) := by omega
    have HDN := Lib.hid (HM.out.done hk)
    have HC := Lib.hid hc
    clear hc hO hT
    go_wp2
    go_ret2
    exact Tx.Rd.good (by rw [HDN.out]) (by rw [HDN.out]; exact HO.out) (by rw [HDN.out]; exact HC.out) HGR.out
end
section
open Go.RowKit
open Ty (num)
open Ig (rest)
theorem Cl.drop_tail (l : List UInt8) (k : Nat) : l.drop (l.length - (l.drop k).length) = l.drop k := by
 rw [List.length_drop]
 rcases Nat.lt_or_ge k l.length with h | h
 ·rw [show l.length - (l.length - k) = k by omega]
 ·rw [show l.length - (l.length - k) = l.length by omega, List.drop_length, List.drop_eq_nil_of_le h]
def Cl.RN (w : World) (l : List UInt8) (e : Ending) (w' : World) : Prop :=
 ∃ v t, e = .returned (.tuple #[v, .string t, .int .i64 ((Cl.rnE l : Nat) : Int)]) ∧ (Cl.rnE l = 0 → t = Ty.S (Cl.vb l) ∧ Bt.Sl w' v (num l).1 (Bt.bv (Bt.bit (Cl.bb l)))) ∧ Below w.heap.size w w'
theorem Cl.RN.bad {w w' : World} {l : List UInt8} {v : Value} {t : ByteArray} {q : Nat} {z : Int} (h : Cl.rnE l = q) (hq : q ≠ 0) (hz : z = (q : Int)) (g : Below w.heap.size w w') : Cl.RN w l (.returned (.tuple #[v, .string t, .int .i64 z])) w' :=
 ⟨v, t, by rw [h, hz], fun e => absurd (h.symm.trans e) hq, g⟩
set_option maxHeartbeats 4000000 in
set_option maxRecDepth 100000 in
theorem Cl.readNulls_c (s : ByteArray) (w : World) (hw : Ty.Tabs w) (hs : s.size ≤ 140737488351232) :
 Calls Tryz.prog 169 #[.string s] w (Cl.RN w s.data.toList) := by
 have hsl : s = Ty.S s.data.toList := rfl
 have hll : s.data.toList.length ≤ 140737488351232 := by rw [Ty.length_data]; exact hs
 rw [hsl, Ty.data_S]
 generalize s.data.toList = l at hll ⊢
 clear hsl hs
 have cf := Ty.from_f l w hw
 have hG := hw.two
 have cu := fun b wz (hT : Ty.Tabs wz) (hc : Ty.Cur b wz l 0) => Tx.cuint_m b l wz hT hc (by omega)
 have HE : Hid (Cl.rnE l = if (num l).2.2 ≠ 0 then (num l).2.2 else if 65536 < (num l).1 then 3 else if (rest l).length < Bt.need (num l).1 then 2 else Bt.chk (Cl.bb l) (num l).1) := Lib.hid rfl
 have HB : Hid (Cl.bb l = Ty.S ((rest l).take (Bt.need (num l).1)) ∧ Cl.vb l = (rest l).drop (Bt.need (num l).1)) := Lib.hid ⟨rfl, rfl⟩
 have HTL : Hid (l.drop (l.length - (rest l).length) = rest l) := Lib.hid (Cl.drop_tail l _)
 have hle : (rest l).length ≤ l.length := Tx.rest_le l
 obtain ⟨R, hR⟩ : ∃ R, R = Cl.RN w l := ⟨_, rfl⟩
 rw [← hR]
 have HRB : Hid (∀ (v : Value) (t : ByteArray) (q : Nat) (z : Int) (w' : World), Cl.rnE l = q → q ≠ 0 → z = (q : Int) → Below w.heap.size w w' → R (.returned (.tuple #[v, .string t, .int .i64 z])) w') := Lib.hid fun v t q z w' h1 h2 h3 h4 => by rw [hR]; exact Cl.RN.bad h1 h2 h3 h4
 have HRG : Hid (∀ (v : Value) (w' : World), Cl.rnE l = 0 → Bt.Sl w' v (num l).1 (Bt.bv (Bt.bit (Cl.bb l))) → Below w.heap.size w w' → R (.returned (.tuple #[v, .string (Ty.S (Cl.vb l)), .int .i64 0])) w') := Lib.hid fun v w' h1 h2 h3 => by rw [hR]; exact ⟨v, _, by rw [h1]; rfl, fun _ => ⟨rfl, h2⟩, h3⟩
 generalize Cl.bb l = S at HE HB HRG
 generalize Cl.vb l = r9 at HB HRG
 generalize Cl.rnE l = Q at HE HRB HRG
 generalize rest l = l2 at cu HE HB HTL hle
 generalize (num l).1 = n at cu HE HB HRG
 generalize (num l).2.2 = E at cu HE
 have HRQ := Lib.hid hR
 clear hR
 obtain ⟨xs, hxs⟩ : ∃ xs, xs = Ty.S l := ⟨_, rfl⟩
 have HXS := Lib.hid hxs
 have hxz : xs.size = l.length := by rw [hxs]; rfl
 rw [← hxs] at cf ⊢
 clear hxs
 by_cases hE : E = 0
 ·subst hE
  by_cases hn : 65536 < n
  ·have HQ : Hid (Q = 3) := Lib.hid (HE.out.trans (by rw [if_neg (by simp), if_pos hn]))
   have hni : (65536 : Int) < (n : Int) := by omega
   clear hn
   go_enter Tryz.func169, Tryz.ntmps169
   go_wp2_with fail
   refine cf.mono ?_
   rintro e w1 ⟨rfl, hc1, hT1, hg1⟩
   have cu1 := cu _ _ hT1 hc1
   have HB1 := Lib.hid (Ty.below_none hg1 (Nat.le_refl _))
   have hs1 := HB1.out.size
   clear cf cu hc1 hg1 hT1
   go_wp2_with fail
   refine cu1.mono ?_
   rintro e w2 ⟨rfl, hc2, hg2⟩
   have HB2 := Lib.hid (HB1.out.trans (Ty.below_at (B := w.heap.size) hg2 hs1 (Nat.le_refl _)))
   have ce := Ty.err_c w.heap.size _ 0 _ hc2
   clear cu1 hg2 hc2
   go_wp2_with fail
   refine ce.mono ?_
   rintro e w3 ⟨rfl, rfl⟩
   clear ce
   go_wp2
   go_ret3
   exact HRB.out _ _ 3 _ _ HQ.out (by decide) rfl HB2.out
  ·have hni : ¬ (65536 : Int) < (n : Int) := by omega
   have hn0 : (0 : Int) ≤ (n : Int) := by omega
   have hn65 : (n : Int) ≤ 65536 := by omega
   obtain ⟨sz, hszq⟩ : ∃ sz, sz = Bt.need n := ⟨_, rfl⟩
   rw [← hszq] at HE HB
   have hd : ((n : Int) + 7) / 8 = (sz : Int) := by rw [hszq]; unfold Bt.need; omega
   have hsz9 : sz ≤ 8193 := by rw [hszq]; unfold Bt.need; omega
   have hwn : wrap64 (n : Int) = (n : Int) := by unfold wrap64; omega
   have HE2 : Hid (Q = if l2.length < sz then 2 else Bt.chk S n) := Lib.hid (HE.out.trans (by rw [if_neg (by simp), if_neg hn]))
   clear hszq hn
   go_enter Tryz.func169, Tryz.ntmps169
   go_wp2_with fail
   refine cf.mono ?_
   rintro e w1 ⟨rfl, hc1, hT1, hg1⟩
   have cu1 := cu _ _ hT1 hc1
   have HB1 := Lib.hid (Ty.below_none hg1 (Nat.le_refl _))
   have hs1 := HB1.out.size
   clear cf cu hc1 hg1 hT1
   go_wp2_with fail
   refine cu1.mono ?_
   rintro e w2 ⟨rfl, hc2, hg2⟩
   have HB2 := Lib.hid (HB1.out.trans (Ty.below_at (B := w.heap.size) hg2 hs1 (Nat.le_refl _)))
   have ce := Ty.err_c w.heap.size _ 0 _ hc2
   have cl := Ty.left_c w.heap.size _ 0 _ hc2
   clear cu1 hg2 hc2
   go_wp2_with fail
   refine ce.mono ?_
   rintro e w3 ⟨rfl, rfl⟩
   clear ce
   have CL := Lib.hid cl
   clear cl
   go_wp2_with fail
   refine CL.out.mono ?_
   rintro e w4 ⟨rfl, rfl⟩
   by_cases hlt : l2.length < sz
   ·have HQ : Hid (Q = 2) := Lib.hid (HE2.out.trans (by rw [if_pos hlt]))
    have hlti : (l2.length : Int) < (sz : Int) := by omega
    clear hlt
    go_wp2
    go_ret3
    exact HRB.out _ _ 2 _ _ HQ.out (by decide) rfl HB2.out
   ·have hlti : ¬ (l2.length : Int) < (sz : Int) := by omega
    have HQ : Hid (Q = Bt.chk S n) := Lib.hid (HE2.out.trans (by rw [if_neg hlt]))
    obtain ⟨q, hq⟩ : ∃ q, q = l.length - l2.length := ⟨_, rfl⟩
    have hex : xs.extract q l.length = Ty.S l2 := by
     rw [← hxz, HXS.out, Ty.extract_S, Ty.data_S, Ty.size_S, List.take_of_length_le (by rw [List.length_drop]; exact Nat.le_refl _), hq, HTL.out]
    have hqi : wrap64 ((l.length : Int) - (l2.length : Int)) = (q : Int) := by unfold wrap64; omega
    have hq0 : (0 : Int) ≤ (q : Int) := by omega
    have hqs : (q : Int) ≤ (l.length : Int) := by omega
    have hqn : ((q : Nat) : Int).toNat = q := Int.toNat_natCast q
    go_wp2_with fail
    refine CL.out.mono ?_
    rintro e w5 ⟨rfl, rfl⟩
    have hyz : (Ty.S l2).size = l2.length := rfl
    have hex1 : (Ty.S l2).extract 0 sz = S := by rw [Ty.extract_S, Ty.data_S, HB.out.1, List.drop_zero, Nat.sub_zero]
    have hex2 : (Ty.S l2).extract sz l2.length = Ty.S r9 := by rw [← Ty.size_S l2, Ty.extract_S, Ty.data_S, Ty.size_S, List.take_of_length_le (by rw [List.length_drop]; exact Nat.le_refl _), HB.out.2]
    have hS9 : S.size ≤ 140737488355328 := by rw [HB.out.1, Ty.size_S, List.length_take]; omega
    generalize Ty.S l2 = ys at hex hyz hex1 hex2
    have ce : Bt.utE S (n : Int) = Bt.chk S n := by unfold Bt.utE; rw [if_pos ⟨hn0, hn65⟩]; rfl
    have cun := fun wz => Bt.untruths_c S (n : Int) wz hS9
    unfold Bt.utN at cun
    rw [ce, Int.toNat_natCast] at cun
    generalize hC : Bt.chk S n = C at cun HQ
    have z1 : (0 : Int) ≤ (sz : Int) := by omega
    have z2 : (sz : Int) ≤ (l2.length : Int) := by omega
    clear hlt hle hll hC ce hS9 hq
    go_wp2_with fail
    with_reducible refine (cun _).mono ?_
    rintro e w6 ⟨v6, rfl, hS6, g6⟩
    have HB6 := Lib.hid (HB2.out.trans (g6.mono HB2.out.size))
    clear cun g6
    by_cases hC : C = 0
    ·subst hC
     rw [if_pos rfl] at hS6
     have HS6 := Lib.hid hS6
     simp only [Int.natCast_zero]
     clear hS6
     go_wp2_with fail
     go_quiet (fail)
     go_wp2
     go_ret3
     exact HRG.out _ _ HQ.out (HS6.out.later (Bt.drewN_below _ _)) (HB6.out.trans ((Bt.drewN_below _ _).mono HB6.out.size))
    ·have hCb : ((C : Int) != 0) = true := by rw [bne_iff_ne]; omega
     have HCN := Lib.hid hC
     clear hC hS6
     go_wp2
     go_ret3
     exact HRB.out _ _ C _ _ HQ.out HCN.out rfl HB6.out
 ·have HQ : Hid (Q = E) := Lib.hid (HE.out.trans (by rw [if_pos hE]))
  have hEb : ((E : Int) != 0) = true := by rw [bne_iff_ne]; omega
  have HEN := Lib.hid hE
  clear hE
  go_enter Tryz.func169, Tryz.ntmps169
  go_wp2_with fail
  refine cf.mono ?_
  rintro e w1 ⟨rfl, hc1, hT1, hg1⟩
  have cu1 := cu _ _ hT1 hc1
  have HB1 := Lib.hid (Ty.below_none hg1 (Nat.le_refl _))
  have hs1 := HB1.out.size
  clear cf cu hc1 hg1 hT1
  go_wp2_with fail
  refine cu1.mono ?_
  rintro e w2 ⟨rfl, hc2, hg2⟩
  have HB2 := Lib.hid (HB1.out.trans (Ty.below_at (B := w.heap.size) hg2 hs1 (Nat.le_refl _)))
  have CE := Lib.hid (Ty.err_c w.heap.size _ E _ hc2)
  clear cu1 hg2 hc2
  go_wp2_with fail
  refine CE.out.mono ?_
  rintro e w3 ⟨rfl, rfl⟩
  go_wp2_with fail
  refine CE.out.mono ?_
  rintro e w4 ⟨rfl, rfl⟩
  go_wp2
  go_ret3
  exact HRB.out _ _ E _ _ HQ.out HEN.out rfl HB2.out
end
section
open Go.RowKit Go.Maps
open Ty (encU num txt)
open Ig (rest)
open Tx (restT rdWords rdPick rdBody outs)
theorem Tx.asc_sub : ∀ (d e : List Tx.Str) (p q : Option Tx.Str), Tx.Asc p e → Tx.Asc q d → (∀ x ∈ e, x ∈ d) → e.length ≤ d.length ∧ (e.length = d.length → e = d)
 | [], [], _, _, _, _, _ => ⟨Nat.le_refl _, fun _ => rfl⟩
 | [], a :: e, _, _, _, _, h => by have := h a (by simp); cases this
 | b :: d, [], _, _, _, _, _ => ⟨by simp, fun h => by simp at h⟩
 | b :: d, a :: e, p, q, he, hd, h => by
   have ha := h a (by simp)
   have hb := Tx.asc_all d (some b) hd.2 b rfl
   have hae := Tx.asc_all e (some a) he.2 a rfl
   rcases List.mem_cons.1 ha with rfl | ha
   ·have h2 : ∀ x ∈ e, x ∈ d := fun x hx => by
     rcases List.mem_cons.1 (h x (by simp [hx])) with e1 | h3
     ·have := hae x hx
      rw [e1] at this
      have k : Tx.lt a a = false := Kn.bl_irrefl a
      rw [k] at this
      cases this
     ·exact h3
    obtain ⟨i1, i2⟩ := Tx.asc_sub d e (some a) (some a) he.2 hd.2 h2
    exact ⟨by simp [i1], fun hl => by rw [i2 (by simpa using hl)]⟩
   ·have hba := hb a ha
    have h2 : ∀ x ∈ a :: e, x ∈ d := fun x hx => by
     rcases List.mem_cons.1 (h x hx) with e1 | h3
     ·rcases List.mem_cons.1 hx with e2 | hx
      ·rw [← e2, e1] at hba
       have k : Tx.lt b b = false := Kn.bl_irrefl b
       rw [k] at hba
       cases hba
      ·have h4 := Kn.bl_trans b a x hba (hae x hx)
       rw [e1, Kn.bl_irrefl] at h4
       cases h4
     ·exact h3
    obtain ⟨i1, _⟩ := Tx.asc_sub d (a :: e) p (some b) he hd.2 h2
    have i3 : (a :: e).length ≤ d.length := i1
    exact ⟨by rw [List.length_cons (a := b)]; omega, fun hl => by rw [List.length_cons (a := b)] at hl; omega⟩
theorem Tx.mark_iff (X : Nat → Nat) (n j : Nat) : Tx.mark X n j = true ↔ ∃ i, i < n ∧ X i = j := by
 unfold Tx.mark
 rw [List.any_eq_true]
 constructor
 ·rintro ⟨i, hi, e⟩
  exact ⟨i, List.mem_range.1 hi, by simpa using e⟩
 ·rintro ⟨i, hi, e⟩
  exact ⟨i, List.mem_range.2 hi, by simp [e]⟩
theorem Tx.used_iff {n : Nat} {d : List Tx.Str} {p : Option Tx.Str} {X : Nat → Nat} (hd : Tx.Asc p d) (hX : ∀ i, i < n → X i < d.length) : (∀ j, j < d.length → Tx.mark X n j = true) ↔ ¬ (Tx.dict (outs n d X)).length < d.length := by
 have hin : ∀ x ∈ outs n d X, x ∈ d := fun x hx => by
  obtain ⟨i, hi, rfl⟩ := List.mem_map.1 hx
  rw [List.mem_range] at hi
  rw [List.getD, List.getElem?_eq_getElem (hX i hi), Option.getD_some]
  exact List.getElem_mem _
 obtain ⟨h1, h2⟩ := Tx.asc_sub d (Tx.dict (outs n d X)) none p (Tx.dict_asc _) hd (fun x hx => hin x ((Tx.dict_mem _ x).1 hx))
 constructor
 ·intro h
  have : Tx.dict (outs n d X) = d := Tx.asc_same _ _ none p (Tx.dict_asc _) hd fun x => by
   rw [Tx.dict_mem]
   refine ⟨hin x, fun hx => ?_⟩
   obtain ⟨j, hj, e⟩ := List.getElem_of_mem hx
   obtain ⟨i, hi, e2⟩ := (Tx.mark_iff X n j).1 (h j hj)
   refine List.mem_map.2 ⟨i, List.mem_range.2 hi, ?_⟩
   rw [e2, List.getD, List.getElem?_eq_getElem hj, Option.getD_some, e]
  rw [this]
  exact Nat.lt_irrefl _
 ·intro h j hj
  have he : Tx.dict (outs n d X) = d := h2 (by omega)
  have hm : d[j] ∈ outs n d X := (Tx.dict_mem _ _).1 (by rw [he]; exact List.getElem_mem hj)
  obtain ⟨i, hi, e⟩ := List.mem_map.1 hm
  rw [List.mem_range] at hi
  refine (Tx.mark_iff X n j).2 ⟨i, hi, ?_⟩
  have hx := hX i hi
  rw [List.getD, List.getElem?_eq_getElem hx, Option.getD_some] at e
  have e1 := Tx.pos_at d p hd (X i) d[j] (by rw [List.getElem?_eq_getElem hx, e])
  have e2 := Tx.pos_at d p hd j d[j] (List.getElem?_eq_getElem hj)
  omega
theorem Tx.pk_err {n : Nat} {d : List Tx.Str} {l : List UInt8} (he : Pk.err n l ≠ 0) : (rdPick n d l).1 = Pk.err n l := by
 cases l with
 | nil => rw [Tx.rdPk1, Pk.err1]
 | cons x r =>
   by_cases h1 : 64 < x.toNat
   ·rw [Tx.rdPk2 h1, Pk.err2 h1]
   ·by_cases h2 : r.length < Bt.need (n * x.toNat)
    ·rw [Tx.rdPk3 h1 h2, Pk.err3 h1 h2]
    ·by_cases h3 : Bt.chk (Ty.S (r.take (Bt.need (n * x.toNat)))) (n * x.toNat) = 0
     ·by_cases h4 : Bt.wid n (Bt.nums (Ty.S (r.take (Bt.need (n * x.toNat)))) x.toNat) < x.toNat
      ·rw [Pk.err5 h1 h2 h3 h4]
       refine Tx.rdPk5 h1 h2 h3 fun hg => ?_
       have h5 : Tx.right n x.toNat d (Bt.nums (Ty.S (r.take (Bt.need (n * x.toNat)))) x.toNat) = true := hg
       have := (Tx.right_iff.1 h5).2.2
       omega
      ·rw [Pk.err6 h1 h2 h3 h4] at he
       exact absurd rfl he
     ·rw [Tx.rdPk4 h1 h2 h3, Pk.err4 h1 h2 h3]
theorem Tx.pk_bad {n : Nat} {d : List Tx.Str} {l : List UInt8} (he : Pk.err n l = 0) (h : ¬ ((∀ i, i < n → Pk.X n l i < d.length) ∧ (∀ j, j < d.length → Tx.mark (Pk.X n l) n j = true))) : (rdPick n d l).1 = 4 := by
 obtain ⟨x, r, rfl, h1, h2, h3, h4, hq, hX, hR⟩ := Pk.good he
 rw [hX] at h
 refine Tx.rdPk5 (by omega) (by omega) h3 fun hg => h ?_
 have h5 : Tx.right n x.toNat d (Bt.nums (Ty.S (r.take (Bt.need (n * x.toNat)))) x.toNat) = true := hg
 exact ⟨(Tx.right_iff.1 h5).1, (Tx.right_iff.1 h5).2.1⟩
theorem Tx.pk_good {n : Nat} {d : List Tx.Str} {l : List UInt8} (he : Pk.err n l = 0) (h : (∀ i, i < n → Pk.X n l i < d.length) ∧ (∀ j, j < d.length → Tx.mark (Pk.X n l) n j = true)) : rdPick n d l = (0, outs n d (Pk.X n l), Pk.rest n l) := by
 obtain ⟨x, r, rfl, h1, h2, h3, h4, hq, hX, hR⟩ := Pk.good he
 rw [hX] at h h4 ⊢
 rw [hR]
 have h5 : Tx.right n x.toNat d (Ig.un (Ty.S (r.take (Bt.need (n * x.toNat)))) x.toNat) = true := Tx.right_iff.2 ⟨h.1, h.2, h4⟩
 exact Tx.rdPk6 (by omega) (by omega) h3 h5
theorem Tx.own_row {base : Nat} {w : World} {g n : Nat} {L : List Tx.Str} (h : w.rowIs g 9 n (Tx.sv L)) (hn : L.length = n) (hb : base ≤ g) (hm : n ≤ maxLen) : Tx.Own base w (.slice (some ⟨g, 0, none⟩) n n) L := by
 obtain ⟨c, hg, hc, hf⟩ := h
 subst hn
 refine ⟨by simp, .inr ⟨g, L.length, c, rfl, hb, hg, Nat.le_refl _, hm, by simpa using hc, ?_⟩⟩
 rw [Nat.mul_one]
 refine List.ext_getElem? fun j => ?_
 by_cases hj : j < L.length
 ·rw [List.getElem?_take_of_lt hj, List.getElem?_map, List.getElem?_range hj, Array.getElem?_toList, hf j hj]
  rfl
 ·rw [List.getElem?_eq_none (by rw [List.length_take]; omega), List.getElem?_eq_none (by simp; omega)]
theorem Tx.outs_sv (n : Nat) (d : List Tx.Str) (X : Nat → Nat) {i : Nat} (h : i < n) : Tx.sv (outs n d X) i = .string (Ty.S (d.getD (X i) [])) := by
 unfold Tx.sv outs
 rw [List.getD, List.getElem?_map, List.getElem?_range h]
 rfl
end
section
open Go.RowKit Go.Maps
open Ty (encU num txt)
open Ig (rest)
open Tx (restT rdWords rdPick rdBody outs)
set_option maxHeartbeats 4000000 in
set_option maxRecDepth 100000 in
theorem Tx.readDictionary_c (b n : Nat) (l : List UInt8) (w : World) (hw : Ty.Tabs w) (hG : Ty.G ≤ b) (h : Ty.Cur b w l 0) (hl : l.length ≤ 140737488355328) (hn : n ≤ 65536) :
 Calls Tryz.prog 217 #[.pointer (some ⟨b, 0, none⟩), .int .i64 n] w (Tx.Rd b w (rdBody 1 n l)) := by
 have hbw := h.lt
 have crc := Tx.readCount_c b l w hw h hl
 have hrl := Tx.rest_le l
 by_cases hE : Tx.cntE l = 0
 ·have he : (num l).2.2 = 0 := by
   unfold Tx.cntE at hE
   by_cases h0 : (num l).2.2 ≠ 0
   ·rw [if_pos h0] at hE; exact absurd hE h0
   ·simpa using h0
  have hm : ¬ 65536 < (num l).1 := by
   unfold Tx.cntE at hE
   rw [if_neg (by rw [he]; simp)] at hE
   intro h1
   rw [if_pos h1] at hE
   cases hE
  rw [hE] at crc
  have B3 := Lib.hid (fun h3 => Tx.rdB3 (n := n) he hm h3)
  have B4 := Lib.hid (fun h3 => Tx.rdB4 (n := n) he hm h3)
  have HONLY := Lib.hid (fun h3 => (Tx.rdWords_only true (num l).1 none (rest l) h3).2)
  have HLE : Hid ((rdWords true (num l).1 none (rest l)).1 = 0 → (rdWords true (num l).1 none (rest l)).2.2.length ≤ l.length) := Lib.hid fun h3 => by
   have h1 := (Tx.rdWords_only true (num l).1 none (rest l) h3).1
   have h2 := congrArg List.length h1
   rw [List.length_append] at h2
   omega
  have cw := fun wz (hT : Ty.Tabs wz) (hc : Ty.Cur b wz (rest l) 0) => Tx.readStrings_c b (num l).1 (rest l) true wz hT hG hc (by omega) (by omega)
  have HM : Hid ((num l).1 ≤ 65536) := Lib.hid (by omega)
  generalize (num l).1 = m at crc B3 B4 HONLY HLE cw HM
  generalize rest l = l5 at crc B3 B4 HONLY HLE cw
  generalize rdWords true m none l5 = T at B3 B4 HONLY HLE cw
  obtain ⟨C, d, l6⟩ := T
  simp only at B3 B4 HONLY HLE
  generalize hTT : rdBody 1 n l = TT at B3 B4 ⊢
  clear hTT hE he hm h
  go_enter Tryz.func217, Tryz.ntmps217
  go_wp2_with fail
  refine crc.mono ?_
  rintro e w3 ⟨m', rfl, hgd, hg3⟩
  obtain ⟨rfl, hm6, hc3⟩ := hgd (by trivial)
  have hT3 := hw.by hg3 (by intro k hk; cases hk; exact hG)
  have HG3 := Lib.hid hg3
  have HT3 := Lib.hid hT3
  have cw3 := cw _ hT3 hc3
  simp only [Int.natCast_zero]
  clear crc cw hg3 hT3 hc3 hgd
  go_wp2_with fail
  refine cw3.mono ?_
  rintro e w7 ⟨vd, rfl, hO7, hc7, hg7⟩
  simp only at hO7 hc7
  have HG7 := Lib.hid (Ty.by_trans HG3.out hg7)
  have hb3 := HG3.out.size
  clear cw3 hg7
  by_cases hC : C = 0
  ·subst hC
   simp only [if_true] at hO7
   have hc8 := hc7 (by trivial)
   have HB4 := Lib.hid (B4.out (by trivial))
   obtain ⟨hdl, hd64, hda⟩ := HONLY.out (by trivial)
   have hl6 := HLE.out (by trivial)
   have HDA := Lib.hid (hda (by trivial))
   have HD64 := Lib.hid hd64
   have hdl6 : d.length ≤ 65536 := by rw [hdl]; exact HM.out
   have HO7 := Lib.hid hO7
   have hA7 := hO7.at
   obtain ⟨ad, cd, rfl, hcd, _, hd0⟩ := hA7
   have crd := Pk.read_c b n l6 _ hc8 (by omega) hn
   simp only [Int.natCast_zero]
   have P1 := Lib.hid (fun he => Tx.pk_err (n := n) (d := d) (l := l6) he)
   have P2 := Lib.hid (fun he h => Tx.pk_bad (n := n) (d := d) (l := l6) he h)
   have P3 := Lib.hid (fun he h => Tx.pk_good (n := n) (d := d) (l := l6) he h)
   rw [← HB4.out] at P1 P2 P3
   unfold Pk.Rd at crd
   generalize Pk.X n l6 = X at crd P2 P3
   generalize Pk.rest n l6 = l9 at crd P3
   generalize Pk.err n l6 = C at crd P1 P2 P3
   clear hc7 hO7 hc8 B3 B4 HB4 HONLY HLE hd64 hda hd0 hdl hl6
   go_wp2_with fail
   refine crd.mono ?_
   rintro e w8 ⟨vi, rfl, hgi, hbi, hg8⟩
   have HG8 := Lib.hid (Ty.by_trans HG7.out hg8)
   have HO8 := Lib.hid (HO7.out.by hg8 (by omega))
   clear crd hg8
   by_cases hC : C = 0
   ·subst hC
    obtain ⟨hS8, hc8⟩ := hgi (by trivial)
    simp only [Int.natCast_zero]
    have Q2 := Lib.hid (P2.out (by trivial))
    have Q3 := Lib.hid (P3.out (by trivial))
    have HS8 := Lib.hid hS8
    have HC8 := Lib.hid hc8
    have hmk := run_make_row' (P := Tryz.prog) 111 9 (.string ⟨#[]⟩) 16 Tryz.underlying111 Tx.infoS rfl .i64 .i64 n (by omega) (by omega)
    obtain ⟨a8, c8, rfl, h8⟩ := hS8
    have H8 := Lib.hid h8
    have hs8 := HG8.out.size
    clear hgi hbi P1 P2 P3 hc8 h8
    go_wp2_with fail
    have hR : (w8.alloc (.cells (madeCells #[.string ⟨#[]⟩] n) 9)).rowIs w8.heap.size 9 n (Bt.upTo 0 (Tx.sv (outs n d X)) (.string ⟨#[]⟩)) := (World.rowIs_made w8 (.string ⟨#[]⟩) n 9).congr fun i _ => by unfold Bt.upTo; rw [if_neg (by omega)]
    have hB : Below w8.heap.size w8 (w8.alloc (.cells (madeCells #[.string ⟨#[]⟩] n) 9)) := (Below.refl _ _).alloc (Nat.le_refl _) _
    generalize w8.alloc (.cells (madeCells #[.string ⟨#[]⟩] n) 9) = w9 at hR hB ⊢
    clear hmk
    generalize hg : w8.heap.size = g at hR hB
    have HGE := Lib.hid hg
    clear hg
    go_loopw [43] (fun i wr => ∃ k : Nat, k ≤ n ∧ i = .int .i64 k ∧ (∀ j, j < k → X j < d.length) ∧ wr.rowIs g 9 n (Bt.upTo k (Tx.sv (outs n d X)) (.string ⟨#[]⟩)) ∧ Below g w8 wr) (fun i _ => n - (intOf i).toNat)
    case atStart => exact ⟨0, by omega, rfl, (fun j hj => by omega), hR, hB⟩
    case round =>
     obtain ⟨k, hk, rfl, hxs, hRk, hBk⟩ := hrel
     have HXS := Lib.hid hxs
     have HR := Lib.hid hRk
     have HBK := Lib.hid hBk
     have hge := HGE.out
     have hb8 : Below w8.heap.size w8 wr := by rw [hge]; exact hBk
     have HGR := Lib.hid (Tx.below_by hb8 HG8.out)
     have HOR : Hid (Tx.Own w3.heap.size wr (.slice ad d.length cd) d) := Lib.hid (Bt.Buf.kept HO8.out hb8)
     have HB8 := Lib.hid hb8
     clear hR hB hxs hRk hBk hb8 hge
     have hk0 : (0 : Int) ≤ (k : Int) := by omega
     by_cases hl2 : k < n
     ·have hkl : (k : Int) < (n : Int) := by omega
      rcases H8.out with h8 | ⟨b2, o2, rfl, hb2, h8⟩
      ·omega
      ·have hcell : wr.cell? ⟨b2, o2 + k, none⟩ = some (.int .u64 ((X k : Nat) : Int)) := (HB8.out.cell (p := ⟨b2, o2 + k, none⟩) hb2).trans (h8 k hl2)
       have hdl2 : (d.length : Int) ≤ 65536 := by omega
       by_cases hxd : X k < d.length
       ·obtain ⟨b3, o3, rfl, hcd2⟩ := HOR.out.at.str hxd
        have hf := HR.out.frozen k
        have hcl := HR.out.cell hl2
        have HOV := Lib.hid (Tx.outs_sv n d X hl2)
        have HXN : Hid (∀ j, j < k + 1 → X j < d.length) := Lib.hid fun j hj => by
         by_cases e : j = k
         ·rw [e]; exact hxd
         ·exact HXS.out j (by omega)
        generalize Ty.S (d.getD (X k) []) = ys at hcd2 HOV
        obtain ⟨x', hx'⟩ : ∃ x', x' = X k := ⟨_, rfl⟩
        rw [← hx'] at hcell hcd2 hxd
        have hxi : (x' : Int) < (d.length : Int) := by omega
        have hxi2 : ¬ (d.length : Int) ≤ (x' : Int) := by omega
        have hx0 : (0 : Int) ≤ (x' : Int) := by omega
        clear h8 hx' hxd
        go_wp2
        go_roundw
        case rel => exact ⟨k + 1, by omega, by simp, HXN.out, Bt.upTo_next HR.out (by rw [HOV.out]), HBK.out.trans (Bt.below_set (Nat.le_refl _) _)⟩
        case measure => simp [intOf]; omega
       ·have HB := Lib.hid (Q2.out fun hr => hxd (hr.1 k hl2))
        have hxi : (d.length : Int) ≤ ((X k : Nat) : Int) := by omega
        obtain ⟨x', hx'⟩ : ∃ x', x' = X k := ⟨_, rfl⟩
        rw [← hx'] at hcell hxi
        clear h8 hx' hxd
        go_wp2
        go_ret2
        exact Tx.Rd.bad (by rw [HB.out]; rfl) (by rw [HB.out]; decide) HGR.out
     ·obtain rfl : k = n := by omega
      have hkl : ¬ (k : Int) < (k : Int) := by omega
      have hrow : wr.rowIs g 9 k (Tx.sv (outs k d X)) := HR.out.congr fun i hi => by unfold Bt.upTo; rw [if_pos hi]
      have hown := Tx.own_row (base := w.heap.size) hrow (Tx.outs_len k d X) (by have := HGE.out; omega) (by unfold maxLen; omega)
      have HOW := Lib.hid hown
      have HU := Lib.hid (Tx.used_iff (n := k) HDA.out HXS.out)
      have HCR := Lib.hid (HC8.out.below HB8.out (by have := HG8.out.size; omega))
      have ho64 : ∀ t ∈ outs k d X, t.length ≤ 64 := fun t ht => by
       obtain ⟨i, hi, rfl⟩ := List.mem_map.1 ht
       rw [List.mem_range] at hi
       rw [List.getD, List.getElem?_eq_getElem (HXS.out i hi), Option.getD_some]
       exact HD64.out _ (List.getElem_mem _)
      have hol := Tx.outs_len k d X
      have hat := hown.at
      have cu := Tx.uses_c (.slice (some ⟨g, 0, none⟩) k k) (outs k d X) wr hat (by rw [hol]; omega) ho64
      have HOL := Lib.hid hol
      clear hrow hown hat hol ho64
      go_wp2_with fail
      refine cu.mono ?_
      rintro e w10 ⟨rfl, hcnt, hb10⟩
      obtain ⟨D, hown, _, hsz⟩ := hcnt.keys
      have HO10 := Lib.hid (Bt.Buf.kept HOW.out hb10)
      have HG10 := Lib.hid (Tx.below_by hb10 HGR.out)
      have HC10 := Lib.hid (HCR.out.below hb10 (by have := HGR.out.size; omega))
      clear cu hb10 hcnt
      by_cases hlt : (Tx.dict (outs k d X)).length < d.length
      ·have HB := Lib.hid (Q2.out fun hr => (HU.out.1 hr.2) hlt)
       have hlti : ((Maps.size D : Nat) : Int) < (d.length : Int) := by omega
       clear hlt hsz
       go_wp2_with (at_len; refine wpList_len_own _ rfl _ 247 rfl 9 3 Tryz.underlying247 _ wr.heap.size _ D rfl hown ?_)
       go_wp2
       go_ret2
       exact Tx.Rd.bad (by rw [HB.out]; rfl) (by rw [HB.out]; decide) HG10.out
      ·have HT := Lib.hid (Q3.out ⟨HXS.out, HU.out.2 hlt⟩)
       have hlti : ¬ ((Maps.size D : Nat) : Int) < (d.length : Int) := by omega
       clear hlt hsz
       go_wp2_with (at_len; refine wpList_len_own _ rfl _ 247 rfl 9 3 Tryz.underlying247 _ wr.heap.size _ D rfl hown ?_)
       go_wp2
       go_ret2
       exact Tx.Rd.good (by rw [HT.out]) (by rw [HT.out]; exact HO10.out) (by rw [HT.out]; exact HC10.out) HG10.out
   ·have HB := Lib.hid (P1.out hC)
    obtain rfl := hbi hC
    have hne : ((C : Int) != 0) = true := by rw [bne_iff_ne]; omega
    have HC := Lib.hid hC
    clear hC hgi hbi
    go_wp2
    go_ret2
    exact Tx.Rd.bad (by rw [HB.out]) (by rw [HB.out]; exact HC.out) HG8.out
  ·have HB := Lib.hid (B3.out hC)
   have hne : ((C : Int) != 0) = true := by rw [bne_iff_ne]; omega
   have HC := Lib.hid hC
   clear hC hO7 hc7
   go_wp2
   go_ret2
   exact Tx.Rd.bad (by rw [HB.out]) (by rw [HB.out]; exact HC.out) HG7.out
 ·have HB : Hid ((rdBody 1 n l).1 = Tx.cntE l) := Lib.hid (by
   unfold Tx.cntE at hE ⊢
   by_cases h0 : (num l).2.2 ≠ 0
   ·rw [if_pos h0, Tx.rdB1 h0]
   ·rw [if_neg h0] at hE ⊢
    by_cases h1 : 65536 < (num l).1
    ·rw [if_pos h1, Tx.rdB2 (by simpa using h0) h1]
    ·rw [if_neg h1] at hE
     exact absurd rfl hE)
  generalize Tx.cntE l = q at crc hE HB
  have hne : ((q : Int) != 0) = true := by rw [bne_iff_ne]; omega
  have HQ := Lib.hid hE
  clear hE h
  go_enter Tryz.func217, Tryz.ntmps217
  go_wp2_with fail
  refine crc.mono ?_
  rintro e w3 ⟨m', rfl, _, hg3⟩
  have HG3 := Lib.hid hg3
  clear crc hg3
  go_wp2
  go_ret2
  exact Tx.Rd.bad (by rw [HB.out]) (by rw [HB.out]; exact HQ.out) HG3.out
end
section
open Go.RowKit
open Ty (num)
open Ig (rest)
open Tx (rdBody rd)
set_option maxRecDepth 100000 in
set_option maxHeartbeats 1000000 in
theorem Tx.readElements_c (b n K : Nat) (hK : K ≤ 1) (l : List UInt8) (w : World) (hw : Ty.Tabs w) (hG : Ty.G ≤ b) (h : Ty.Cur b w l 0) (hl : l.length ≤ 140737488355328) (hn : n ≤ 65536) :
 Calls Tryz.prog 205 #[.pointer (some ⟨b, 0, none⟩), .int .i64 n, .int .i64 K] w (Tx.Rd b w (rdBody K n l)) := by
 rcases (by omega : K = 0 ∨ K = 1) with rfl | rfl
 ·have cr := Tx.readStrings_c b n l false w hw hG h hl hn
  rw [Tx.rdBody0]
  clear h hK
  go_enter Tryz.func205, Tryz.ntmps205
  go_wp2_with fail
  refine cr.mono ?_
  rintro e w3 ⟨v, rfl, hr⟩
  have HR := Lib.hid hr
  clear cr hr
  go_wp2
  go_ret2
  exact ⟨v, rfl, HR.out⟩
 ·have cr := Tx.readDictionary_c b n l w hw hG h hl hn
  clear h hK
  go_enter Tryz.func205, Tryz.ntmps205
  go_wp2_with fail
  refine cr.mono ?_
  rintro e w3 ⟨v, rfl, hr⟩
  have HR := Lib.hid hr
  clear cr hr
  go_wp2
  go_ret2
  exact ⟨v, rfl, HR.out⟩
set_option maxHeartbeats 4000000 in
set_option maxRecDepth 100000 in
theorem Tx.read_c (s : ByteArray) (w : World) (hw : Ty.Tabs w) (hs : s.size ≤ 140737488355328) :
 Calls Tryz.prog 191 #[.string s] w (Tx.Got w (rd s.data.toList)) := by
 have hsl : s = Ty.S s.data.toList := rfl
 have hll : s.data.toList.length ≤ 140737488355328 := by rw [Ty.length_data]; exact hs
 rw [hsl, Ty.data_S]
 generalize s.data.toList = l at hll ⊢
 clear hsl hs
 have cf := Ty.from_f l w hw
 have hG := hw.two
 cases l with
 | nil =>
   have HR : Hid (rd [] = (2, [])) := Lib.hid rfl
   have e1 : Ty.rdB [] 0 = (0, [], 2) := rfl
   have cb := fun b wz (hc : Ty.Cur b wz [] 0) => Ty.cbyte_c b [] 0 wz hc (by simp)
   have crc := fun b wz (hT : Ty.Tabs wz) (hc : Ty.Cur b wz [] 2) => Tx.readCount_bad b 2 [] wz hT hc (by decide) (by simp)
   rw [e1] at cb
   clear e1 hll
   go_enter Tryz.func191, Tryz.ntmps191
   go_wp2_with fail
   refine cf.mono ?_
   rintro e w1 ⟨rfl, hc1, hT1, hg1⟩
   have hs1 := hg1.size
   have cb1 := cb _ _ hc1
   have HB1 := Lib.hid (Ty.below_none hg1 (Nat.le_refl _))
   clear cf cb hc1 hg1
   go_wp2_with fail
   refine cb1.mono ?_
   rintro e w2 ⟨rfl, hc2, hg2⟩
   have crc2 := crc _ _ (hT1.at_ hg2 hG) hc2
   have HB2 := Lib.hid (HB1.out.trans (Ty.below_at (B := w.heap.size) hg2 hs1 (Nat.le_refl _)))
   have hs2 := HB2.out.size
   clear cb1 hc2 hg2 hT1 crc
   go_wp2_with fail
   refine crc2.mono ?_
   rintro e w3 ⟨rfl, hg3⟩
   have HB3 := Lib.hid (HB2.out.trans (Ty.below_at (B := w.heap.size) hg3 hs2 (Nat.le_refl _)))
   clear crc2 hg3
   go_wp2
   go_ret2
   exact Tx.Got.bad HR.out rfl HB3.out
 | cons x r =>
   have hrl : r.length ≤ 140737488355328 := by rw [List.length_cons] at hll; omega
   have cb := fun b wz (hc : Ty.Cur b wz (x :: r) 0) => Pk.cbyte_m b x r wz hc (by omega)
   by_cases h1 : 1 < x.toNat
   ·have HR := Lib.hid (Tx.rd1 (r := r) h1)
    have h1i : (2 : Int) ≤ (x.toNat : Int) := by omega
    clear h1
    go_enter Tryz.func191, Tryz.ntmps191
    go_wp2_with fail
    refine cf.mono ?_
    rintro e w1 ⟨rfl, hc1, hT1, hg1⟩
    have hs1 := hg1.size
    have cb1 := cb _ _ hc1
    have HB1 := Lib.hid (Ty.below_none hg1 (Nat.le_refl _))
    clear cf cb hc1 hg1
    go_wp2_with fail
    refine cb1.mono ?_
    rintro e w2 ⟨rfl, hc2, hg2⟩
    have HB2 := Lib.hid (HB1.out.trans (Ty.below_at (B := w.heap.size) hg2 hs1 (Nat.le_refl _)))
    clear cb1 hc2 hg2 hT1
    go_wp2
    go_ret2
    exact Tx.Got.bad HR.out rfl HB2.out
   ·have crc := fun b wz (hT : Ty.Tabs wz) (hc : Ty.Cur b wz r 0) => Tx.readCount_c b r wz hT hc hrl
    obtain ⟨K, hK⟩ : ∃ K, K = x.toNat := ⟨_, rfl⟩
    have hKi : ¬ (2 : Int) ≤ (K : Int) := by omega
    have hK1 : K ≤ 1 := by omega
    have hr3 := Tx.rest_le r
    have hl3 : (rest r).length ≤ 140737488355328 := by omega
    by_cases hE : Tx.cntE r = 0
    ·have he : (num r).2.2 = 0 := by
      unfold Tx.cntE at hE
      by_cases h0 : (num r).2.2 ≠ 0
      ·rw [if_pos h0] at hE; exact absurd hE h0
      ·simpa using h0
     have hm : ¬ 65536 < (num r).1 := by
      unfold Tx.cntE at hE
      rw [if_neg (by rw [he]; simp)] at hE
      intro h1
      rw [if_pos h1] at hE
      cases hE
     have G4 := Lib.hid (fun h4 => Tx.rd4 (r := r) h1 he hm h4)
     have G5 := Lib.hid (fun h4 h5 => Tx.rd5 (r := r) h1 he hm h4 h5)
     have G6 := Lib.hid (fun h4 h5 => Tx.rd6 (r := r) h1 he hm h4 h5)
     rw [hE] at crc
     rw [← hK] at cb G4 G5 G6
     generalize rd (x :: r) = RR at G4 G5 G6 ⊢
     have ce := fun b wz (hT : Ty.Tabs wz) (hb : Ty.G ≤ b) (hc : Ty.Cur b wz (rest r) 0) => Tx.readElements_c b (num r).1 K hK1 (rest r) wz hT hb hc hl3 (by omega)
     generalize (num r).1 = n at crc G4 G5 G6 ce
     generalize rest r = l3 at crc G4 G5 G6 ce
     generalize rdBody K n l3 = T at ce G4 G5 G6
     obtain ⟨C, L, l4⟩ := T
     simp only at G4 G5 G6
     clear hK h1 he hm hE hr3 hl3 hK1
     go_enter Tryz.func191, Tryz.ntmps191
     go_wp2_with fail
     refine cf.mono ?_
     rintro e w1 ⟨rfl, hc1, hT1, hg1⟩
     have hs1 := hg1.size
     have cb1 := cb _ _ hc1
     have HB1 := Lib.hid (Ty.below_none hg1 (Nat.le_refl _))
     clear cf cb hc1 hg1
     go_wp2_with fail
     refine cb1.mono ?_
     rintro e w2 ⟨rfl, hc2, hg2⟩
     have hT2 := hT1.at_ hg2 hG
     have crc2 := crc _ _ hT2 hc2
     have HB2 := Lib.hid (HB1.out.trans (Ty.below_at (B := w.heap.size) hg2 hs1 (Nat.le_refl _)))
     have hs2 := HB2.out.size
     clear cb1 hc2 hg2 hT1 crc
     go_wp2_with fail
     refine crc2.mono ?_
     rintro e w3 ⟨m', rfl, hgd, hg3⟩
     obtain ⟨rfl, hm6, hc3⟩ := hgd (by trivial)
     have hT3 := hT2.at_ hg3 hG
     have ce3 := ce _ _ hT3 hG hc3
     have hbase : w.heap.size < w3.heap.size := hc3.lt
     have HB3 := Lib.hid (HB2.out.trans (Ty.below_at (B := w.heap.size) hg3 hs2 (Nat.le_refl _)))
     have hs3 := HB3.out.size
     simp only [Int.natCast_zero]
     clear crc2 hg3 hgd hc3 hT2 ce hT3
     go_wp2_with fail
     refine ce3.mono ?_
     rintro e w7 ⟨v7, rfl, hO7, hc7, hg7⟩
     simp only at hO7 hc7
     have HB7 := Lib.hid (HB3.out.trans (Ty.below_at (B := w.heap.size) hg7 hs3 (Nat.le_refl _)))
     clear ce3 hg7
     by_cases hC : C = 0
     ·subst hC
      simp only [if_true] at hO7
      have HC8 := Lib.hid (hc7 (by trivial))
      have K5 := Lib.hid (G5.out (by trivial))
      have K6 := Lib.hid (G6.out (by trivial))
      have HA7 := Lib.hid hO7.at
      simp only [Int.natCast_zero]
      have hd := Ty.done_c w.heap.size l4 0 _ HC8.out
      clear hc7 hO7 G4 G5 G6
      by_cases hl4 : l4 = []
      ·have HR := Lib.hid (K6.out hl4)
       have hf : Ty.fin l4 0 = 0 := by rw [hl4]; rfl
       rw [hf] at hd
       simp only [Int.natCast_zero] at hd
       clear hl4 hf
       go_wp2_with fail
       refine hd.mono ?_
       rintro e w8 ⟨rfl, rfl⟩
       clear hd
       go_wp2
       go_ret2
       exact Tx.Got.good HR.out HA7.out HB7.out
      ·have HR := Lib.hid (K5.out hl4)
       have hf : Ty.fin l4 0 = 5 := by unfold Ty.fin; rw [if_pos ⟨rfl, hl4⟩]
       rw [hf] at hd
       have HF := Lib.hid hf
       clear hl4 hf
       go_wp2_with fail
       refine hd.mono ?_
       rintro e w8 ⟨rfl, rfl⟩
       have hd2 := Ty.done_c w.heap.size l4 0 _ HC8.out
       rw [HF.out] at hd2
       clear hd
       go_wp2_with fail
       refine hd2.mono ?_
       rintro e w9 ⟨rfl, rfl⟩
       clear hd2
       go_wp2
       go_ret2
       exact Tx.Got.bad HR.out rfl HB7.out
     ·have HR := Lib.hid (G4.out hC)
      have hne : ((C : Int) != 0) = true := by rw [bne_iff_ne]; omega
      clear hC hO7 hc7
      go_wp2
      go_ret2
      exact Tx.Got.bad HR.out rfl HB7.out
    ·have HR : Hid (rd (x :: r) = (Tx.cntE r, [])) := Lib.hid (by
      unfold Tx.cntE at hE ⊢
      by_cases h0 : (num r).2.2 ≠ 0
      ·rw [if_pos h0, Tx.rd2 h1 h0]
      ·rw [if_neg h0] at hE ⊢
       by_cases h3 : 65536 < (num r).1
       ·rw [if_pos h3, Tx.rd3 h1 (by simpa using h0) h3]
       ·rw [if_neg h3] at hE
        exact absurd rfl hE)
     rw [← hK] at cb
     generalize rd (x :: r) = RR at HR ⊢
     generalize Tx.cntE r = q at crc hE HR
     have hne : ((q : Int) != 0) = true := by rw [bne_iff_ne]; omega
     clear hK h1 hE hr3 hl3 hK1
     go_enter Tryz.func191, Tryz.ntmps191
     go_wp2_with fail
     refine cf.mono ?_
     rintro e w1 ⟨rfl, hc1, hT1, hg1⟩
     have hs1 := hg1.size
     have cb1 := cb _ _ hc1
     have HB1 := Lib.hid (Ty.below_none hg1 (Nat.le_refl _))
     clear cf cb hc1 hg1
     go_wp2_with fail
     refine cb1.mono ?_
     rintro e w2 ⟨rfl, hc2, hg2⟩
     have hT2 := hT1.at_ hg2 hG
     have crc2 := crc _ _ hT2 hc2
     have HB2 := Lib.hid (HB1.out.trans (Ty.below_at (B := w.heap.size) hg2 hs1 (Nat.le_refl _)))
     have hs2 := HB2.out.size
     clear cb1 hc2 hg2 hT1 crc
     go_wp2_with fail
     refine crc2.mono ?_
     rintro e w3 ⟨m', rfl, _, hg3⟩
     have HB3 := Lib.hid (HB2.out.trans (Ty.below_at (B := w.heap.size) hg3 hs2 (Nat.le_refl _)))
     clear crc2 hg3
     go_wp2
     go_ret2
     exact Tx.Got.bad HR.out rfl HB3.out
end
section
open Go.RowKit
theorem Cl.map_snoc {A : Type} (f : A → Kn.V) {L : List A} {k : Nat} (h : k < L.length) : (L.map f).take (k + 1) = (L.map f).take k ++ [f L[k]] := by
 rw [List.take_succ_eq_append_getElem (by rw [List.length_map]; exact h), List.getElem_map]
set_option maxHeartbeats 2000000 in
set_option maxRecDepth 100000 in
theorem Cl.readPresent_n (s : ByteArray) (w : World) (hw : Ty.Tabs w) (hs : s.size ≤ 140737488351232) :
 Calls Tryz.prog 171 #[.int .i64 1, .string s] w (Cl.Got w ((Ig.rd s.data.toList).1, (Ig.rd s.data.toList).2.map Cl.ofN)) := by
 have cr := Ig.read_c s w hw (by omega)
 have hll := Cl.ird_len s.data.toList
 generalize Ig.rd s.data.toList = R at cr hll ⊢
 obtain ⟨E, L⟩ := R
 simp only at hll ⊢
 have hmk := Cl.run_makeV L.length (by omega)
 have HL := Lib.hid hll
 clear hs hll
 go_enter Tryz.func171, Tryz.ntmps171
 go_wp2_with fail
 refine cr.mono ?_
 rintro e w1 ⟨v, rfl, hA, g1⟩
 obtain ⟨a, cp, rfl, hcp, _, h⟩ := hA
 have HH := Lib.hid h
 have HG1 := Lib.hid g1
 have hz1 := g1.size
 clear cr h g1
 simp only
 go_wp2_with fail
 have hR := Cl.Row.start (w := w1) (n := L.length)
 have hB : Below w1.heap.size w1 (w1.alloc (.cells (madeCells #[.bool false, .int .i64 0, .string ⟨#[]⟩] (L.length * 3)) 33)) := (Below.refl _ _).alloc (Nat.le_refl _) _
 generalize w1.alloc _ = w2 at hR hB ⊢
 clear hmk
 obtain ⟨g, hg⟩ : ∃ g, g = w1.heap.size := ⟨_, rfl⟩
 rw [← hg] at hR hB ⊢
 have HGE := Lib.hid hg
 clear hg
 go_loopw [51] (fun i wr => ∃ k : Nat, k ≤ L.length ∧ i = .int .i64 k ∧ Cl.Row wr g L.length (Cl.fo ((L.map Cl.ofN).take k)) ∧ Below g w1 wr) (fun i _ => L.length - (intOf i).toNat)
 case atStart => exact ⟨0, by omega, rfl, hR, hB⟩
 case round =>
  obtain ⟨k, hk, rfl, hRk, hBk⟩ := hrel
  have HR := Lib.hid hRk
  have HB := Lib.hid hBk
  clear hR hB hRk hBk
  by_cases hlk : k < L.length
  ·rcases HH.out with h | ⟨b, o, rfl, hbl, h⟩
   ·exact absurd hlk (by rw [h]; simp)
   ·have hblg : b < g := by rw [HGE.out]; exact hbl
    have a0 := (HB.out.cell (p := ⟨b, o + k, none⟩) hblg).trans (h k hlk)
    obtain ⟨x, hx⟩ : ∃ x, x = L[k] := ⟨_, rfl⟩
    have ha : Value.int .i64 (Ig.nth L k) = .int .i64 x := by rw [hx]; unfold Ig.nth; rw [List.getD, List.getElem?_eq_getElem hlk]; rfl
    rw [ha] at a0
    have HN : Hid ((L.map Cl.ofN).take (k + 1) = (L.map Cl.ofN).take k ++ [Cl.ofN x]) := Lib.hid (by rw [hx]; exact Cl.map_snoc _ hlk)
    have HTL : Hid (((L.map Cl.ofN).take k).length = k) := Lib.hid (by rw [List.length_take, List.length_map]; omega)
    have hkl : (k : Int) < (L.length : Int) := by omega
    have hk0 : (0 : Int) ≤ (k : Int) := by omega
    have hcl := HR.out.c1 hlk
    have hf := World.rowIs.frozen HR.out (k * 3 + 1)
    have hL6 := HL.out
    clear h hx ha
    go_wp2
    go_roundw
    case rel => exact ⟨k + 1, by omega, by simp, by rw [HN.out]; exact HR.out.snoc_n HTL.out x, Cl.below_cell HB.out (Nat.le_refl _) _⟩
    case measure => simp [intOf]; omega
  ·obtain rfl : k = L.length := by omega
   have hkl : ¬ (L.length : Int) < (L.length : Int) := by omega
   have HTK : Hid ((L.map Cl.ofN).take L.length = L.map Cl.ofN) := Lib.hid (List.take_of_length_le (by rw [List.length_map]; exact Nat.le_refl _))
   go_wp2
   go_ret2
   refine ⟨_, rfl, Cl.Row.done (by rw [← HTK.out]; exact HR.out) (List.length_map _) (by have := HL.out; omega), HG1.out.trans (HB.out.mono (by rw [HGE.out]; exact hz1))⟩
set_option maxHeartbeats 2000000 in
set_option maxRecDepth 100000 in
theorem Cl.readPresent_s (s : ByteArray) (w : World) (hw : Ty.Tabs w) (hs : s.size ≤ 140737488351232) :
 Calls Tryz.prog 171 #[.int .i64 2, .string s] w (Cl.Got w ((Tx.rd s.data.toList).1, (Tx.rd s.data.toList).2.map Cl.ofS)) := by
 have cr := Tx.read_c s w hw (by omega)
 have hll := Cl.trd_len s.data.toList
 generalize Tx.rd s.data.toList = R at cr hll ⊢
 obtain ⟨E, L⟩ := R
 simp only at hll ⊢
 have hmk := Cl.run_makeV L.length (by omega)
 have HL := Lib.hid hll
 clear hs hll
 go_enter Tryz.func171, Tryz.ntmps171
 go_wp2_with fail
 refine cr.mono ?_
 rintro e w1 ⟨v, rfl, hA, g1⟩
 obtain ⟨a, cp, rfl, hcp, _, h⟩ := hA
 have HH := Lib.hid h
 have HG1 := Lib.hid g1
 have hz1 := g1.size
 clear cr h g1
 simp only
 go_wp2_with fail
 have hR := Cl.Row.start (w := w1) (n := L.length)
 have hB : Below w1.heap.size w1 (w1.alloc (.cells (madeCells #[.bool false, .int .i64 0, .string ⟨#[]⟩] (L.length * 3)) 33)) := (Below.refl _ _).alloc (Nat.le_refl _) _
 generalize w1.alloc _ = w2 at hR hB ⊢
 clear hmk
 obtain ⟨g, hg⟩ : ∃ g, g = w1.heap.size := ⟨_, rfl⟩
 rw [← hg] at hR hB ⊢
 have HGE := Lib.hid hg
 clear hg
 go_loopw [28] (fun i wr => ∃ k : Nat, k ≤ L.length ∧ i = .int .i64 k ∧ Cl.Row wr g L.length (Cl.fo ((L.map Cl.ofS).take k)) ∧ Below g w1 wr) (fun i _ => L.length - (intOf i).toNat)
 case atStart => exact ⟨0, by omega, rfl, hR, hB⟩
 case round =>
  obtain ⟨k, hk, rfl, hRk, hBk⟩ := hrel
  have HR := Lib.hid hRk
  have HB := Lib.hid hBk
  clear hR hB hRk hBk
  by_cases hlk : k < L.length
  ·rcases HH.out with h | ⟨b, o, rfl, hbl, h⟩
   ·exact absurd hlk (by rw [h.1]; simp)
   ·have hblg : b < g := by rw [HGE.out]; exact hbl
    have a0 := (HB.out.cell (p := ⟨b, o + k, none⟩) hblg).trans (h k hlk)
    obtain ⟨x, hx⟩ : ∃ x, x = L[k] := ⟨_, rfl⟩
    have ha : Tx.sv L k = .string (Ty.S x) := by rw [hx]; unfold Tx.sv; rw [List.getD, List.getElem?_eq_getElem hlk]; rfl
    rw [ha] at a0
    have HN : Hid ((L.map Cl.ofS).take (k + 1) = (L.map Cl.ofS).take k ++ [Cl.ofS x]) := Lib.hid (by rw [hx]; exact Cl.map_snoc _ hlk)
    have HTL : Hid (((L.map Cl.ofS).take k).length = k) := Lib.hid (by rw [List.length_take, List.length_map]; omega)
    have hkl : (k : Int) < (L.length : Int) := by omega
    have hk0 : (0 : Int) ≤ (k : Int) := by omega
    have hcl := HR.out.c2 hlk
    have hf := World.rowIs.frozen HR.out (k * 3 + 2)
    have hL6 := HL.out
    clear h hx ha
    go_wp2
    go_roundw
    case rel => exact ⟨k + 1, by omega, by simp, by rw [HN.out]; exact HR.out.snoc_s HTL.out x, Cl.below_cell HB.out (Nat.le_refl _) _⟩
    case measure => simp [intOf]; omega
  ·obtain rfl : k = L.length := by omega
   have hkl : ¬ (L.length : Int) < (L.length : Int) := by omega
   have HTK : Hid ((L.map Cl.ofS).take L.length = L.map Cl.ofS) := Lib.hid (List.take_of_length_le (by rw [List.length_map]; exact Nat.le_refl _))
   go_wp2
   go_ret2
   refine ⟨_, rfl, Cl.Row.done (by rw [← HTK.out]; exact HR.out) (List.length_map _) (by have := HL.out; omega), HG1.out.trans (HB.out.mono (by rw [HGE.out]; exact hz1))⟩
theorem Cl.readPresent_c (c : Kn.C) (hg : c.good = true) (s : ByteArray) (w : World) (hw : Ty.Tabs w) (hs : s.size ≤ 140737488351232) :
 Calls Tryz.prog 171 #[.int .i64 c.k, .string s] w (Cl.Got w (Cl.back c s.data.toList)) := by
 unfold Cl.back
 rcases (Cl.good_iff c).1 hg with h | h
 ·rw [h, if_pos rfl]; exact Cl.readPresent_n s w hw hs
 ·rw [h, if_neg (by decide)]; exact Cl.readPresent_s s w hw hs
end
end Go.Proofs.YtbelkhkllneifaaGreatDoor
