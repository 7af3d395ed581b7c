/-
  Contracts of package texts: the readers of a number and of strings.
-/
import Derived.Test.YtcognkgabdaneaaGreatDoorUB
import Derived.Test.YtcognkgabdaneaaGreatDoorQC
import Derived.Laws.MakeOwn
namespace Go.Proofs.YtcognkgabdaneaaGreatDoor
open Go.RowKit
open Ty (encU num txt)
open Ig (rest)
open Tx (restT rdWords rdPick)
/-- The cursor's numbers and strings in our own words. -/
theorem Tx.cuint_m (b : Nat) (l : List UInt8) (w : World) (hw : Ty.Tabs w) (h : Ty.Cur b w l 0) (hl : l.length ≤ 9223372036854775807) :
    Calls Tryz.prog 45 #[.pointer (some ⟨b, 0, none⟩)] w (Ty.Left b w (.int .u64 ((num l).1 : Int)) (rest l) (num l).2.2) := by
  have e : Ty.rdU l 0 = ((num l).1, rest l, (num l).2.2) := by unfold Ty.rdU; rw [if_neg (by omega)]; rfl
  have := Ty.cuint_c b l 0 w hw h hl
  rw [e] at this
  exact this
theorem Tx.ctext_m (b : Nat) (l : List UInt8) (w : World) (hw : Ty.Tabs w) (h : Ty.Cur b w l 0) (hl : l.length ≤ 9223372036854775807) :
    Calls Tryz.prog 123 #[.pointer (some ⟨b, 0, none⟩), .int .i64 64] w (Ty.Left b w (.string (Ty.S (txt l 64).1)) (restT l) (txt l 64).2.2) := by
  have e : Ty.rdT 64 l 0 = ((txt l 64).1, restT l, (txt l 64).2.2) := by unfold Ty.rdT; rw [if_neg (by omega)]; rfl
  have := Ty.ctext_c b l 0 64 (by omega) w hw h hl
  rw [e] at this
  exact this
theorem Tx.rest_le (l : List UInt8) : (rest l).length ≤ l.length := by unfold rest; rw [List.length_drop]; omega
theorem Tx.restT_le (l : List UInt8) : (restT l).length ≤ l.length := by unfold restT; rw [List.length_drop]; omega
/-- The error of a number of strings. -/
def Tx.cntE (l : List UInt8) : Nat := if (num l).2.2 ≠ 0 then (num l).2.2 else if 65536 < (num l).1 then 3 else 0
set_option maxHeartbeats 1000000 in
theorem Tx.readCount_c (b : Nat) (l : List UInt8) (w : World) (hw : Ty.Tabs w) (h : Ty.Cur b w l 0) (hl : l.length ≤ 140737488355328) :
    Calls Tryz.prog 69 #[.pointer (some ⟨b, 0, none⟩)] w fun e w' => ∃ n : Nat, e = .returned (.tuple #[.int .i64 (n : Int), .int .i64 ((Tx.cntE l : Nat) : Int)]) ∧ (Tx.cntE l = 0 → n = (num l).1 ∧ n ≤ 65536 ∧ Ty.Cur b w' (rest l) 0) ∧ w.grownBy w' (some b) := by
  have cu := Tx.cuint_m b l w hw h (by omega)
  by_cases he : (num l).2.2 = 0
  · rw [he] at cu
    by_cases hn : 65536 < (num l).1
    · have HE : Hid (Tx.cntE l = 3) := Lib.hid (by unfold Tx.cntE; rw [if_neg (by rw [he]; simp), if_pos hn])
      rw [HE.out]
      have hni : (65536 : Int) < ((num l).1 : Int) := by omega
      generalize (num l).1 = x at cu hni
      clear he h hn
      go_enter Tryz.func69, Tryz.ntmps69
      go_wp2_with fail
      refine cu.mono ?_
      rintro e w3 ⟨rfl, hc3, hg3⟩
      have HC3 := Lib.hid hc3
      have HG3 := Lib.hid hg3
      clear cu hc3 hg3
      go_wp2_with fail
      refine (Ty.err_c b _ 0 _ HC3.out).mono ?_
      rintro e w4 ⟨rfl, rfl⟩
      go_wp2
      go_ret2
      exact ⟨0, rfl, fun e => absurd e (by decide), HG3.out⟩
    · have HE : Hid (Tx.cntE l = 0) := Lib.hid (by unfold Tx.cntE; rw [if_neg (by rw [he]; simp), if_neg hn])
      rw [HE.out]
      have hni : ¬ (65536 : Int) < ((num l).1 : Int) := by omega
      have HX : Hid ((num l).1 ≤ 65536) := Lib.hid (by omega)
      generalize (num l).1 = x at cu hni HX ⊢
      have hx0 : (0 : Int) ≤ (x : Int) := by omega
      clear he h hn
      go_enter Tryz.func69, Tryz.ntmps69
      go_wp2_with fail
      refine cu.mono ?_
      rintro e w3 ⟨rfl, hc3, hg3⟩
      have HC3 := Lib.hid hc3
      have HG3 := Lib.hid hg3
      clear cu hc3 hg3
      go_wp2_with fail
      refine (Ty.err_c b _ 0 _ HC3.out).mono ?_
      rintro e w4 ⟨rfl, rfl⟩
      go_wp2
      go_ret2
      exact ⟨x, rfl, fun _ => ⟨rfl, HX.out, HC3.out⟩, HG3.out⟩
  · have HE : Hid (Tx.cntE l = (num l).2.2) := Lib.hid (by unfold Tx.cntE; rw [if_pos he])
    rw [HE.out]
    generalize (num l).2.2 = q at cu he ⊢
    have hne : ((q : Int) != 0) = true := by rw [bne_iff_ne]; omega
    have HQ := Lib.hid he
    clear he h
    go_enter Tryz.func69, Tryz.ntmps69
    go_wp2_with fail
    refine cu.mono ?_
    rintro e w3 ⟨rfl, hc3, hg3⟩
    have HC3 := Lib.hid hc3
    have HG3 := Lib.hid hg3
    clear cu hc3 hg3
    go_wp2_with fail
    refine (Ty.err_c b _ q _ HC3.out).mono ?_
    rintro e w4 ⟨rfl, rfl⟩
    go_wp2_with fail
    refine (Ty.err_c b _ q _ HC3.out).mono ?_
    rintro e w4 ⟨rfl, rfl⟩
    go_wp2
    go_ret2
    exact ⟨0, rfl, fun e => absurd e HQ.out, HG3.out⟩
set_option maxHeartbeats 1000000 in
theorem Tx.readCount_bad (b q : Nat) (l : List UInt8) (w : World) (hw : Ty.Tabs w) (h : Ty.Cur b w l q) (hq : q ≠ 0) (hl : l.length ≤ 140737488355328) :
    Calls Tryz.prog 69 #[.pointer (some ⟨b, 0, none⟩)] w fun e w' => e = .returned (.tuple #[.int .i64 0, .int .i64 (q : Int)]) ∧ w.grownBy w' (some b) := by
  have cu := Ty.cuint_c b l q w hw h (by omega)
  have e1 : Ty.rdU l q = (0, l, q) := by unfold Ty.rdU; rw [if_pos hq]
  rw [e1] at cu
  have hne : ((q : Int) != 0) = true := by rw [bne_iff_ne]; omega
  clear e1 h hq
  go_enter Tryz.func69, Tryz.ntmps69
  go_wp2_with fail
  refine cu.mono ?_
  rintro e w3 ⟨rfl, hc3, hg3⟩
  have HC3 := Lib.hid hc3
  have HG3 := Lib.hid hg3
  clear cu hc3 hg3
  go_wp2_with fail
  refine (Ty.err_c b _ q _ HC3.out).mono ?_
  rintro e w4 ⟨rfl, rfl⟩
  go_wp2_with fail
  refine (Ty.err_c b _ q _ HC3.out).mono ?_
  rintro e w4 ⟨rfl, rfl⟩
  go_wp2
  go_ret2
  exact ⟨rfl, HG3.out⟩
/-- What a reader leaves. -/
def Tx.Rd (b : Nat) (w : World) (r : Nat × List Tx.Str × List UInt8) (e : Ending) (w' : World) : Prop :=
  ∃ v, e = .returned (.tuple #[v, .int .i64 ((r.1 : Nat) : Int)]) ∧ Tx.Own w.heap.size w' v (if r.1 = 0 then r.2.1 else []) ∧ (r.1 = 0 → Ty.Cur b w' r.2.2 0) ∧ w.grownBy w' (some b)
theorem Tx.Rd.bad {b : Nat} {w w' : World} {r : Nat × List Tx.Str × List UInt8} {z : Int} (hz : z = ((r.1 : Nat) : Int)) (h : r.1 ≠ 0) (g : w.grownBy w' (some b)) : Tx.Rd b w r (.returned (.tuple #[.slice none 0 0, .int .i64 z])) w' :=
  ⟨_, by rw [hz], by rw [if_neg h]; exact Tx.Own.nil _ _, fun e => absurd e h, g⟩
theorem Tx.Rd.good {b : Nat} {w w' : World} {r : Nat × List Tx.Str × List UInt8} {v : Value} (h : r.1 = 0) (ho : Tx.Own w.heap.size w' v r.2.1) (hc : Ty.Cur b w' r.2.2 0) (g : w.grownBy w' (some b)) : Tx.Rd b w r (.returned (.tuple #[v, .int .i64 0])) w' :=
  ⟨_, by rw [h]; rfl, by rw [if_pos h]; exact ho, fun _ => hc, g⟩
/-- Not behind the one ahead of it. -/
theorem Tx.le_not (q x : Tx.Str) : (Tx.lt q x = true ∧ Op.bytesLess (Ty.S x).toList (Ty.S q).toList = false ∧ ((Ty.S x).toList == (Ty.S q).toList) = false) ∨ (Tx.lt q x = false ∧ Op.bytesLess (Ty.S x).toList (Ty.S q).toList = true ∧ ((Ty.S x).toList == (Ty.S q).toList) = false) ∨ (Tx.lt q x = false ∧ Op.bytesLess (Ty.S x).toList (Ty.S q).toList = false ∧ ((Ty.S x).toList == (Ty.S q).toList) = true) := by
  rw [Tx.S_toList, Tx.S_toList]
  rcases Kn.bl_total q x with h | h | h
  · exact .inl ⟨h, (Kn.bl_ne h).1, by rw [beq_eq_false_iff_ne]; exact fun e => (Kn.bl_ne h).2 e.symm⟩
  · subst h
    exact .inr (.inr ⟨Kn.bl_irrefl q, Kn.bl_irrefl q, by rw [beq_iff_eq]⟩)
  · exact .inr (.inl ⟨(Kn.bl_ne h).1, h, by rw [beq_eq_false_iff_ne]; exact (Kn.bl_ne h).2⟩)
set_option maxHeartbeats 4000000 in
set_option maxRecDepth 100000 in
theorem Tx.readStrings_c (b n : Nat) (l : List UInt8) (ord : Bool) (w : World) (hw : Ty.Tabs w) (hG : Ty.G ≤ b) (h : Ty.Cur b w l 0) (hl : l.length ≤ 140737488355328) (hn : n ≤ 65536) :
    Calls Tryz.prog 101 #[.pointer (some ⟨b, 0, none⟩), .int .i64 n, .bool ord] w (Tx.Rd b w (rdWords ord n none l)) := by
  obtain ⟨i0, hi0, hz0, hz1, hz2⟩ := info_parts Tx.infoS
  have hbw := h.lt
  have hmk : ∀ m : Nat, m ≤ 65536 → ∃ w2, (Instr.makeSlice 74 (.int .i64 0) (.int .i64 (m : Int))).run Tryz.prog w = .ok (.slice (some ⟨w.heap.size, 0, none⟩) 0 m) w2 ∧ w2.ownsRow w.heap.size 9 1 (.slice (some ⟨w.heap.size, 0, none⟩) 0 m) 0 [] ∧ w.grownBy w2 none := fun m hm =>
    run_make_own w w.heap.size 74 9 i0 _ 1 Tryz.underlying74 hi0 hz0 hz1 .i64 .i64 m (by rw [hz2]; omega) (by unfold maxLen; omega) (Nat.le_refl _)
  have HM0 := Lib.hid (Tx.MidW.start ord n l)
  clear hi0 hz0 hz1 hz2
  by_cases hle : (n : Int) ≤ (l.length : Int)
  all_goals
    go_enter Tryz.func101, Tryz.ntmps101
    go_wp2_with fail
    refine (Ty.left_c b l 0 _ h).mono ?_
    rintro e w1 ⟨rfl, rfl⟩
    first
      | (have hm2 : n ≤ l.length := by omega
         have hmin : min (n : Int) (l.length : Int) = (n : Int) := Int.min_eq_left hle
         obtain ⟨w2, hmr, hown, hg2⟩ := hmk n hn)
      | (have hmin : min (n : Int) (l.length : Int) = (l.length : Int) := Int.min_eq_right (by omega)
         obtain ⟨w2, hmr, hown, hg2⟩ := hmk l.length (by omega))
    have hc2 := h.none_ hg2
    have H2 := Lib.hid hown
    have hgb := Pk.by_some hg2 b
    clear hmk hown
    go_wp2_with fail
    go_loopw [8, 17] (fun lv i wr => ∃ M l2, i = .int .i64 ((M.length : Nat) : Int) ∧ Tx.MidW ord n l M l2 ∧ l2.length ≤ l.length ∧ Tx.Own w1.heap.size wr lv M ∧ Ty.Cur b wr l2 0 ∧ w1.grownBy wr (some b) ∧ ∀ t ∈ M, t.length ≤ 64) (fun _ i _ => n - (intOf i).toNat)
    case atStart => exact ⟨[], l, rfl, HM0.out, Nat.le_refl _, H2.out, hc2, hgb, fun t ht => by cases ht⟩
    case round =>
      obtain ⟨M, l2, rfl, hM, hll, hO, hc, hg, h64⟩ := hrel
      clear hmr hc2 hgb hg2 hmin
      have hT := hw.by hg (by intro k hk; cases hk; exact hG)
      have HM64 := Lib.hid h64
      have hMn := hM.1
      have HM := Lib.hid hM
      have HO := Lib.hid hO
      have HGR := Lib.hid hg
      have hws := hg.size
      clear hM hg h64
      have hj0 : (0 : Int) ≤ (M.length : Int) := by omega
      by_cases hk : M.length < n
      · have hki : (M.length : Int) < (n : Int) := by omega
        have cu := Tx.ctext_m b l2 wr hT hc (by omega)
        by_cases he : (txt l2 64).2.2 = 0
        · rw [he] at cu
          obtain ⟨x, hx⟩ : ∃ x, x = (txt l2 64).1 := ⟨_, rfl⟩
          have hform := hO.form
          have HNX : Hid ((ord = true → ∀ q, M.getLast? = some q → Tx.lt q x = true) → Tx.MidW ord n l (M ++ [x]) (restT l2)) := Lib.hid (by rw [hx]; exact HM.out.next hk he)
          have HBD : Hid (∀ q, M.getLast? = some q → ord = true → Tx.lt q x = false → (rdWords ord n none l).1 = 4) := Lib.hid (by
            intro q hq ho hl
            subst ho
            rw [hx] at hl
            exact HM.out.bad hk he hq hl)
          have HXL : Hid (x.length ≤ 64) := Lib.hid (by rw [hx]; exact (Tx.splitT he).2)
          have HX64 : Hid (∀ t ∈ M ++ [x], t.length ≤ 64) := Lib.hid fun t ht => by
            rcases List.mem_append.1 ht with h | h
            · exact HM64.out t h
            · rw [List.mem_singleton.1 h]; exact HXL.out
          have HRL : Hid ((restT l2).length ≤ l.length) := Lib.hid (Nat.le_trans (Tx.restT_le l2) hll)
          rw [← hx] at cu
          generalize restT l2 = l3 at cu HNX HRL
          clear he hx hO hc hT
          have HLT := Lib.hid (fun q => Tx.le_not q x)
          have cc := fun wz => Tx.clone_c (Ty.S x) wz (by rw [Tx.S_size]; have := HXL.out; omega)
          obtain ⟨xs, hxs⟩ : ∃ xs, xs = Ty.S x := ⟨_, rfl⟩
          rw [← hxs] at cu cc HLT
          have HXS := Lib.hid hxs
          clear hxs
          cases ord
          · clear hform
            go_wp2_with fail
            refine cu.mono ?_
            rintro e w3 ⟨rfl, hc3, hg3⟩
            have HC3 := Lib.hid hc3
            have hO3 := HO.out.by hg3 hbw
            have HO3 := Lib.hid hO3
            have HG3 := Lib.hid (Ty.by_trans HGR.out hg3)
            have hs3 := hg3.size
            have HN := Lib.hid (HNX.out (fun e => by cases e))
            clear cu hg3 hc3 hO3
            go_wp2_with fail
            refine (Ty.err_c b _ 0 _ HC3.out).mono ?_
            rintro e w4 ⟨rfl, rfl⟩
            go_wp2_with fail
            refine (cc _).mono ?_
            rintro e w5 ⟨rfl, g5⟩
            have hO5 : Tx.Own w1.heap.size w5 _ _ := Bt.Buf.kept HO3.out g5
            have HC5 := Lib.hid (HC3.out.below g5 HC3.out.lt)
            have HG5 := Lib.hid (Tx.below_by g5 HG3.out)
            have hs5 := g5.size
            clear cc g5
            go_wp2_with (at_builtin; refine Bt.wpList_append_one 9 74 (.string ⟨#[]⟩) 16 Tryz.underlying74 Tx.infoS rfl (hO5.pre x) (by omega) (by first | omega | (simp only [List.length_nil]; omega)) (by first | omega | (simp only [List.length_nil]; omega)) (.tmp 41) (.tmp 44) _ rfl rfl rfl rfl rfl ?_; intro v6 w6 h6 g6)
            have H6 := Lib.hid (Tx.Own.post (h6 (by rw [← Tx.sv_snoc, HXS.out])))
            have HC6 := Lib.hid (HC5.out.by g6.by_ (Tx.buf_ne hO5 hbw))
            have HG6 := Lib.hid (Tx.grew_by g6 HG5.out (Bt.Buf.base_le hO5))
            clear h6 g6 hO5
            go_roundw
            case rel => exact ⟨_, _, by simp, HN.out, HRL.out, H6.out, HC6.out, HG6.out, HX64.out⟩
            case measure => simp [intOf]; omega
          · rcases hform with ⟨rfl, hM0⟩ | ⟨g, c, rfl, hcap, hgl, hcl⟩
            · subst hM0
              go_wp2_with fail
              refine cu.mono ?_
              rintro e w3 ⟨rfl, hc3, hg3⟩
              have HC3 := Lib.hid hc3
              have hO3 := HO.out.by hg3 hbw
              have HO3 := Lib.hid hO3
              have HG3 := Lib.hid (Ty.by_trans HGR.out hg3)
              have hs3 := hg3.size
              have HN := Lib.hid (HNX.out (fun _ q hq => by cases hq))
              clear cu hg3 hc3 hO3
              go_wp2_with fail
              refine (Ty.err_c b _ 0 _ HC3.out).mono ?_
              rintro e w4 ⟨rfl, rfl⟩
              go_wp2_with fail
              refine (cc _).mono ?_
              rintro e w5 ⟨rfl, g5⟩
              have hO5 : Tx.Own w1.heap.size w5 _ _ := Bt.Buf.kept HO3.out g5
              have HC5 := Lib.hid (HC3.out.below g5 HC3.out.lt)
              have HG5 := Lib.hid (Tx.below_by g5 HG3.out)
              have hs5 := g5.size
              clear cc g5
              go_wp2_with (at_builtin; refine Bt.wpList_append_one 9 74 (.string ⟨#[]⟩) 16 Tryz.underlying74 Tx.infoS rfl (hO5.pre x) (by omega) (by first | omega | (simp only [List.length_nil]; omega)) (by first | omega | (simp only [List.length_nil]; omega)) (.tmp 41) (.tmp 44) _ rfl rfl rfl rfl rfl ?_; intro v6 w6 h6 g6)
              have H6 := Lib.hid (Tx.Own.post (h6 (by rw [← Tx.sv_snoc, HXS.out])))
              have HC6 := Lib.hid (HC5.out.by g6.by_ (Tx.buf_ne hO5 hbw))
              have HG6 := Lib.hid (Tx.grew_by g6 HG5.out (Bt.Buf.base_le hO5))
              clear h6 g6 hO5
              go_roundw
              case rel => exact ⟨_, _, by simp, HN.out, HRL.out, H6.out, HC6.out, HG6.out, HX64.out⟩
              case measure => simp [intOf]; omega
            · by_cases hM1 : 0 < M.length
              · have hlast := Tx.last_at hM1
                have hc1 := hcl (M.length - 1) (by omega)
                unfold Tx.sv at hc1
                obtain ⟨q, hq⟩ : ∃ q, q = M.getD (M.length - 1) [] := ⟨_, rfl⟩
                rw [← hq] at hlast hc1
                have HLQ := Lib.hid hlast
                have hlq := HLT.out q
                have htn : ((M.length : Int) - 1).toNat = M.length - 1 := by omega
                have hs1 : (0 : Int) ≤ (M.length : Int) - 1 := by omega
                have hs2 : (M.length : Int) - 1 < (M.length : Int) := by omega
                have hjz : (0 : Int) < (M.length : Int) := by omega
                have hcB : ∀ w3, wr.grownBy w3 (some b) → w3.cell? ⟨g, M.length - 1, none⟩ = some (.string (Ty.S q)) := fun w3 hg3 => by
                  rcases (HO.out.by hg3 hbw).form with ⟨e, _⟩ | ⟨g', c', e, _, _, hc'⟩
                  · cases e
                  · simp only [Value.slice.injEq, Option.some.injEq, Addr.mk.injEq, and_true, true_and] at e
                    obtain ⟨rfl, rfl⟩ := e
                    rw [hc' (M.length - 1) (by omega), hq]
                    rfl
                generalize Ty.S q = qs at hc1 hcB hlq
                have HCB := Lib.hid hcB
                clear hq hlast hc1 hcl hcB
                rcases hlq with ⟨hlt, hb1, hb2⟩ | hlq
                · have HLT2 := Lib.hid hlt
                  clear hlt HLT
                  go_wp2_with fail
                  refine cu.mono ?_
                  rintro e w3 ⟨rfl, hc3, hg3⟩
                  have HC3 := Lib.hid hc3
                  have hcc := HCB.out _ hg3
                  have hO3 := HO.out.by hg3 hbw
                  have HO3 := Lib.hid hO3
                  have HG3 := Lib.hid (Ty.by_trans HGR.out hg3)
                  have hs3 := hg3.size
                  have HN := Lib.hid (HNX.out (fun _ q hq => by rw [HLQ.out] at hq; cases hq; exact HLT2.out))
                  clear cu hg3 hc3 hO3
                  go_wp2_with fail
                  refine (Ty.err_c b _ 0 _ HC3.out).mono ?_
                  rintro e w4 ⟨rfl, rfl⟩
                  go_wp2_with fail
                  refine (cc _).mono ?_
                  rintro e w5 ⟨rfl, g5⟩
                  have hO5 : Tx.Own w1.heap.size w5 _ _ := Bt.Buf.kept HO3.out g5
                  have HC5 := Lib.hid (HC3.out.below g5 HC3.out.lt)
                  have HG5 := Lib.hid (Tx.below_by g5 HG3.out)
                  have hs5 := g5.size
                  clear cc g5
                  go_wp2_with (at_builtin; refine Bt.wpList_append_one 9 74 (.string ⟨#[]⟩) 16 Tryz.underlying74 Tx.infoS rfl (hO5.pre x) (by omega) (by first | omega | (simp only [List.length_nil]; omega)) (by first | omega | (simp only [List.length_nil]; omega)) (.tmp 41) (.tmp 44) _ rfl rfl rfl rfl rfl ?_; intro v6 w6 h6 g6)
                  have H6 := Lib.hid (Tx.Own.post (h6 (by rw [← Tx.sv_snoc, HXS.out])))
                  have HC6 := Lib.hid (HC5.out.by g6.by_ (Tx.buf_ne hO5 hbw))
                  have HG6 := Lib.hid (Tx.grew_by g6 HG5.out (Bt.Buf.base_le hO5))
                  clear h6 g6 hO5
                  go_roundw
                  case rel => exact ⟨_, _, by simp, HN.out, HRL.out, H6.out, HC6.out, HG6.out, HX64.out⟩
                  case measure => simp [intOf]; omega
                · obtain ⟨hlt, hbb⟩ : Tx.lt q x = false ∧ (Op.bytesLess xs.toList qs.toList || xs.toList == qs.toList) = true := by
                    rcases hlq with ⟨h1, h2, h3⟩ | ⟨h1, h2, h3⟩
                    · exact ⟨h1, by rw [h2]; rfl⟩
                    · exact ⟨h1, by rw [h2, h3]; rfl⟩
                  have HE := Lib.hid (HBD.out q HLQ.out rfl hlt)
                  clear hlt HLT hlq
                  go_wp2_with fail
                  refine cu.mono ?_
                  rintro e w3 ⟨rfl, hc3, hg3⟩
                  have HC3 := Lib.hid hc3
                  have hcc := HCB.out _ hg3
                  have HG3 := Lib.hid (Ty.by_trans HGR.out hg3)
                  clear cu hg3 hc3
                  go_wp2_with fail
                  refine (Ty.err_c b _ 0 _ HC3.out).mono ?_
                  rintro e w4 ⟨rfl, rfl⟩
                  go_wp2
                  go_ret2
                  exact Tx.Rd.bad (by rw [HE.out]; rfl) (by rw [HE.out]; decide) HG3.out
              · have hM0 : M = [] := List.eq_nil_of_length_eq_zero (by omega)
                subst hM0
                clear hM1
                go_wp2_with fail
                refine cu.mono ?_
                rintro e w3 ⟨rfl, hc3, hg3⟩
                have HC3 := Lib.hid hc3
                have hO3 := HO.out.by hg3 hbw
                have HO3 := Lib.hid hO3
                have HG3 := Lib.hid (Ty.by_trans HGR.out hg3)
                have hs3 := hg3.size
                have HN := Lib.hid (HNX.out (fun _ q hq => by cases hq))
                clear cu hg3 hc3 hO3
                go_wp2_with fail
                refine (Ty.err_c b _ 0 _ HC3.out).mono ?_
                rintro e w4 ⟨rfl, rfl⟩
                go_wp2_with fail
                refine (cc _).mono ?_
                rintro e w5 ⟨rfl, g5⟩
                have hO5 : Tx.Own w1.heap.size w5 _ _ := Bt.Buf.kept HO3.out g5
                have HC5 := Lib.hid (HC3.out.below g5 HC3.out.lt)
                have HG5 := Lib.hid (Tx.below_by g5 HG3.out)
                have hs5 := g5.size
                clear cc g5
                go_wp2_with (at_builtin; refine Bt.wpList_append_one 9 74 (.string ⟨#[]⟩) 16 Tryz.underlying74 Tx.infoS rfl (hO5.pre x) (by omega) (by first | omega | (simp only [List.length_nil]; omega)) (by first | omega | (simp only [List.length_nil]; omega)) (.tmp 41) (.tmp 44) _ rfl rfl rfl rfl rfl ?_; intro v6 w6 h6 g6)
                have H6 := Lib.hid (Tx.Own.post (h6 (by rw [← Tx.sv_snoc, HXS.out])))
                have HC6 := Lib.hid (HC5.out.by g6.by_ (Tx.buf_ne hO5 hbw))
                have HG6 := Lib.hid (Tx.grew_by g6 HG5.out (Bt.Buf.base_le hO5))
                clear h6 g6 hO5
                go_roundw
                case rel => exact ⟨_, _, by simp, HN.out, HRL.out, H6.out, HC6.out, HG6.out, HX64.out⟩
                case measure => simp [intOf]; omega
        · have HE := Lib.hid (HM.out.fail hk he)
          generalize (txt l2 64).2.2 = q at cu he HE
          have hne : ((q : Int) != 0) = true := by rw [bne_iff_ne]; omega
          have HQ := Lib.hid he
          generalize Ty.S (txt l2 64).1 = x at cu
          clear he hT hc hO
          go_wp2_with fail
          refine cu.mono ?_
          rintro e w3 ⟨rfl, hc3, hg3⟩
          have HG3 := Lib.hid (Ty.by_trans HGR.out hg3)
          have HC3 := Lib.hid hc3
          clear cu hg3 hc3
          go_wp2_with fail
          refine (Ty.err_c b _ q _ HC3.out).mono ?_
          rintro e w4 ⟨rfl, rfl⟩
          go_wp2_with fail
          refine (Ty.err_c b _ q _ HC3.out).mono ?_
          rintro e w4 ⟨rfl, rfl⟩
          go_wp2
          go_ret2
          exact Tx.Rd.bad (by rw [HE.out]) (by rw [HE.out]; exact HQ.out) HG3.out
      · have hki : ¬ (M.length : Int) < (n : Int) := by omega
        have HDN := Lib.hid (HM.out.done hk)
        have HC := Lib.hid hc
        clear hc hO hT
        go_wp2
        go_ret2
        exact Tx.Rd.good (by rw [HDN.out]) (by rw [HDN.out]; exact HO.out) (by rw [HDN.out]; exact HC.out) HGR.out
end Go.Proofs.YtcognkgabdaneaaGreatDoor
