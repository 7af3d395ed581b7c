/-
  The document's answers for package texts: words read.
  The mathematics of the walk of pick: one lemma for each way out; the marks of the strings that are used.
  The document's answers for package texts: pick, where it fails ahead of the indices.
-/
import Derived.Test.YtcognkgabdaneaaGreatDoorQB
import Derived.Test.YtcognkgabdaneaaGreatDoorTD
namespace Go.Proofs.YtcognkgabdaneaaGreatDoor
open Go.RowKit
open Ty (encU num txt)
open Tx (restT rdWords)
theorem Tx.RS_err {r : Nat} {s : ByteArray} {w : World} {l : List UInt8} {e : Nat} (h : Ty.RS r s w l e) : w.cell? ⟨r, 2, none⟩ = some (.int .i64 (e : Int)) := by
  obtain ⟨a, _, _, hR⟩ := h
  exact hR.cells.2.2.1
theorem Tx.RS_lt {r : Nat} {s : ByteArray} {w : World} {l : List UInt8} {e : Nat} (h : Ty.RS r s w l e) : r < w.heap.size := by
  obtain ⟨a, _, _, hR⟩ := h
  exact hR.lt
theorem Tx.RS_below {r : Nat} {s : ByteArray} {w w' : World} {l : List UInt8} {e B : Nat} (h : Ty.RS r s w l e) (hb : Below B w w') (hr : r < B) : Ty.RS r s w' l e := by
  obtain ⟨a, h1, h2, hR⟩ := h
  exact ⟨a, h1, h2, hR.below hb hr⟩
theorem Tx.RS_len {r : Nat} {s : ByteArray} {w : World} {l : List UInt8} {e : Nat} (h : Ty.RS r s w l e) : l.length ≤ s.size := by
  obtain ⟨a, h1, h2, hR⟩ := h
  rw [← h2, Ty.len_drop]
  omega
theorem Tx.RS_by {r : Nat} {s : ByteArray} {w w' : World} {v v' : Value} {l : List UInt8} {e : Nat} (h : Ty.RS r s w l e) (g : Ty.Grew w w' v v') (hv : v.ownBlock ≠ some r) : Ty.RS r s w' l e := by
  obtain ⟨a, h1, h2, hR⟩ := h
  refine ⟨a, h1, h2, ?_⟩
  unfold Ty.RC at hR ⊢
  rw [g.by_.block r (lt_of_block hR) (fun e => hv e.symm)]
  exact hR
theorem Tx.tbuf_by {base r : Nat} {w w' : World} {v : Value} {bs : List UInt8} (h : Ty.Buf base w v bs) (hg : w.grownBy w' (some r)) (hb : r < base) : Ty.Buf base w' v bs :=
  World.ownsRow.kept h hg (.inr (fun e => by have := h.base r e; omega))
theorem Tx.tbuf_ne {base r : Nat} {w : World} {v : Value} {bs : List UInt8} (h : Ty.Buf base w v bs) (hb : r < base) : v.ownBlock ≠ some r := fun e => by have := h.base r e; omega
theorem Tx.buf_ne {e : TypeId} {base : Nat} {w : World} {v : Value} {n : Nat} {f : Nat → Value} (h : Bt.Buf e base w v n f) {b : Nat} (hb : b < base) : v.ownBlock ≠ some b := fun e => by have := h.base_le b e; omega
theorem Tx.buf_by {e : TypeId} {base b : Nat} {w w' : World} {v : Value} {n : Nat} {f : Nat → Value} (h : Bt.Buf e base w v n f) (hg : w.grownBy w' (some b)) (hb : b < base) : Bt.Buf e base w' v n f :=
  World.ownsRow.kept h hg (.inr (Tx.buf_ne h hb))
theorem Tx.grew_by {w w' : World} {v v' : Value} (h : Ty.Grew w w' v v') {w0 : World} {b : Nat} (g : w0.grownBy w (some b)) (hv : ∀ k, v.ownBlock = some k → w0.heap.size ≤ k) : w0.grownBy w' (some b) :=
  ⟨h.by_.os.trans g.os, h.by_.tape.trans g.tape, h.by_.output.trans g.output, Nat.le_trans g.size h.by_.size, fun k hk hn => (h.by_.block k (Nat.lt_of_lt_of_le hk g.size) (fun e => by have := hv k e.symm; omega)).trans (g.block k hk hn)⟩
theorem Tx.below_by {w w' w0 : World} (h : Below w.heap.size w w') {b : Nat} (g : w0.grownBy w (some b)) : w0.grownBy w' (some b) :=
  ⟨h.os.trans g.os, h.tape.trans g.tape, h.output.trans g.output, Nat.le_trans g.size h.size, fun k hk hn => (h.block k (Nat.lt_of_lt_of_le hk g.size)).trans (g.block k hk hn)⟩
theorem Tx.Own.by {base b : Nat} {w w' : World} {v : Value} {L : List Tx.Str} (h : Tx.Own base w v L) (hg : w.grownBy w' (some b)) (hb : b < base) : Tx.Own base w' v L := Tx.buf_by h hg hb
theorem Tx.rtext_r (r : Nat) (s : ByteArray) (hs : s.size ≤ 140737488351232) (l : List UInt8) (w : World) (h : Ty.RS r s w l 0) :
    Calls Tryz.prog 106 #[.pointer (some ⟨r, 0, none⟩), .int .i64 64] w (Ty.RLeft r s w (.string (Ty.S (txt l 64).1)) (restT l) (txt l 64).2.2) := by
  have e : Ty.rdT 64 l 0 = ((txt l 64).1, restT l, (txt l 64).2.2) := by unfold Ty.rdT; rw [if_neg (by omega)]; rfl
  have := Ty.rtext_m r s hs l 0 64 (by omega) w h
  rw [e] at this
  exact this
/-- What a reader of the document's leaves. -/
def Tx.RRd (r : Nat) (s : ByteArray) (w : World) (t : Nat × List Tx.Str × List UInt8) (e : Ending) (w' : World) : Prop :=
  ∃ v, e = .returned (.tuple #[v, .int .i64 ((t.1 : Nat) : Int)]) ∧ Tx.Own w.heap.size w' v (if t.1 = 0 then t.2.1 else []) ∧ (t.1 = 0 → Ty.RS r s w' t.2.2 0) ∧ w.grownBy w' (some r)
theorem Tx.RRd.bad {r : Nat} {s : ByteArray} {w w' : World} {t : Nat × List Tx.Str × List UInt8} {z : Int} (hz : z = ((t.1 : Nat) : Int)) (h : t.1 ≠ 0) (g : w.grownBy w' (some r)) : Tx.RRd r s w t (.returned (.tuple #[.slice none 0 0, .int .i64 z])) w' :=
  ⟨_, by rw [hz], by rw [if_neg h]; exact Tx.Own.nil _ _, fun e => absurd e h, g⟩
theorem Tx.RRd.good {r : Nat} {s : ByteArray} {w w' : World} {t : Nat × List Tx.Str × List UInt8} {v : Value} (h : t.1 = 0) (ho : Tx.Own w.heap.size w' v t.2.1) (hc : Ty.RS r s w' t.2.2 0) (g : w.grownBy w' (some r)) : Tx.RRd r s w t (.returned (.tuple #[v, .int .i64 0])) w' :=
  ⟨_, by rw [h]; rfl, by rw [if_pos h]; exact ho, fun _ => hc, g⟩
/-- So far: M is read. -/
def Tx.MidW (ord : Bool) (n : Nat) (l : List UInt8) (M : List Tx.Str) (l2 : List UInt8) : Prop := M.length ≤ n ∧ rdWords ord n none l = ((rdWords ord (n - M.length) M.getLast? l2).1, M ++ (rdWords ord (n - M.length) M.getLast? l2).2.1, (rdWords ord (n - M.length) M.getLast? l2).2.2)
theorem Tx.MidW.start (ord : Bool) (n : Nat) (l : List UInt8) : Tx.MidW ord n l [] l := ⟨by simp, by simp⟩
theorem Tx.MidW.fail {ord : Bool} {n : Nat} {l : List UInt8} {M : List Tx.Str} {l2 : List UInt8} (h : Tx.MidW ord n l M l2) (hk : M.length < n) (h0 : (txt l2 64).2.2 ≠ 0) : (rdWords ord n none l).1 = (txt l2 64).2.2 := by
  obtain ⟨h1, h2⟩ := h
  have e : n - M.length = (n - (M.length + 1)) + 1 := by omega
  rw [h2, e]
  simp only [rdWords]
  rw [if_pos h0]
theorem Tx.MidW.bad {n : Nat} {l : List UInt8} {M : List Tx.Str} {l2 : List UInt8} (h : Tx.MidW true n l M l2) (hk : M.length < n) (h0 : (txt l2 64).2.2 = 0) {q : Tx.Str} (hq : M.getLast? = some q) (hl : Tx.lt q (txt l2 64).1 = false) : (rdWords true n none l).1 = 4 := by
  obtain ⟨h1, h2⟩ := h
  have e : n - M.length = (n - (M.length + 1)) + 1 := by omega
  rw [h2, e]
  simp only [rdWords]
  rw [if_neg (by rw [h0]; simp), if_pos (by rw [hq]; simp [hl])]
theorem Tx.MidW.next {ord : Bool} {n : Nat} {l : List UInt8} {M : List Tx.Str} {l2 : List UInt8} (h : Tx.MidW ord n l M l2) (hk : M.length < n) (h0 : (txt l2 64).2.2 = 0) (hl : ord = true → ∀ q, M.getLast? = some q → Tx.lt q (txt l2 64).1 = true) : Tx.MidW ord n l (M ++ [(txt l2 64).1]) (restT l2) := by
  obtain ⟨h1, h2⟩ := h
  refine ⟨by simp; omega, ?_⟩
  have e : n - M.length = (n - (M.length + 1)) + 1 := by omega
  have hno : ¬ (ord = true ∧ (M.getLast?.any fun q => !Tx.lt q (txt l2 64).1) = true) := by
    rintro ⟨a, b⟩
    cases hm : M.getLast? with
    | none => rw [hm] at b; cases b
    | some q =>
      rw [hm] at b
      have := hl a q hm
      simp [this] at b
  rw [h2, e]
  simp only [rdWords]
  rw [if_neg (by rw [h0]; simp), if_neg hno]
  simp
theorem Tx.MidW.done {ord : Bool} {n : Nat} {l : List UInt8} {M : List Tx.Str} {l2 : List UInt8} (h : Tx.MidW ord n l M l2) (hk : ¬ M.length < n) : rdWords ord n none l = (0, M, l2) := by
  obtain ⟨h1, h2⟩ := h
  have e : n - M.length = 0 := by omega
  rw [h2, e]
  simp [rdWords]
theorem Tx.last_at {M : List Tx.Str} (h : 0 < M.length) : M.getLast? = some (M.getD (M.length - 1) []) := by
  rw [List.getLast?_eq_getElem?, List.getD, List.getElem?_eq_getElem (by omega)]
  rfl
set_option maxHeartbeats 2000000 in
set_option maxRecDepth 100000 in
theorem Tx.rwords_c (r : Nat) (s : ByteArray) (hs : s.size ≤ 140737488351232) (l : List UInt8) (n : Nat) (ord : Bool) (w : World) (h : Ty.RS r s w l 0) (hn : n ≤ 65536) :
    Calls Tryz.prog 79 #[.pointer (some ⟨r, 0, none⟩), .int .u64 n, .bool ord] w (Tx.RRd r s w (rdWords ord n none l)) := by
  have hrw := Tx.RS_lt h
  go_enter Tryz.func79, Tryz.ntmps79
  go_wp2
  go_loopw [8, 9] (fun lv i wr => ∃ M l2, i = .int .u64 ((M.length : Nat) : Int) ∧ Tx.MidW ord n l M l2 ∧ Tx.Own w.heap.size wr lv M ∧ Ty.RS r s wr l2 0 ∧ w.grownBy wr (some r) ∧ ∀ t ∈ M, t.length ≤ 64) (fun _ i _ => n - (intOf i).toNat)
  case atStart => exact ⟨[], l, rfl, Tx.MidW.start ord n l, Tx.Own.nil _ _, h, Ty.by_refl _ _, fun t ht => by cases ht⟩
  case round =>
    obtain ⟨M, l2, rfl, hM, hO, hc, hg, h64⟩ := hrel
    have HM64 := Lib.hid h64
    clear h64
    have hMn := hM.1
    have HM := Lib.hid hM
    have HO := Lib.hid hO
    have HGR := Lib.hid hg
    have hws := hg.size
    clear hM hg h
    have hj0 : (0 : Int) ≤ (M.length : Int) := by omega
    by_cases hk : M.length < n
    · have hki : (M.length : Int) < (n : Int) := by omega
      have cu := Tx.rtext_r r s hs l2 wr hc
      clear hc
      by_cases he : (txt l2 64).2.2 = 0
      · rw [he] at cu
        obtain ⟨x, hx⟩ : ∃ x, x = (txt l2 64).1 := ⟨_, rfl⟩
        have hform := hO.form
        have HNX : Hid ((ord = true → ∀ q, M.getLast? = some q → Tx.lt q x = true) → Tx.MidW ord n l (M ++ [x]) (restT l2)) := Lib.hid (by rw [hx]; exact HM.out.next hk he)
        have HBD : Hid (∀ q, M.getLast? = some q → ord = true → Tx.lt q x = false → (rdWords ord n none l).1 = 4) := Lib.hid (by
          intro q hq ho hl
          subst ho
          rw [hx] at hl
          exact HM.out.bad hk he hq hl)
        have HXL : Hid (x.length ≤ 64) := Lib.hid (by rw [hx]; exact (Tx.splitT he).2)
        have HX64 : Hid (∀ t ∈ M ++ [x], t.length ≤ 64) := Lib.hid fun t ht => by
          rcases List.mem_append.1 ht with h | h
          · exact HM64.out t h
          · rw [List.mem_singleton.1 h]; exact HXL.out
        rw [← hx] at cu
        generalize restT l2 = l3 at cu HNX
        clear he hx hO
        have HXS : Hid (∀ xs, xs = Ty.S x → Value.string xs = .string (Ty.S x)) := Lib.hid fun xs e => by rw [e]
        obtain ⟨xs, hxs⟩ : ∃ xs, xs = Ty.S x := ⟨_, rfl⟩
        rw [← hxs] at cu
        clear HXS
        have HXS := Lib.hid hxs
        clear hxs
        cases ord
        · clear hform
          go_wp2_with fail
          refine cu.mono ?_
          rintro e w3 ⟨rfl, hc3, hg3⟩
          have he3 := Tx.RS_err hc3
          simp only [Int.natCast_zero] at he3
          have HR3 := Lib.hid hc3
          have hO3 := HO.out.by hg3 hrw
          have HG3 := Lib.hid (Ty.by_trans HGR.out hg3)
          have hs3 := hg3.size
          have HN := Lib.hid (HNX.out (fun e => by cases e))
          clear cu hg3 hc3
          go_wp2_with (at_builtin; refine Bt.wpList_append_one 9 74 (.string ⟨#[]⟩) 16 Tryz.underlying74 Tx.infoS rfl (hO3.pre x) (by omega) (by omega) (by omega) (.tmp 42) (.tmp 44) _ rfl rfl rfl rfl rfl ?_; intro v5 w5 h5 g5)
          have H5 := Lib.hid (Tx.Own.post (h5 (by rw [← Tx.sv_snoc, HXS.out])))
          have HR5 := Lib.hid (Tx.RS_by HR3.out g5 (Tx.buf_ne hO3 hrw))
          have HG5 := Lib.hid (Tx.grew_by g5 HG3.out (Bt.Buf.base_le hO3))
          clear h5 g5 hO3
          go_roundw
          case rel => exact ⟨_, _, by simp, HN.out, H5.out, HR5.out, HG5.out, HX64.out⟩
          case measure => simp [intOf]; omega
        · rcases hform with ⟨rfl, hM0⟩ | ⟨g, c, rfl, hcap, hgl, hcl⟩
          · subst hM0
            go_wp2_with fail
            refine cu.mono ?_
            rintro e w3 ⟨rfl, hc3, hg3⟩
            have he3 := Tx.RS_err hc3
            simp only [Int.natCast_zero] at he3
            have HR3 := Lib.hid hc3
            have hO3 := HO.out.by hg3 hrw
            have HG3 := Lib.hid (Ty.by_trans HGR.out hg3)
            have hs3 := hg3.size
            have HN := Lib.hid (HNX.out (fun _ q hq => by cases hq))
            clear cu hg3 hc3
            go_wp2_with (at_builtin; refine Bt.wpList_append_one 9 74 (.string ⟨#[]⟩) 16 Tryz.underlying74 Tx.infoS rfl (hO3.pre x) (by omega) (by omega) (by omega) (.tmp 42) (.tmp 44) _ rfl rfl rfl rfl rfl ?_; intro v5 w5 h5 g5)
            have H5 := Lib.hid (Tx.Own.post (h5 (by rw [← Tx.sv_snoc, HXS.out])))
            have HR5 := Lib.hid (Tx.RS_by HR3.out g5 (Tx.buf_ne hO3 hrw))
            have HG5 := Lib.hid (Tx.grew_by g5 HG3.out (Bt.Buf.base_le hO3))
            clear h5 g5 hO3
            go_roundw
            case rel => exact ⟨_, _, by simp, HN.out, H5.out, HR5.out, HG5.out, HX64.out⟩
            case measure => simp [intOf]; omega
          · by_cases hM1 : 0 < M.length
            · have hlast := Tx.last_at hM1
              have hc1 := hcl (M.length - 1) (by omega)
              unfold Tx.sv at hc1
              have hD64 := HM64.out (M.getD (M.length - 1) []) (List.mem_of_getLast? hlast)
              obtain ⟨q, hq⟩ : ∃ q, q = M.getD (M.length - 1) [] := ⟨_, rfl⟩
              rw [← hq] at hlast hc1 hD64
              have HLQ := Lib.hid hlast
              have hsub : IntKind.u64.wrap ((M.length : Int) - 1) = (M.length : Int) - 1 := by rw [IntKind.wrap_u64]; omega
              have htn : ((M.length : Int) - 1).toNat = M.length - 1 := by omega
              have hs1 : (0 : Int) ≤ (M.length : Int) - 1 := by omega
              have hs2 : (M.length : Int) - 1 < (M.length : Int) := by omega
              have hjz : (0 : Int) < (M.length : Int) := by omega
              have hjo : (1 : Int) ≤ (M.length : Int) := by omega
              have hcB : ∀ w3, wr.grownBy w3 (some r) → w3.cell? ⟨g, M.length - 1, none⟩ = some (.string (Ty.S q)) := fun w3 hg3 => by
                rcases (HO.out.by hg3 hrw).form with ⟨e, _⟩ | ⟨g', c', e, _, _, hc'⟩
                · cases e
                · simp only [Value.slice.injEq, Option.some.injEq, Addr.mk.injEq, and_true, true_and] at e
                  obtain ⟨rfl, rfl⟩ := e
                  rw [hc' (M.length - 1) (by omega), hq]
                  rfl
              have ca : ∀ wz, Calls Tryz.prog 107 #[.string (Ty.S q), .string xs] wz fun e w' => e = .returned (.bool (Tx.lt q x)) ∧ Below wz.heap.size wz w' := fun wz => by
                rw [HXS.out]
                exact Tx.rahead_c q x (by omega) (by have := HXL.out; omega) wz
              generalize Ty.S q = qs at hc1 hcB ca
              have HCB := Lib.hid hcB
              clear hq hlast hc1 hcl hcB
              cases hlt : Tx.lt q x
              · have HE := Lib.hid (HBD.out q HLQ.out rfl hlt)
                rw [hlt] at ca
                clear hlt
                go_wp2_with fail
                refine cu.mono ?_
                rintro e w3 ⟨rfl, hc3, hg3⟩
                have he3 := Tx.RS_err hc3
                simp only [Int.natCast_zero] at he3
                have hcc := HCB.out _ hg3
                have HG3 := Lib.hid (Ty.by_trans HGR.out hg3)
                clear cu hg3 hc3
                go_wp2_with fail
                refine (ca _).mono ?_
                rintro e w4 ⟨rfl, g4⟩
                have HG4 := Lib.hid (Tx.below_by g4 HG3.out)
                clear ca g4
                go_wp2
                go_ret2
                exact Tx.RRd.bad (by rw [HE.out]; rfl) (by rw [HE.out]; decide) HG4.out
              · have HLT := Lib.hid hlt
                rw [hlt] at ca
                clear hlt
                go_wp2_with fail
                refine cu.mono ?_
                rintro e w3 ⟨rfl, hc3, hg3⟩
                have he3 := Tx.RS_err hc3
                simp only [Int.natCast_zero] at he3
                have hcc := HCB.out _ hg3
                go_wp2_with fail
                refine (ca _).mono ?_
                rintro e w4 ⟨rfl, g4⟩
                clear ca
                have HR3 := Lib.hid (Tx.RS_below hc3 g4 (Tx.RS_lt hc3))
                have hO3 : Tx.Own w.heap.size w4 _ M := Bt.Buf.kept (HO.out.by hg3 hrw) g4
                have HG3 := Lib.hid (Tx.below_by g4 (Ty.by_trans HGR.out hg3))
                have hs3 := Nat.le_trans hg3.size g4.size
                have HN := Lib.hid (HNX.out (fun _ q hq => by rw [HLQ.out] at hq; cases hq; exact HLT.out))
                clear cu hg3 hc3 g4
                go_wp2_with (at_builtin; refine Bt.wpList_append_one 9 74 (.string ⟨#[]⟩) 16 Tryz.underlying74 Tx.infoS rfl (hO3.pre x) (by omega) (by omega) (by omega) (.tmp 42) (.tmp 44) _ rfl rfl rfl rfl rfl ?_; intro v5 w5 h5 g5)
                have H5 := Lib.hid (Tx.Own.post (h5 (by rw [← Tx.sv_snoc, HXS.out])))
                have HR5 := Lib.hid (Tx.RS_by HR3.out g5 (Tx.buf_ne hO3 hrw))
                have HG5 := Lib.hid (Tx.grew_by g5 HG3.out (Bt.Buf.base_le hO3))
                clear h5 g5 hO3
                go_roundw
                case rel => exact ⟨_, _, by simp, HN.out, H5.out, HR5.out, HG5.out, HX64.out⟩
                case measure => simp [intOf]; omega
            · have hM0 : M = [] := List.eq_nil_of_length_eq_zero (by omega)
              subst hM0
              clear hM1
              go_wp2_with fail
              refine cu.mono ?_
              rintro e w3 ⟨rfl, hc3, hg3⟩
              have he3 := Tx.RS_err hc3
              simp only [Int.natCast_zero] at he3
              have HR3 := Lib.hid hc3
              have hO3 := HO.out.by hg3 hrw
              have HG3 := Lib.hid (Ty.by_trans HGR.out hg3)
              have hs3 := hg3.size
              have HN := Lib.hid (HNX.out (fun _ q hq => by cases hq))
              clear cu hg3 hc3
              go_wp2_with (at_builtin; refine Bt.wpList_append_one 9 74 (.string ⟨#[]⟩) 16 Tryz.underlying74 Tx.infoS rfl (hO3.pre x) (by omega) (by omega) (by omega) (.tmp 42) (.tmp 44) _ rfl rfl rfl rfl rfl ?_; intro v5 w5 h5 g5)
              have H5 := Lib.hid (Tx.Own.post (h5 (by rw [← Tx.sv_snoc, HXS.out])))
              have HR5 := Lib.hid (Tx.RS_by HR3.out g5 (Tx.buf_ne hO3 hrw))
              have HG5 := Lib.hid (Tx.grew_by g5 HG3.out (Bt.Buf.base_le hO3))
              clear h5 g5 hO3
              go_roundw
              case rel => exact ⟨_, _, by simp, HN.out, H5.out, HR5.out, HG5.out, HX64.out⟩
              case measure => simp [intOf]; omega
      · have HE := Lib.hid (HM.out.fail hk he)
        generalize (txt l2 64).2.2 = q at cu he HE
        have HQ := Lib.hid he
        have hne : ((q : Int) != 0) = true := by rw [bne_iff_ne]; omega
        generalize Ty.S (txt l2 64).1 = x at cu
        clear he hO
        go_wp2_with fail
        refine cu.mono ?_
        rintro e w3 ⟨rfl, hc3, hg3⟩
        have he3 := Tx.RS_err hc3
        have HG3 := Lib.hid (Ty.by_trans HGR.out hg3)
        clear cu hg3 hc3
        go_wp2_with fail
        go_quiet (fail)
        go_wp2
        go_ret2
        exact Tx.RRd.bad (by rw [HE.out]) (by rw [HE.out]; exact HQ.out) (Tx.below_by (Bt.drewN_below _ _) HG3.out)
    · have hki : ¬ (M.length : Int) < (n : Int) := by omega
      have HDN := Lib.hid (HM.out.done hk)
      have HC := Lib.hid hc
      clear hc hO
      go_wp2
      go_ret2
      exact Tx.RRd.good (by rw [HDN.out]) (by rw [HDN.out]; exact HO.out) (by rw [HDN.out]; exact HC.out) HGR.out
end Go.Proofs.YtcognkgabdaneaaGreatDoor

namespace Go.Proofs.YtcognkgabdaneaaGreatDoor
open Go.RowKit
open Ty (encU num txt)
open Tx (restT rdWords rdPick outs)
open Ig (un)
theorem Tx.rdPk1 {n : Nat} {d : List Tx.Str} : rdPick n d [] = (2, [], []) := rfl
theorem Tx.rdPk2 {n : Nat} {d : List Tx.Str} {b : UInt8} {r : List UInt8} (h : 64 < b.toNat) : (rdPick n d (b :: r)).1 = 4 := by
  unfold rdPick
  simp only
  rw [if_pos h]
theorem Tx.rdPk3 {n : Nat} {d : List Tx.Str} {b : UInt8} {r : List UInt8} (h : ¬ 64 < b.toNat) (h2 : r.length < Bt.need (n * b.toNat)) : (rdPick n d (b :: r)).1 = 2 := by
  unfold rdPick
  simp only
  rw [if_neg h, if_pos h2]
theorem Tx.rdPk4 {n : Nat} {d : List Tx.Str} {b : UInt8} {r : List UInt8} (h : ¬ 64 < b.toNat) (h2 : ¬ r.length < Bt.need (n * b.toNat)) (h3 : Bt.chk (Ty.S (r.take (Bt.need (n * b.toNat)))) (n * b.toNat) ≠ 0) : (rdPick n d (b :: r)).1 = Bt.chk (Ty.S (r.take (Bt.need (n * b.toNat)))) (n * b.toNat) := by
  have h3' : Bt.chk ⟨(r.take (Bt.need (n * b.toNat))).toArray⟩ (n * b.toNat) ≠ 0 := h3
  unfold rdPick
  simp only
  rw [if_neg h, if_neg h2, if_pos h3']
  rfl
theorem Tx.rdPk5 {n : Nat} {d : List Tx.Str} {b : UInt8} {r : List UInt8} (h : ¬ 64 < b.toNat) (h2 : ¬ r.length < Bt.need (n * b.toNat)) (h3 : Bt.chk (Ty.S (r.take (Bt.need (n * b.toNat)))) (n * b.toNat) = 0) (h4 : ¬ Tx.right n b.toNat d (un (Ty.S (r.take (Bt.need (n * b.toNat)))) b.toNat) = true) : (rdPick n d (b :: r)).1 = 4 := by
  have h3' : ¬ Bt.chk ⟨(r.take (Bt.need (n * b.toNat))).toArray⟩ (n * b.toNat) ≠ 0 := fun e => e h3
  have h4' : ¬ Tx.right n b.toNat d (un ⟨(r.take (Bt.need (n * b.toNat))).toArray⟩ b.toNat) = true := h4
  unfold rdPick
  simp only
  rw [if_neg h, if_neg h2, if_neg h3', if_neg h4']
theorem Tx.rdPk6 {n : Nat} {d : List Tx.Str} {b : UInt8} {r : List UInt8} (h : ¬ 64 < b.toNat) (h2 : ¬ r.length < Bt.need (n * b.toNat)) (h3 : Bt.chk (Ty.S (r.take (Bt.need (n * b.toNat)))) (n * b.toNat) = 0) (h4 : Tx.right n b.toNat d (un (Ty.S (r.take (Bt.need (n * b.toNat)))) b.toNat) = true) : rdPick n d (b :: r) = (0, outs n d (un (Ty.S (r.take (Bt.need (n * b.toNat)))) b.toNat), r.drop (Bt.need (n * b.toNat))) := by
  have h3' : ¬ Bt.chk ⟨(r.take (Bt.need (n * b.toNat))).toArray⟩ (n * b.toNat) ≠ 0 := fun e => e h3
  have h4' : Tx.right n b.toNat d (un ⟨(r.take (Bt.need (n * b.toNat))).toArray⟩ b.toNat) = true := h4
  unfold rdPick
  simp only
  rw [if_neg h, if_neg h2, if_neg h3', if_pos h4']
  rfl
/-- Is string j used by one of the first k indices? -/
def Tx.mark (X : Nat → Nat) (k j : Nat) : Bool := (List.range k).any fun i => X i == j
theorem Tx.mark_zero (X : Nat → Nat) (j : Nat) : Tx.mark X 0 j = false := rfl
theorem Tx.mark_next (X : Nat → Nat) (k j : Nat) : Tx.mark X (k + 1) j = (Tx.mark X k j || X k == j) := by
  unfold Tx.mark
  rw [List.range_succ, List.any_append]
  simp
theorem Tx.mark_self (X : Nat → Nat) (k : Nat) : Tx.mark X (k + 1) (X k) = true := by rw [Tx.mark_next]; simp
theorem Tx.mark_other (X : Nat → Nat) (k j : Nat) (h : X k ≠ j) : Tx.mark X (k + 1) j = Tx.mark X k j := by
  rw [Tx.mark_next]
  simp [h]
theorem Tx.right_iff {n w : Nat} {d : List Tx.Str} {X : Nat → Nat} : Tx.right n w d X = true ↔ (∀ i, i < n → X i < d.length) ∧ (∀ j, j < d.length → Tx.mark X n j = true) ∧ Bt.wid n X = w := by
  unfold Tx.right Tx.mark
  simp only [Bool.and_eq_true, List.all_eq_true, List.mem_range, decide_eq_true_iff, beq_iff_eq]
/-- The elements so far. -/
theorem Tx.outs_next (n : Nat) (d : List Tx.Str) (X : Nat → Nat) : outs (n + 1) d X = outs n d X ++ [d.getD (X n) []] := by
  unfold outs
  rw [List.range_succ, List.map_append]
  rfl
theorem Tx.outs_len (n : Nat) (d : List Tx.Str) (X : Nat → Nat) : (outs n d X).length = n := by simp [outs]
end Go.Proofs.YtcognkgabdaneaaGreatDoor

namespace Go.Proofs.YtcognkgabdaneaaGreatDoor
open Go.RowKit
open Ty (encU num txt)
open Tx (rdPick)
theorem Tx.by_then {w0 w : World} {b : Nat} (g : w0.grownBy w (some b)) (n : Nat) : w0.grownBy (w.drewN n) (some b) := Tx.below_by (Bt.drewN_below w n) g
theorem Tx.rbyte_x (r : Nat) (s : ByteArray) (hs : s.size ≤ 140737488351232) (x : UInt8) (t : List UInt8) (w : World) (h : Ty.RS r s w (x :: t) 0) :
    Calls Tryz.prog 74 #[.pointer (some ⟨r, 0, none⟩)] w (Ty.RLeft r s w (.int .i64 ((x.toNat : Nat) : Int)) t 0) := Ty.rbyte_m r s hs (x :: t) 0 w h
theorem Tx.need_is {n q m : Nat} (h : n * q = m) : ((m : Int) + 7) / 8 = ((Bt.need (n * q) : Nat) : Int) := by
  rw [h]
  unfold Bt.need
  omega
set_option maxHeartbeats 1000000 in
theorem Tx.rpick_nil (r : Nat) (s : ByteArray) (hs : s.size ≤ 140737488351232) (n : Nat) (vd : Value) (d : List Tx.Str) (w : World) (h : Ty.RS r s w [] 0) :
    Calls Tryz.prog 80 #[.pointer (some ⟨r, 0, none⟩), .int .i64 n, vd] w (Tx.RRd r s w (rdPick n d [])) := by
  have cb := Ty.rbyte_m r s hs [] 0 w h
  have e1 : Ty.rdB [] 0 = (0, [], 2) := rfl
  rw [e1] at cb
  clear e1 h
  go_enter Tryz.func80, Tryz.ntmps80
  go_wp2_with fail
  refine cb.mono ?_
  rintro e w4 ⟨rfl, hc4, hg4⟩
  have he4 := Tx.RS_err hc4
  simp only [Int.cast_ofNat_Int] at he4
  have HG4 := Lib.hid hg4
  clear cb hc4 hg4
  go_wp2_with fail
  go_quiet (fail)
  go_wp2
  go_ret2
  exact Tx.RRd.bad rfl (by rw [Tx.rdPk1]; decide) (Tx.by_then HG4.out _)
set_option maxHeartbeats 1000000 in
theorem Tx.rpick_wide (r : Nat) (s : ByteArray) (hs : s.size ≤ 140737488351232) (n : Nat) (vd : Value) (d : List Tx.Str) (x : UInt8) (t : List UInt8) (w : World) (h : Ty.RS r s w (x :: t) 0) (h64 : 64 < x.toNat) :
    Calls Tryz.prog 80 #[.pointer (some ⟨r, 0, none⟩), .int .i64 n, vd] w (Tx.RRd r s w (rdPick n d (x :: t))) := by
  have cb := Tx.rbyte_x r s hs x t w h
  have HB := Lib.hid (Tx.rdPk2 (n := n) (d := d) (r := t) h64)
  have h64i : (64 : Int) < (x.toNat : Int) := by omega
  clear h h64
  go_enter Tryz.func80, Tryz.ntmps80
  go_wp2_with fail
  refine cb.mono ?_
  rintro e w4 ⟨rfl, hc4, hg4⟩
  have he4 := Tx.RS_err hc4
  simp only [Int.natCast_zero] at he4
  have HG4 := Lib.hid hg4
  clear cb hc4 hg4
  go_wp2
  go_ret2
  exact Tx.RRd.bad (by rw [HB.out]; rfl) (by rw [HB.out]; decide) HG4.out
set_option maxHeartbeats 1000000 in
theorem Tx.rpick_short (r : Nat) (s : ByteArray) (hs : s.size ≤ 140737488351232) (n : Nat) (hn : n ≤ 65536) (vd : Value) (d : List Tx.Str) (x : UInt8) (t : List UInt8) (w : World) (h : Ty.RS r s w (x :: t) 0) (h64 : ¬ 64 < x.toNat) (hss : t.length < Bt.need (n * x.toNat)) :
    Calls Tryz.prog 80 #[.pointer (some ⟨r, 0, none⟩), .int .i64 n, vd] w (Tx.RRd r s w (rdPick n d (x :: t))) := by
  have cb := Tx.rbyte_x r s hs x t w h
  have HB := Lib.hid (Tx.rdPk3 (d := d) h64 hss)
  obtain ⟨q, hq⟩ : ∃ q, q = x.toNat := ⟨_, rfl⟩
  rw [← hq] at cb h64 hss
  have hmul := Bt.mul_le n q (by omega)
  obtain ⟨m, hm⟩ : ∃ m, n * q = m := ⟨_, rfl⟩
  have hmi : (n : Int) * (q : Int) = (m : Int) := by rw [← hm]; simp
  have hmm : m ≤ 4194304 := by omega
  have hd := Tx.need_is hm
  obtain ⟨sz, hsz⟩ : ∃ sz, sz = Bt.need (n * q) := ⟨_, rfl⟩
  rw [← hsz] at hd hss
  have hsz2 : sz ≤ 524289 := by rw [hsz, hm]; unfold Bt.need; omega
  have hq64i : ¬ (64 : Int) < (q : Int) := by omega
  have hlt : (t.length : Int) < (sz : Int) := by omega
  have cl := fun wz (hc : Ty.RS r s wz t 0) => Ty.rleft_m r s hs t 0 wz hc
  clear h h64 hss hsz hm hq hmul
  go_enter Tryz.func80, Tryz.ntmps80
  go_wp2_with fail
  refine cb.mono ?_
  rintro e w4 ⟨rfl, hc4, hg4⟩
  have he4 := Tx.RS_err hc4
  simp only [Int.natCast_zero] at he4
  have HG4 := Lib.hid hg4
  have cl4 := cl _ hc4
  clear cb hc4 hg4 cl
  go_wp2_with fail
  refine cl4.mono ?_
  rintro e w5 ⟨rfl, hc5, hg5⟩
  have HG5 := Lib.hid (Ty.by_trans HG4.out hg5)
  clear cl4 hc5 hg5
  go_wp2
  go_ret2
  exact Tx.RRd.bad (by rw [HB.out]; rfl) (by rw [HB.out]; decide) HG5.out
end Go.Proofs.YtcognkgabdaneaaGreatDoor
