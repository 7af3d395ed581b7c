/-
  The document's answers for package texts: pick, Read.
  The document's answers for package column: values that a call owns; values read of bytes.
  The document's answers for package column: Write.
  The document's answers for block: deeds as bytes.
-/
import Derived.Test.YtfbjmehkipcmbaaGreatDoorZAO
import Derived.Test.YtfbjmehkipcmbaaGreatDoorZAM
import Derived.Test.YtfbjmehkipcmbaaGreatDoorZAL
import Derived.Test.YtfbjmehkipcmbaaGreatDoorZAJ
import Derived.Test.YtfbjmehkipcmbaaGreatDoorZAK
namespace Go.Proofs.YtfbjmehkipcmbaaGreatDoor
open Go.RowKit
open Ty (num txt)
open Ig (rest)
open Tx (rdWords rdPick rdBody rd)
def Tx.Got (w : World) (r : Nat × List Tx.Str) (e : Ending) (w' : World) : Prop :=
  ∃ v, e = .returned (.tuple #[v, .int .i64 ((r.1 : Nat) : Int)]) ∧ Tx.At w'.heap.size w' v r.2 ∧ Below w.heap.size w w'
theorem Tx.Got.bad {w w' : World} {r : Nat × List Tx.Str} {z : Int} {q : Nat} (hr : r = (q, [])) (hz : z = (q : Int)) (g : Below w.heap.size w w') : Tx.Got w r (.returned (.tuple #[.slice none 0 0, .int .i64 z])) w' :=
  ⟨_, by rw [hr, hz], by rw [hr]; exact Tx.At.nil _, g⟩
theorem Tx.Got.good {w w' : World} {r : Nat × List Tx.Str} {v : Value} {L : List Tx.Str} (hr : r = (0, L)) (h : Tx.At w'.heap.size w' v L) (g : Below w.heap.size w w') : Tx.Got w r (.returned (.tuple #[v, .int .i64 0])) w' :=
  ⟨v, by rw [hr]; rfl, by rw [hr]; exact h, g⟩
section
variable {x : UInt8} {r : List UInt8}
theorem Tx.rd1 (h : 1 < x.toNat) : rd (x :: r) = (4, []) := by unfold rd; simp only; rw [if_pos h]
theorem Tx.rd2 (h : ¬ 1 < x.toNat) (h2 : (num r).2.2 ≠ 0) : rd (x :: r) = ((num r).2.2, []) := by unfold rd; simp only; rw [if_neg h, if_pos h2]
theorem Tx.rd3 (h : ¬ 1 < x.toNat) (h2 : (num r).2.2 = 0) (h3 : 65536 < (num r).1) : rd (x :: r) = (3, []) := by unfold rd; simp only; rw [if_neg h, if_neg (by rw [h2]; simp), if_pos h3]
theorem Tx.rd4 (h : ¬ 1 < x.toNat) (h2 : (num r).2.2 = 0) (h3 : ¬ 65536 < (num r).1) (h4 : (rdBody x.toNat (num r).1 (rest r)).1 ≠ 0) : rd (x :: r) = ((rdBody x.toNat (num r).1 (rest r)).1, []) := by
  unfold rd; simp only; rw [if_neg h, if_neg (by rw [h2]; simp), if_neg h3, if_pos h4]
theorem Tx.rd5 (h : ¬ 1 < x.toNat) (h2 : (num r).2.2 = 0) (h3 : ¬ 65536 < (num r).1) (h4 : (rdBody x.toNat (num r).1 (rest r)).1 = 0) (h5 : (rdBody x.toNat (num r).1 (rest r)).2.2 ≠ []) : rd (x :: r) = (5, []) := by
  unfold rd; simp only; rw [if_neg h, if_neg (by rw [h2]; simp), if_neg h3, if_neg (by rw [h4]; simp), if_pos h5]
theorem Tx.rd6 (h : ¬ 1 < x.toNat) (h2 : (num r).2.2 = 0) (h3 : ¬ 65536 < (num r).1) (h4 : (rdBody x.toNat (num r).1 (rest r)).1 = 0) (h5 : (rdBody x.toNat (num r).1 (rest r)).2.2 = []) : rd (x :: r) = (0, (rdBody x.toNat (num r).1 (rest r)).2.1) := by
  unfold rd; simp only; rw [if_neg h, if_neg (by rw [h2]; simp), if_neg h3, if_neg (by rw [h4]; simp), if_neg (by rw [h5]; simp)]
end
section
variable {n : Nat} {l : List UInt8}
theorem Tx.rdBody0 : rdBody 0 n l = rdWords false n none l := rfl
theorem Tx.rdB1 (h : (num l).2.2 ≠ 0) : (rdBody 1 n l).1 = (num l).2.2 := by unfold rdBody; rw [if_neg (by decide), if_pos h]
theorem Tx.rdB2 (h : (num l).2.2 = 0) (h2 : 65536 < (num l).1) : (rdBody 1 n l).1 = 3 := by unfold rdBody; rw [if_neg (by decide), if_neg (by rw [h]; simp), if_pos h2]
theorem Tx.rdB3 (h : (num l).2.2 = 0) (h2 : ¬ 65536 < (num l).1) (h3 : (rdWords true (num l).1 none (rest l)).1 ≠ 0) : (rdBody 1 n l).1 = (rdWords true (num l).1 none (rest l)).1 := by unfold rdBody; rw [if_neg (by decide), if_neg (by rw [h]; simp), if_neg h2, if_pos h3]
theorem Tx.rdB4 (h : (num l).2.2 = 0) (h2 : ¬ 65536 < (num l).1) (h3 : (rdWords true (num l).1 none (rest l)).1 = 0) : rdBody 1 n l = rdPick n (rdWords true (num l).1 none (rest l)).2.1 (rdWords true (num l).1 none (rest l)).2.2 := by unfold rdBody; rw [if_neg (by decide), if_neg (by rw [h]; simp), if_neg h2, if_neg (by rw [h3]; simp)]
end
end Go.Proofs.YtfbjmehkipcmbaaGreatDoor

namespace Go.Proofs.YtfbjmehkipcmbaaGreatDoor
open Go.RowKit
theorem Cl.ird_bad {l : List UInt8} (h : (Ig.rd l).1 ≠ 0) : (Ig.rd l).2 = [] := by
  unfold Ig.rd at h ⊢
  cases l with
  | nil => rfl
  | cons b r =>
    simp only at h ⊢
    split
    · rfl
    · split
      · rfl
      · split
        · rfl
        · split
          · rfl
          · split
            · rfl
            · rename_i a1 a2 a3 a4 a5
              rw [if_neg a1, if_neg a2, if_neg a3, if_neg a4, if_neg a5] at h
              exact absurd rfl h
theorem Cl.trd_bad {l : List UInt8} (h : (Tx.rd l).1 ≠ 0) : (Tx.rd l).2 = [] := by
  unfold Tx.rd at h ⊢
  cases l with
  | nil => rfl
  | cons b r =>
    simp only at h ⊢
    split
    · rfl
    · split
      · rfl
      · split
        · rfl
        · split
          · rfl
          · split
            · rfl
            · rename_i a1 a2 a3 a4 a5
              rw [if_neg a1, if_neg a2, if_neg a3, if_neg a4, if_neg a5] at h
              exact absurd rfl h
theorem Cl.ird_len (l : List UInt8) : (Ig.rd l).2.length ≤ 65536 := by
  by_cases h : (Ig.rd l).1 = 0
  · obtain ⟨b, r, _, _, _, h, _⟩ := Ig.enc_rd l h
    exact h
  · rw [Cl.ird_bad h]; simp
theorem Cl.trd_len (l : List UInt8) : (Tx.rd l).2.length ≤ 65536 := by
  by_cases h : (Tx.rd l).1 = 0
  · obtain ⟨b, r, _, _, _, h, _⟩ := Tx.enc_rd l h
    exact h
  · rw [Cl.trd_bad h]; simp
theorem Cl.back_len (c : Kn.C) (l : List UInt8) : (Cl.back c l).2.length ≤ 65536 := by
  unfold Cl.back
  split
  · rw [List.length_map]; exact Cl.ird_len l
  · rw [List.length_map]; exact Cl.trd_len l
end Go.Proofs.YtfbjmehkipcmbaaGreatDoor

namespace Go.Proofs.YtfbjmehkipcmbaaGreatDoor
open Go.RowKit
theorem Cl.vals_len {c : Kn.C} {l : List Kn.V} (h : l.all (Cl.is c) = true) (hl : l.length ≤ 65536) : (Cl.vals c l).length ≤ 4800000 := by
  unfold Cl.vals
  by_cases hk : c.k = 1
  · rw [if_pos hk]
    have h1 := Ig.bk_least (Cl.nums l) 3 0 (by omega)
    have h2 := Ig.len_flat (Cl.nums l)
    have h3 := Ty.encU_len9 (Cl.nums l).length
    have h4 := Cl.nums_len l
    have e : (Ig.enc 0 (Cl.nums l)).length = 1 + ((Ty.encU (Cl.nums l).length).length + ((Cl.nums l).flatMap Ig.encI).length) := by
      unfold Ig.enc Ig.body
      rw [if_pos rfl, List.length_cons, List.length_append]
      omega
    omega
  · rw [if_neg hk]
    have hf := Tx.fit_yes (Cl.words_fit hk h hl)
    have h2 := Tx.len_flat (Cl.words l) hf.2
    have h3 := Ty.encU_len9 (Cl.words l).length
    have h4 := hf.1
    have e : (Tx.enc 0 (Cl.words l)).length = 1 + ((Ty.encU (Cl.words l).length).length + ((Cl.words l).flatMap Tx.encT).length) := by
      unfold Tx.enc Tx.body
      rw [if_pos rfl, List.length_cons, List.length_append]
      omega
    unfold Tx.bestK
    split <;> omega
def Cl.wS (c : Kn.C) (l : List Kn.V) : List UInt8 := if Cl.wE c l = 0 then Cl.enc c l else []
def Cl.wV (c : Kn.C) (l : List Kn.V) : Value := .tuple #[.string (Ty.S (Cl.wS c l)), .int .i64 ((Cl.wE c l : Nat) : Int)]
theorem Cl.wV_bad {c : Kn.C} {l : List Kn.V} {q : Nat} (h : Cl.wE c l = q) (hq : q ≠ 0) : Cl.wV c l = .tuple #[.string (Ty.S []), .int .i64 (q : Int)] := by
  unfold Cl.wV Cl.wS
  rw [h, if_neg hq]
theorem Cl.wV_ok {c : Kn.C} {l : List Kn.V} (h : Cl.wE c l = 0) : Cl.wV c l = .tuple #[.string (Ty.S (Cl.enc c l)), .int .i64 0] := by
  unfold Cl.wV Cl.wS
  rw [h, if_pos rfl]
  rfl
theorem Cl.nulls_at {l : List Kn.V} {k : Nat} {x : Kn.V} (h : l[k]? = some x) : Cl.nulls l k = x.null := by
  unfold Cl.nulls
  rw [List.getD, h]
  rfl
theorem Cl.wE_6 {c : Kn.C} {l : List Kn.V} {k : Nat} {x : Kn.V} (hg : c.good = true) (hl : l.length ≤ 65536) (h : l[k]? = some x) (hx : Cl.is c x = false) : Cl.wE c l = 6 := by
  have : l.all (Cl.is c) = false := by
    rw [Bool.eq_false_iff]
    intro ha
    have := List.all_eq_true.1 ha x (List.mem_of_getElem? h)
    rw [hx] at this
    cases this
  unfold Cl.wE
  rw [if_pos hg, if_neg (by omega), this, if_neg (by decide)]
theorem Cl.all_of {c : Kn.C} {l : List Kn.V} (h : ∀ (i : Nat) (x : Kn.V), l[i]? = some x → Cl.is c x = true) : l.all (Cl.is c) = true :=
  List.all_eq_true.2 fun x hx => by
    obtain ⟨i, hi⟩ := List.getElem?_of_mem hx
    exact h i x hi
set_option maxHeartbeats 2000000 in
set_option maxRecDepth 100000 in
theorem Cl.rwrite_c (c : Kn.C) (u : Value) (l : List Kn.V) (w : World) (hu : Kn.Vals w u l) (hi : ∀ v ∈ l, Ty.I64 v.n) :
    Calls Tryz.prog 28 #[c.val, u] w fun e w' => e = .returned (Cl.wV c l) ∧ Below w.heap.size w w' := by
  have hgw := Kn.good_ways c
  have HE4 : Hid (c.good = false → Cl.wE c l = 4) := Lib.hid fun h => by unfold Cl.wE; rw [if_neg (by rw [h]; decide)]
  have HE3 : Hid (c.good = true → 65536 < l.length → Cl.wE c l = 3) := Lib.hid fun h h2 => by unfold Cl.wE; rw [if_pos h, if_pos h2]
  have HE6 : Hid (c.good = true → l.length ≤ 65536 → ∀ (k : Nat) (x : Kn.V), l[k]? = some x → Cl.is c x = false → Cl.wE c l = 6) := Lib.hid fun h h2 k x h3 h4 => Cl.wE_6 h h2 h3 h4
  have HE0 : Hid (c.good = true → l.length ≤ 65536 → l.all (Cl.is c) = true → Cl.wE c l = 0) := Lib.hid fun h h2 h3 => by unfold Cl.wE; rw [if_pos h, if_neg (by omega), if_pos h3]
  have CI := Lib.hid fun (x : Kn.V) wz => Cl.ris_c c x wz
  have CV := Lib.hid fun wz (h : Kn.Vals wz u l) hl ha => Cl.rvalues_c c u l wz h hl ha hi
  have CL := Lib.hid fun (ha : l.all (Cl.is c) = true) (hl : l.length ≤ 65536) => Cl.vals_len ha hl
  obtain ⟨V, hV⟩ : ∃ V, V = Cl.wV c l := ⟨_, rfl⟩
  rw [← hV]
  have HV := Lib.hid hV
  have HU := Lib.hid hu
  clear hV hi hu
  obtain ⟨a, cp, rfl, h⟩ := HU.out.is
  have HH := Lib.hid h
  clear h
  have hsz : (w.alloc (.cells #[.int .i64 c.k, .bool c.null] 40)).heap.size = w.heap.size + 1 := World.size_alloc ..
  have HB0 : Hid (Below w.heap.size w (w.alloc (.cells #[.int .i64 c.k, .bool c.null] 40))) := Lib.hid ((Below.refl _ _).alloc (Nat.le_refl _) _)
  have HX0 := Lib.hid (Kn.cell_new w #[.int .i64 c.k, .bool c.null] 40 0 _ rfl)
  have HX1 := Lib.hid (Kn.cell_new w #[.int .i64 c.k, .bool c.null] 40 1 _ rfl)
  rcases hgw with ⟨hg, k1⟩ | ⟨hg, k1, k2⟩ | ⟨hg, k1, k2⟩
  rotate_left 2
  · have HE := Lib.hid (HV.out.trans (Cl.wV_bad (HE4.out hg) (by decide)))
    unfold Kn.C.val
    go_enter Tryz.func28, Tryz.ntmps28
    go_wp2
    go_ret2
    exact ⟨by rw [HE.out]; rfl, HB0.out⟩
  all_goals
    by_cases hln : 65536 < l.length
    · have HE := Lib.hid (HV.out.trans (Cl.wV_bad (HE3.out hg hln) (by decide)))
      have hlni : (65536 : Int) < (l.length : Int) := by omega
      unfold Kn.C.val
      clear hln
      go_enter Tryz.func28, Tryz.ntmps28
      go_wp2
      go_ret2
      exact ⟨by rw [HE.out]; rfl, HB0.out⟩
    · have hlni : ¬ (65536 : Int) < (l.length : Int) := by omega
      have hl65 : l.length ≤ 65536 := by omega
      have HE6' := Lib.hid (HE6.out hg hl65)
      have HE0' := Lib.hid (HE0.out hg hl65)
      have hwk : IntKind.u64.wrap (l.length : Int) = (l.length : Int) := by rw [IntKind.wrap_u64]; omega
      have HWK := Lib.hid hwk
      unfold Kn.C.val
      clear hln hwk
      go_enter Tryz.func28, Tryz.ntmps28
      go_wp2_with fail
      generalize hwo : w.alloc _ = wo at hsz HX0 HX1 HB0
      clear hwo
      go_wp2_with fail
      go_loopw [6, 7] (fun nv i wr => ∃ k : Nat, k ≤ l.length ∧ i = .int .i64 k ∧ Bt.Buf 4 wo.heap.size wr nv k (Bt.bv (Cl.nulls l)) ∧ Below wo.heap.size wo wr ∧ ∀ j x, j < k → l[j]? = some x → Cl.is c x = true) (fun _ i _ => l.length - (intOf i).toNat)
      case atStart => exact ⟨0, by omega, rfl, Bt.Buf.nil _ _ _ _, Below.refl _ _, fun j x hj => by omega⟩
      case round =>
        obtain ⟨k, hkl, rfl, hO, hb, hall⟩ := hrel
        have HB := Lib.hid hb
        have HO := Lib.hid hO
        have HALL := Lib.hid hall
        have hws := hb.size
        have hx0 := (hb.cell (p := ⟨w.heap.size, 0, none⟩) (by simp [hsz])).trans HX0.out
        have hx1 := (hb.cell (p := ⟨w.heap.size, 1, none⟩) (by simp [hsz])).trans HX1.out
        simp only [List.getElem_toArray, List.getElem_cons_zero, List.getElem_cons_succ] at hx0 hx1
        clear hO hb hall
        have E0 := fun d os => cell_regrown hx0 d os
        have E1 := fun d os => cell_regrown hx1 d os
        by_cases hlt : k < l.length
        · rcases HH.out with h | ⟨b, o, rfl, hbl, hm, h⟩
          · exact absurd hlt (by rw [h]; simp)
          · obtain ⟨x, hx⟩ : ∃ x, l[k]? = some x := ⟨_, List.getElem?_eq_getElem hlt⟩
            have hA := ((h k x hx).later HB0.out).later HB.out
            have HA := Lib.hid hA
            have HX := Lib.hid hx
            obtain ⟨a0, a1, a2⟩ := hA
            have dk : (k : Int) < (l.length : Int) := by omega
            have dk0 : (0 : Int) ≤ (k : Int) := by omega
            have E2 := fun d os => cell_regrown a0 d os
            have E3 := fun d os => cell_regrown a1 d os
            have E4 := fun d os => cell_regrown a2 d os
            have CIS : Hid (∀ p : Regrown, Calls Tryz.prog 56 #[.agg #[.int .i64 c.k, .bool c.null], .agg #[.bool x.null, .int .i64 x.n, .string x.s]] (Sort.grow (redrawn wr p.d) p.os) fun e w'' => e = .returned (.bool (Cl.is c x)) ∧ ∃ p : Regrown, w'' = Sort.grow (redrawn wr p.d) p.os) := Lib.hid fun p => Calls.regrown_of (CI.out x _)
            clear h hx
            cases hB : Cl.is c x
            · have HE := Lib.hid (HV.out.trans (Cl.wV_bad (HE6'.out k x HX.out hB) (by decide)))
              rw [hB] at CIS
              clear hB
              go_wp2_with fail
              refine wp_region_quiet_below (by kernel_rfl) (by kernel_rfl) ?_
              repeat (go_big_quiet_step (first | with_reducible exact CIS.out _))
              refine wpQuiet_nil ?_
              intro wq hw'
              have HBQ := Lib.hid (HB0.out.trans ((HB.out.trans ((Ig.below_reg hw').mono hws)).mono HB0.out.size))
              clear hw'
              go_wp2
              go_ret2
              exact ⟨by rw [HE.out]; rfl, HBQ.out⟩
            · have HIS := Lib.hid hB
              rw [hB] at CIS
              clear hB
              go_wp2_with fail
              refine wp_region_quiet_below (by kernel_rfl) (by kernel_rfl) ?_
              repeat (go_big_quiet_step (first | with_reducible exact CIS.out _))
              refine wpQuiet_nil ?_
              intro wq hw'
              have hbq := Ig.below_reg hw'
              have hOq := HO.out.kept hbq
              have hsq := hbq.size
              obtain ⟨q0, q1, q2⟩ := HA.out.later hbq
              have HBQ := Lib.hid (HB.out.trans (hbq.mono hws))
              clear hw' hbq E0 E1 E2 E3 E4 a0 a1 a2 q1 q2 hx0 hx1
              go_wp2_with (at_builtin; refine Bt.wpList_append_one 4 49 (.bool false) 1 Tryz.underlying49 Bt.infoB rfl hOq (by omega) (by omega) (by omega) (.tmp 32) (.tmp 38) _ rfl rfl rfl rfl rfl ?_; intro v5 w5 h5 g5)
              have H5 := Lib.hid (h5 (by unfold Bt.bv; rw [Cl.nulls_at HX.out]))
              have HB5 := Lib.hid (Cl.grew_below HBQ.out hOq g5)
              clear h5 g5 hOq
              go_roundw
              case rel => exact ⟨k + 1, by omega, by simp, H5.out, HB5.out, fun j y hj hy => by
                by_cases e : j = k
                · subst e
                  rw [HX.out] at hy
                  obtain rfl := Option.some.inj hy
                  exact HIS.out
                · exact HALL.out j y (by omega) hy⟩
              case measure => simp [intOf]; omega
        · obtain rfl : k = l.length := by omega
          have dk : ¬ (l.length : Int) < (l.length : Int) := by omega
          have hall : l.all (Cl.is c) = true := Cl.all_of fun i x hx => HALL.out i x (by
            rcases Nat.lt_or_ge i l.length with h | h
            · exact h
            · rw [List.getElem?_eq_none h] at hx; cases hx) hx
          have HE := Lib.hid (HV.out.trans (Cl.wV_ok (HE0'.out hall)))
          have hvl := CL.out hall hl65
          have hnn := (Bt.need_room l.length).2
          have CVP : ∀ p : Regrown, Calls Tryz.prog 57 #[.agg #[.int .i64 c.k, .bool c.null], .slice a l.length cp] (Sort.grow (redrawn wr p.d) p.os) fun e w'' => e = .returned (.string (Ty.S (Cl.vals c l))) ∧ ∃ p : Regrown, w'' = Sort.grow (redrawn wr p.d) p.os := fun p => Calls.regrown_of (CV.out _ (((HU.out.later HB0.out).later HB.out).later (below_regrown wr p.d p.os)) hl65 hall)
          have CBP : ∀ p : Regrown, Calls Tryz.prog 27 #[u6] (Sort.grow (redrawn wr p.d) p.os) fun e w'' => e = .returned (.string (Bt.bytes (Bt.need l.length) (Bt.tr l.length (Cl.nulls l)))) ∧ ∃ p : Regrown, w'' = Sort.grow (redrawn wr p.d) p.os := fun p => Calls.regrown_of (Bt.rbytes_c u6 l.length (Cl.nulls l) _ (HO.out.kept (below_regrown wr p.d p.os)).sl (by omega))
          have CUP : ∀ p : Regrown, Calls Tryz.prog 26 #[.int .u64 (l.length : Int)] (Sort.grow (redrawn wr p.d) p.os) fun e w'' => e = .returned (.string (Ty.S (Ty.encU l.length))) ∧ ∃ p : Regrown, w'' = Sort.grow (redrawn wr p.d) p.os := fun p => Calls.regrown_of (Ty.ruint_nat l.length _)
          have hen : Cl.enc c l = Ty.encU l.length ++ ((Bt.bytes (Bt.need l.length) (Bt.tr l.length (Cl.nulls l))).data.toList ++ Cl.vals c l) := rfl
          have hA9 : (Ty.S (Ty.encU l.length)).size ≤ 9 := Ty.encU_len9 l.length
          have hB9 : (Bt.bytes (Bt.need l.length) (Bt.tr l.length (Cl.nulls l))).size = Bt.need l.length := Bt.size_bytes _ _
          have hC9 : (Ty.S (Cl.vals c l)).size ≤ 4800000 := hvl
          obtain ⟨A, hA⟩ : ∃ A, A = Ty.S (Ty.encU l.length) := ⟨_, rfl⟩
          obtain ⟨B, hBB⟩ : ∃ B, B = Bt.bytes (Bt.need l.length) (Bt.tr l.length (Cl.nulls l)) := ⟨_, rfl⟩
          obtain ⟨D, hDD⟩ : ∃ D, D = Ty.S (Cl.vals c l) := ⟨_, rfl⟩
          have HABD : Hid (Ty.S (Cl.enc c l) = (A ++ B) ++ D) := Lib.hid (by
            rw [hA, hBB, hDD, hen, ← Ig.S_add, ← Ig.S_add, Ty.S_data, ByteArray.append_assoc])
          rw [← hA] at CUP hA9
          rw [← hBB] at CBP hB9
          rw [← hDD] at CVP hC9
          have n1 : ¬ 9223372036854775807 < A.size + B.size := by omega
          have n2 : ¬ 9223372036854775807 < A.size + B.size + D.size := by omega
          have CUQ := Lib.hid CUP
          rw [← HWK.out] at CUP
          have CUR := Lib.hid CUP
          have CVQ := Lib.hid CVP
          have CBQ := Lib.hid CBP
          clear CVP CBP CUP hen hvl hnn hA hBB hDD hA9 hB9 hC9 hall
          have hwz := HWK.out
          go_wp2_with fail
          refine wp_region_quiet_below (by kernel_rfl) (by kernel_rfl) ?_
          repeat (go_big_quiet_step (first | with_reducible exact CUQ.out _ | with_reducible exact CUR.out _ | with_reducible exact CVQ.out _ | with_reducible exact CBQ.out _))
          refine wpQuiet_nil ?_
          intro wq hw'
          have HBQ := Lib.hid (HB0.out.trans ((HB.out.trans ((Ig.below_reg hw').mono hws)).mono HB0.out.size))
          clear hw'
          go_wp2
          go_ret2
          exact ⟨by rw [HE.out, HABD.out]; rfl, HBQ.out⟩
end Go.Proofs.YtfbjmehkipcmbaaGreatDoor

namespace Go.Proofs.YtfbjmehkipcmbaaGreatDoor
open Go.RowKit
open Tx (encT)
def Bk.wS (s : List Kn.C) (L : List Dd.D) : List UInt8 := if Bk.wE s L = 0 then Bk.enc s L else []
def Bk.wV (s : List Kn.C) (L : List Dd.D) : Value := .tuple #[.string (Ty.S (Bk.wS s L)), .int .i64 (Bk.wE s L)]
theorem Bk.wV_bad {s : List Kn.C} {L : List Dd.D} {q : Int} (h : Bk.wE s L = q) (hq : q ≠ 0) : Bk.wV s L = .tuple #[.string (Ty.S []), .int .i64 q] := by
  unfold Bk.wV Bk.wS
  rw [h, if_neg hq]
theorem Bk.wV_ok {s : List Kn.C} {L : List Dd.D} (h : Bk.wE s L = 0) : Bk.wV s L = .tuple #[.string (Ty.S (Bk.enc s L)), .int .i64 0] := by
  unfold Bk.wV Bk.wS
  rw [h, if_pos rfl]
theorem Bk.encC_append : ∀ (a b : List Kn.C) (i : Nat) (L : List Dd.D), Bk.encC i (a ++ b) L = Bk.encC i a L ++ Bk.encC (i + a.length) b L
  | [], b, i, L => rfl
  | c :: a, b, i, L => by
    show encT (Cl.enc c (Bk.col L i)) ++ Bk.encC (i + 1) (a ++ b) L = (encT (Cl.enc c (Bk.col L i)) ++ Bk.encC (i + 1) a L) ++ Bk.encC (i + (a.length + 1)) b L
    rw [Bk.encC_append a b (i + 1) L, List.append_assoc, show i + 1 + a.length = i + (a.length + 1) by omega]
theorem Bk.encC_take {s : List Kn.C} {k : Nat} {c : Kn.C} (h : s[k]? = some c) (L : List Dd.D) : Bk.encC 0 (s.take (k + 1)) L = Bk.encC 0 (s.take k) L ++ encT (Cl.enc c (Bk.col L k)) := by
  obtain ⟨hk, rfl⟩ := List.getElem?_eq_some_iff.1 h
  rw [List.take_succ_eq_append_getElem hk, Bk.encC_append, List.length_take, Nat.min_eq_left (by omega), Nat.zero_add]
  congr 1
  unfold Bk.encC Bk.encC
  rw [List.append_nil]
theorem Bk.encC_len {s : List Kn.C} {L : List Dd.D} (h : ∀ j c, s[j]? = some c → (Cl.enc c (Bk.col L j)).length ≤ 1048576) : ∀ k, k ≤ s.length → (Bk.encC 0 (s.take k) L).length ≤ k * 1048585
  | 0, _ => by simp [Bk.encC]
  | k + 1, hk => by
    have hx := List.getElem?_eq_getElem (show k < s.length by omega)
    have ih := Bk.encC_len h k (by omega)
    have h1 := h k _ hx
    rw [Bk.encC_take hx, List.length_append]
    unfold encT
    rw [List.length_append]
    have := Ty.encU_len9 (Cl.enc s[k] (Bk.col L k)).length
    omega
theorem Bk.gones_at {L : List Dd.D} {k : Nat} {d : Dd.D} (h : L[k]? = some d) : Bk.gones L k = d.gone := by
  unfold Bk.gones
  rw [List.getD_eq_getElem?_getD, h]
  rfl
set_option maxHeartbeats 4000000 in
set_option maxRecDepth 100000 in
theorem Bk.rwrite_bad (vs v : Value) (s : List Kn.C) (L : List Dd.D) (w : World) (hs : Kn.Cols w vs s) (hv : Bk.Ds w v L) (hz : Bk.Zs L) (hw : Bk.wE s L ≠ 0) :
    Calls Tryz.prog 10 #[vs, v] w fun e w' => e = .returned (Bk.wV s L) ∧ Below w.heap.size w w' := by
  have HV := Lib.hid hv
  have HS := Lib.hid hs
  have CF := Lib.hid fun wz h1 h2 => Bk.rfits_c vs v s L wz h1 h2 hz
  have cR := Kn.rRight_c vs s w hs
  obtain ⟨V, hV⟩ : ∃ V, V = Bk.wV s L := ⟨_, rfl⟩
  rw [← hV]
  have HVV := Lib.hid hV
  have HW := Lib.hid hw
  have HE : Hid (Bk.wE s L = if Kn.right s = true then (if L.length < 1 ∨ 8 < L.length then 1 else Bk.fitsE s L) else 4) := Lib.hid rfl
  clear hV hw hz
  obtain ⟨a, c, rfl, hlc, hcm, -⟩ := hv
  obtain ⟨sa, sc, rfl, -⟩ := hs
  generalize Kn.right s = R at cR HE
  cases R
  · have hq : Bk.wE s L = 4 := HE.out
    have HQ := Lib.hid (HVV.out.trans (Bk.wV_bad hq (by decide)))
    clear hq
    go_enter Tryz.func10, Tryz.ntmps10
    go_wp2_with fail
    with_reducible refine cR.mono ?_
    rintro e w1 ⟨rfl, rfl⟩
    go_wp2
    go_ret2
    exact ⟨by rw [HQ.out]; rfl, Below.refl _ _⟩
  · by_cases h1 : L.length < 1
    · have hq : Bk.wE s L = 1 := by rw [HE.out, if_pos rfl, if_pos (.inl h1)]
      have HQ := Lib.hid (HVV.out.trans (Bk.wV_bad hq (by decide)))
      have hi1 : (L.length : Int) < 1 := by omega
      clear hq h1
      go_enter Tryz.func10, Tryz.ntmps10
      go_wp2_with fail
      with_reducible refine cR.mono ?_
      rintro e w1 ⟨rfl, rfl⟩
      go_wp2
      go_ret2
      exact ⟨by rw [HQ.out]; rfl, Below.refl _ _⟩
    · have hi1 : ¬ (L.length : Int) < 1 := by omega
      by_cases h2 : 8 < L.length
      · have hq : Bk.wE s L = 1 := by rw [HE.out, if_pos rfl, if_pos (.inr h2)]
        have HQ := Lib.hid (HVV.out.trans (Bk.wV_bad hq (by decide)))
        have hi2 : (8 : Int) < (L.length : Int) := by omega
        clear hq h1 h2
        go_enter Tryz.func10, Tryz.ntmps10
        go_wp2_with fail
        with_reducible refine cR.mono ?_
        rintro e w1 ⟨rfl, rfl⟩
        go_wp2
        go_ret2
        exact ⟨by rw [HQ.out]; rfl, Below.refl _ _⟩
      · have hi2 : ¬ (8 : Int) < (L.length : Int) := by omega
        have hq : Bk.wE s L = Bk.fitsE s L := by rw [HE.out, if_pos rfl, if_neg (by omega)]
        have hne : Bk.fitsE s L ≠ 0 := by rw [← hq]; exact HW.out
        have HQ := Lib.hid (HVV.out.trans (Bk.wV_bad hq hne))
        have hnb : (Bk.fitsE s L != 0) = true := by rw [bne_iff_ne]; exact hne
        clear hq hne h1 h2
        generalize Bk.fitsE s L = E at CF HQ hnb
        go_enter Tryz.func10, Tryz.ntmps10
        go_wp2_with fail
        with_reducible refine cR.mono ?_
        rintro e w1 ⟨rfl, rfl⟩
        go_wp2_with fail
        with_reducible refine (CF.out _ HS.out HV.out).mono ?_
        rintro e w2 ⟨rfl, g2⟩
        have HG := Lib.hid g2
        clear g2
        go_wp2
        go_ret2
        exact ⟨by rw [HQ.out]; rfl, HG.out⟩
end Go.Proofs.YtfbjmehkipcmbaaGreatDoor
