/-
  The document's answers for package deeds: Read.
-/
import Derived.Test.YtccjfmjgkkpndaaDoorV5
namespace Go.Proofs.YtccjfmjgkkpndaaDoor
open Go.RowKit
open Ty (num txt)
/-- So far: the values M of the first k columns are read. -/
def Dd.MidR (cs : List Kn.C) (l : List UInt8) (k : Nat) (M : List Kn.V) (l2 : List UInt8) : Prop :=
  M.length = k ∧ k ≤ cs.length ∧ Dd.rdR cs l = ((Dd.rdR (cs.drop k) l2).1, M ++ (Dd.rdR (cs.drop k) l2).2.1, (Dd.rdR (cs.drop k) l2).2.2)
theorem Dd.MidR.start (cs : List Kn.C) (l : List UInt8) : Dd.MidR cs l 0 [] l := ⟨rfl, Nat.zero_le _, rfl⟩
theorem Dd.MidR.fail {cs : List Kn.C} {l : List UInt8} {k : Nat} {M : List Kn.V} {l2 : List UInt8} (h : Dd.MidR cs l k M l2) {c : Kn.C} (hc : cs[k]? = some c) (hq : (Dd.rdV c l2).1 ≠ 0) : (Dd.rdR cs l).1 = (Dd.rdV c l2).1 := by
  obtain ⟨_, _, h3⟩ := h
  obtain ⟨h1, rfl⟩ := List.getElem?_eq_some_iff.1 hc
  rw [h3, List.drop_eq_getElem_cons h1]
  simp only [Dd.rdR]
  rw [if_pos hq]
theorem Dd.MidR.next {cs : List Kn.C} {l : List UInt8} {k : Nat} {M : List Kn.V} {l2 : List UInt8} (h : Dd.MidR cs l k M l2) {c : Kn.C} (hc : cs[k]? = some c) (hq : (Dd.rdV c l2).1 = 0) : Dd.MidR cs l (k + 1) (M ++ [(Dd.rdV c l2).2.1]) (Dd.rdV c l2).2.2 := by
  obtain ⟨a1, _, h3⟩ := h
  obtain ⟨h1, rfl⟩ := List.getElem?_eq_some_iff.1 hc
  refine ⟨by rw [List.length_append, a1]; rfl, h1, ?_⟩
  rw [h3, List.drop_eq_getElem_cons h1]
  simp only [Dd.rdR]
  rw [if_neg (by rw [hq]; simp)]
  simp only [List.append_assoc, List.singleton_append]
theorem Dd.MidR.done {cs : List Kn.C} {l : List UInt8} {k : Nat} {M : List Kn.V} {l2 : List UInt8} (h : Dd.MidR cs l k M l2) (hk : k = cs.length) : Dd.rdR cs l = (0, M, l2) := by
  obtain ⟨_, _, h3⟩ := h
  rw [h3, hk, List.drop_length]
  simp [Dd.rdR]
/-- Read's answer, way by way. -/
theorem Dd.rd_k {s : List Kn.C} {l : List UInt8} (h : Kn.right s = false) : Dd.rd s l = (4, ⟨false, []⟩) := by unfold Dd.rd; rw [if_pos h]
theorem Dd.rd_f {s : List Kn.C} {l : List UInt8} (h : Kn.right s = true) (h1 : (Dd.rdF l).1 ≠ 0) : Dd.rd s l = ((Dd.rdF l).1, ⟨false, []⟩) := by unfold Dd.rd; rw [if_neg (by rw [h]; decide), if_pos h1]
theorem Dd.rd_r {s : List Kn.C} {l : List UInt8} (h : Kn.right s = true) (h1 : (Dd.rdF l).1 = 0) {q : Nat} (h2 : (Dd.rdR (Dd.cols s (Dd.rdF l).2.1) (Dd.rdF l).2.2).1 = q) (hq : q ≠ 0) : Dd.rd s l = (q, ⟨false, []⟩) := by
  unfold Dd.rd; rw [if_neg (by rw [h]; decide), if_neg (by rw [h1]; simp), h2, if_pos hq]
theorem Dd.rd_5 {s : List Kn.C} {l : List UInt8} (h : Kn.right s = true) (h1 : (Dd.rdF l).1 = 0) {M : List Kn.V} {l2 : List UInt8} (h2 : Dd.rdR (Dd.cols s (Dd.rdF l).2.1) (Dd.rdF l).2.2 = (0, M, l2)) (h3 : l2 ≠ []) : Dd.rd s l = (5, ⟨false, []⟩) := by
  unfold Dd.rd; rw [if_neg (by rw [h]; decide), if_neg (by rw [h1]; simp), h2, if_neg (by simp), if_pos h3]
theorem Dd.rd_0 {s : List Kn.C} {l : List UInt8} (h : Kn.right s = true) (h1 : (Dd.rdF l).1 = 0) {M : List Kn.V} {l2 : List UInt8} (h2 : Dd.rdR (Dd.cols s (Dd.rdF l).2.1) (Dd.rdF l).2.2 = (0, M, l2)) (h3 : l2 = []) : Dd.rd s l = (0, ⟨(Dd.rdF l).2.1, M⟩) := by
  unfold Dd.rd; rw [if_neg (by rw [h]; decide), if_neg (by rw [h1]; simp), h2, if_neg (by simp), if_neg (by simp [h3])]
/-- A slice whose block, if it has one, is not below B. -/
def Dd.Fresh (B : Nat) (v : Value) : Prop := ∀ k, v.ownBlock = some k → B ≤ k
theorem Dd.Fresh.nil (B : Nat) : Dd.Fresh B (.slice none 0 0) := fun k h => by cases h
theorem Dd.Fresh.mono {B B' : Nat} {v : Value} (h : Dd.Fresh B v) (hb : B' ≤ B) : Dd.Fresh B' v := fun k hk => Nat.le_trans hb (h k hk)
theorem Dd.vals_put {w : World} {v : Value} {L : List Kn.V} {B q i : Nat} (h : Kn.Vals w v L) (hf : Dd.Fresh B v) (hq : q < B) (x : Value) : Kn.Vals (w.setCell ⟨q, i, none⟩ x) v L := by
  obtain ⟨a, c, rfl, h⟩ := h
  refine ⟨a, c, rfl, ?_⟩
  rcases h with h | ⟨b, o, rfl, hlt, hm, h⟩
  · exact .inl h
  · have hb : B ≤ b := hf b rfl
    have hne : ∀ j, (w.setCell ⟨q, i, none⟩ x).cell? ⟨b, j, none⟩ = w.cell? ⟨b, j, none⟩ := fun j => World.cell?_of_block (a := ⟨b, j, none⟩) (Below.heap_setCell _ _ _ _ (by show b ≠ q; omega))
    refine .inr ⟨b, o, rfl, by simpa [World.setCell] using hlt, hm, fun j y hy => ?_⟩
    have hA := h j y hy
    exact ⟨(hne _).trans hA.c0, (hne _).trans hA.c1, (hne _).trans hA.c2⟩
/-- What Read leaves. -/
def Dd.Got (w : World) (r : Nat × Dd.D) (e : Ending) (w' : World) : Prop :=
  ∃ u, e = .returned (.tuple #[.agg #[.bool r.2.gone, u], .int .i64 ((r.1 : Nat) : Int)]) ∧ Kn.Vals w' u r.2.row ∧ Dd.Fresh w.heap.size u ∧ Below w.heap.size w w'
theorem Dd.Got.bad {w w' : World} {r : Nat × Dd.D} {z : Int} {q : Nat} (hr : r = (q, ⟨false, []⟩)) (hz : z = (q : Int)) (g : Below w.heap.size w w') : Dd.Got w r (.returned (.tuple #[.agg #[.bool false, .slice none 0 0], .int .i64 z])) w' :=
  ⟨_, by rw [hr, hz], by rw [hr]; exact ⟨_, 0, rfl, .inl rfl⟩, Dd.Fresh.nil _, g⟩
theorem Dd.Got.good {w w' : World} {r : Nat × Dd.D} {u : Value} {B : Bool} {L : List Kn.V} (hr : r = (0, ⟨B, L⟩)) (h : Kn.Vals w' u L) (hf : Dd.Fresh w.heap.size u) (g : Below w.heap.size w w') : Dd.Got w r (.returned (.tuple #[.agg #[.bool B, u], .int .i64 0])) w' :=
  ⟨u, by rw [hr]; rfl, by rw [hr]; exact h, hf, g⟩
/-- A block of two cells, none frozen; a store into it; what else stays. -/
theorem Dd.two {w : World} {q : Nat} {x y : Value} {t : TypeId} (h : w.heap[q]? = some (.cells #[x, y] t (0, 0))) : w.cell? ⟨q, 0, none⟩ = some x ∧ w.cell? ⟨q, 1, none⟩ = some y ∧ w.frozen? ⟨q, 0, none⟩ = false ∧ w.frozen? ⟨q, 1, none⟩ = false := by
  refine ⟨?_, ?_, ?_, ?_⟩ <;> simp [World.cell?, World.frozen?, h]
theorem Dd.below2 {w w' : World} {B q : Nat} (h : Below B w w') (hq : B ≤ q) (x y : Value) : Below B w ((w'.setCell ⟨q, 0, none⟩ x).setCell ⟨q, 1, none⟩ y) := Cl.below_cell (Cl.below_cell h hq x) hq y
theorem Dd.vals_set {w : World} {v : Value} {L : List Kn.V} {B q i : Nat} (h : Cl.Own B w v L) (hq : q < B) (u : Value) : Cl.Own B (w.setCell ⟨q, i, none⟩ u) v L := h.setOther hq u
set_option maxHeartbeats 4000000 in
set_option maxRecDepth 100000 in
/-- READ, as the document has it. -/
theorem Dd.rread_c (v : Value) (s : List Kn.C) (t : ByteArray) (w : World) (hs : Kn.Cols w v s) (ht : t.size ≤ 140737488351232) :
    Calls Tryd.prog 13 #[v, .string t] w (Dd.Got w (Dd.rd s t.data.toList)) := by
  have HS := Lib.hid hs
  have HB0 : Hid (Below w.heap.size w (w.alloc (.cells #[.bool false, .slice none 0 0] 26))) := Lib.hid ((Below.refl _ _).alloc (Nat.le_refl _) _)
  have HY0 : Hid ((w.alloc (.cells #[.bool false, .slice none 0 0] 26)).heap[w.heap.size]? = some (.cells #[.bool false, .slice none 0 0] 26 (0, 0))) := Lib.hid (heap_alloc_new w _)
  have hsz : (w.alloc (.cells #[.bool false, .slice none 0 0] 26)).heap.size = w.heap.size + 1 := World.size_alloc ..
  obtain ⟨R, hR⟩ : ∃ R, R = Dd.rd s t.data.toList := ⟨_, rfl⟩
  rw [← hR]
  have HRR := Lib.hid hR
  have CR := Lib.hid fun wz h => Kn.rRight_c v s wz h
  clear hR hs
  cases hrt : Kn.right s
  · rw [hrt] at CR
    have HE := Lib.hid (HRR.out.trans (Dd.rd_k hrt))
    clear hrt
    go_enter Tryd.func13, Tryd.ntmps13
    go_wp2_with fail
    generalize hwo : w.alloc _ = wo at hsz HY0 HB0 ⊢
    clear hwo
    with_reducible refine (CR.out wo (HS.out.later HB0.out)).mono ?_
    rintro e w1 ⟨rfl, h1⟩
    subst w1
    obtain ⟨y0, y1, z0, z1⟩ := Dd.two HY0.out
    go_wp2
    have HBE := Lib.hid (Dd.below2 (q := w.heap.size) HB0.out (Nat.le_refl _) (.bool false) (.slice none 0 0))
    (try simp only [Exit.inBlock, Exit.then])
    refine bodyPost_ret (v := .tuple #[.agg #[.bool false, .slice none 0 0], .int .i64 4]) ?_ rfl (Dd.Got.bad HE.out rfl HBE.out)
    rw [results_cell_tmp rfl]
    go_simp
  · rw [hrt] at CR
    have HRT := Lib.hid hrt
    have hsl := Kn.right_len hrt
    have G1 := Lib.hid fun h1 => HRR.out.trans (Dd.rd_f HRT.out h1)
    have G2 := Lib.hid fun h1 (q : Nat) h2 hq => HRR.out.trans (Dd.rd_r HRT.out h1 (q := q) h2 hq)
    have G3 := Lib.hid fun h1 (M : List Kn.V) (l2 : List UInt8) h2 h3 => HRR.out.trans (Dd.rd_5 HRT.out h1 (M := M) (l2 := l2) h2 h3)
    have G4 := Lib.hid fun h1 (M : List Kn.V) (l2 : List UInt8) h2 h3 => HRR.out.trans (Dd.rd_0 HRT.out h1 (M := M) (l2 := l2) h2 h3)
    have HBAD : Hid ((Dd.rdF t.data.toList).1 ≠ 0 → (Dd.rdF t.data.toList).2.1 = false) := Lib.hid fun h => by
      generalize t.data.toList = l at h ⊢
      cases l with
      | nil => rfl
      | cons b r =>
        simp only [Dd.rdF] at h ⊢
        by_cases h1 : 1 < b.toNat
        · rw [if_pos h1]
        · rw [if_neg h1] at h; exact absurd rfl h
    clear hrt
    obtain ⟨as_, cs_, rfl, h2⟩ := HS.out.is
    have HSH := Lib.hid h2
    clear h2
    go_enter Tryd.func13, Tryd.ntmps13
    go_wp2_with fail
    generalize hwo : w.alloc _ = wo at hsz HY0 HB0 ⊢
    clear hwo
    with_reducible refine (CR.out wo (HS.out.later HB0.out)).mono ?_
    rintro e w1 ⟨rfl, h1⟩
    subst w1
    go_wp2_with fail
    have HRS := Lib.hid (Tx.RS_new t wo)
    have HB1 := Lib.hid (HB0.out.trans (((Below.refl _ wo).alloc (Nat.le_refl _) (.cells #[.string t, .int .i64 0, .int .i64 0] 63)).mono HB0.out.size))
    have HY1 : Hid ((wo.alloc (.cells #[.string t, .int .i64 0, .int .i64 0] 63)).heap[w.heap.size]? = some (.cells #[.bool false, .slice none 0 0] 26 (0, 0))) := Lib.hid (by
      rw [((Below.refl _ wo).alloc (Nat.le_refl _) _).block w.heap.size (by rw [hsz]; omega)]; exact HY0.out)
    have hsz1 : (wo.alloc (.cells #[.string t, .int .i64 0, .int .i64 0] 63)).heap.size = w.heap.size + 2 := by rw [World.size_alloc, hsz]
    rw [hsz] at HRS
    generalize wo.alloc _ = w1 at HRS HB1 HY1 hsz1 ⊢
    obtain ⟨r, hr⟩ : ∃ r, r = w.heap.size + 1 := ⟨_, rfl⟩
    have HRE := Lib.hid hr
    have CT := Lib.hid fun wz h => Dd.rtruth_c r t ht t.data.toList wz h
    have CV := Lib.hid fun c l wz h => Dd.rvalue_c r t ht c l wz h
    have CD := Lib.hid fun l wz h => Ty.rdone_m r t ht l 0 wz h
    rw [← hr] at HRS ⊢
    generalize Dd.rdF t.data.toList = F at CT G1 G2 G3 G4 HBAD
    obtain ⟨E, B, l1⟩ := F
    simp only at CT G1 G2 G3 G4 HBAD
    clear HY0 HB0 hr
    with_reducible refine (CT.out w1 HRS.out).mono ?_
    rintro e w2 ⟨rfl, hR2, g2⟩
    have hs2 : w.heap.size + 2 ≤ w2.heap.size := by have := g2.size; omega
    have hrw : w.heap.size < r := by rw [HRE.out]; omega
    have hr2 : r < w2.heap.size := by rw [HRE.out]; omega
    have HB2 := Lib.hid (HB1.out.trans (Ty.below_at (B := w.heap.size) g2 HB1.out.size (by omega)))
    have HY2 := Lib.hid ((g2.block w.heap.size (by omega) (fun e => by have := Option.some.inj e; omega)).trans HY1.out)
    have HR2 := Lib.hid hR2
    have hw2 : w.heap.size < w2.heap.size := by omega
    clear hR2 g2 HY1 HB1 HRS hsz1 hsz
    cases B
    · go_wp2_with fail
      have HG0 : Hid ((w2.alloc (.cells #[.bool false, .slice none 0 0] 26)).heap[w2.heap.size]? = some (.cells #[.bool false, .slice none 0 0] 26 (0, 0))) := Lib.hid (heap_alloc_new w2 _)
      have HAB : Hid (Below w2.heap.size w2 (w2.alloc (.cells #[.bool false, .slice none 0 0] 26))) := Lib.hid ((Below.refl _ w2).alloc (Nat.le_refl _) _)
      have hsz3 : (w2.alloc (.cells #[.bool false, .slice none 0 0] 26)).heap.size = w2.heap.size + 1 := World.size_alloc ..
      have HY3 := Lib.hid ((HAB.out.block w.heap.size (by omega)).trans HY2.out)
      have HB3 := Lib.hid (HB2.out.trans (HAB.out.mono HB2.out.size))
      have HR3 := Lib.hid fun h => Tx.RS_below (HR2.out h) HAB.out (by omega)
      generalize w2.alloc _ = w3 at HG0 hsz3 HY3 HB3 HR3 ⊢
      obtain ⟨g, hg⟩ : ∃ g, g = w2.heap.size := ⟨_, rfl⟩
      rw [← hg] at HG0 hsz3 ⊢
      have hrg : r < g := by omega
      have hwg : w.heap.size < g := by omega
      have hwr : w.heap.size ≠ r := by omega
      clear HAB HY2 HB2 HR2 hg hs2 hw2
      go_loopw [8, 11] (fun ev i wr => ∃ (k q : Nat) (M : List Kn.V) (l2 : List UInt8) (u : Value), i = .int .i64 k ∧ ev = .int .i64 q ∧ k ≤ s.length ∧ M.length = k ∧ wr.heap[g]? = some (.cells #[.bool false, u] 26 (0, 0)) ∧ Cl.Own (g + 1) wr u M ∧ wr.heap[w.heap.size]? = some (.cells #[.bool false, .slice none 0 0] 26 (0, 0)) ∧ Below w.heap.size w wr ∧ g + 1 ≤ wr.heap.size ∧ (q ≠ 0 → R = (q, ⟨false, []⟩)) ∧ (q = 0 → E = 0 ∧ Ty.RS r t wr l2 0 ∧ Dd.MidR (Dd.cols s false) l1 k M l2)) (fun _ i _ => s.length - (intOf i).toNat)
      case atStart => exact ⟨0, E, [], l1, .slice none 0 0, rfl, rfl, by omega, rfl, HG0.out, Cl.Own.nil _ _, HY3.out, HB3.out, by omega, G1.out, fun h => ⟨h, HR3.out h, Dd.MidR.start _ _⟩⟩
      case round =>
        obtain ⟨k, q, M, l2, u, rfl, rfl, hk, hMk, hyg, hO, hyr, hbr, hgs, hQ, hM⟩ := hrel
        have HYG := Lib.hid hyg
        have HO := Lib.hid hO
        have HYR := Lib.hid hyr
        have HBR := Lib.hid hbr
        have HQ := Lib.hid hQ
        have HM := Lib.hid hM
        have hk0 : (0 : Int) ≤ (k : Int) := by omega
        clear hyg hO hyr hbr hQ hM HG0 HY3 HB3 HR3
        by_cases hl : k < s.length
        · have hkl : (k : Int) < (s.length : Int) := by omega
          by_cases hq : q = 0
          · subst hq
            obtain ⟨hE0, hRS, hMid⟩ := HM.out rfl
            have HE0 := Lib.hid hE0
            have HRS2 := Lib.hid hRS
            have HMD := Lib.hid hMid
            have hks : k < s.length := by omega
            clear hE0 hRS hMid HQ
            rcases HSH.out with h2 | ⟨b2, o2, rfl, hbl2, hm2, h2⟩
            · exact absurd hks (by rw [h2]; simp)
            · obtain ⟨c, hc⟩ : ∃ c, s[k]? = some c := ⟨_, List.getElem?_eq_getElem hks⟩
              have HCC : Hid ((Dd.cols s false)[k]? = some c) := Lib.hid (by exact hc)
              have hC := h2 k c hc
              have e0 := (HBR.out.cell (p := ⟨b2, o2 + k * 2, none⟩) hbl2).trans hC.1
              have e1 := (HBR.out.cell (p := ⟨b2, o2 + k * 2 + 1, none⟩) hbl2).trans hC.2
              have hksi : (k : Int) < (s.length : Int) := by omega
              have cv := CV.out c l2 wr HRS2.out
              have HN := Lib.hid fun h => HMD.out.next HCC.out h
              have HF := Lib.hid fun h => HMD.out.fail HCC.out h
              generalize Dd.rdV c l2 = rv at cv HN HF
              obtain ⟨q5, x, l5⟩ := rv
              unfold Dd.RdV at cv
              simp only at cv HN HF
              obtain ⟨xn, xi, xs⟩ := x
              simp only at cv
              clear h2 hc hC hm2
              go_wp2_with fail
              with_reducible refine cv.mono ?_
              rintro e w5 ⟨rfl, hR5, g5⟩
              have hs5 := g5.size
              have HYG5 := Lib.hid ((g5.block g (by omega) (fun e => by have := Option.some.inj e; omega)).trans HYG.out)
              have HYR5 := Lib.hid ((g5.block w.heap.size (by omega) (fun e => by have := Option.some.inj e; omega)).trans HYR.out)
              have HO5 := Lib.hid (HO.out.by g5 (by omega))
              have HB5 := Lib.hid (HBR.out.trans (Ty.below_at (B := w.heap.size) g5 HBR.out.size (by omega)))
              have HR5 := Lib.hid hR5
              have hA5 := (Below.refl _ w5).alloc (Nat.le_refl _) (.cells #[.bool xn, .int .i64 xi, .string xs] 43)
              have hsA : (w5.alloc (.cells #[.bool xn, .int .i64 xi, .string xs] 43)).heap.size = w5.heap.size + 1 := World.size_alloc ..
              have hOA : Cl.Own (g + 1) (w5.alloc (.cells #[.bool xn, .int .i64 xi, .string xs] 43)) u M := HO5.out.kept hA5
              have HA5 := Lib.hid hA5
              obtain ⟨c0, c1, f0, f1⟩ := Dd.two HYG5.out
              have hgw5 : g < w5.heap.size := by omega
              clear cv hR5 g5 hA5 e0 e1
              go_wp2_with (at_builtin; refine Cl.wpList_append_valT 24 Tryd.underlying24 ⟨xn, xi, xs⟩ hOA (by omega) (by omega) (.tmp 51) (.tmp 53) _ (by first | exact hsA.symm | simp) _ rfl rfl rfl rfl rfl ?_; (intro v6 w6 h6 g6); (obtain ⟨a6, c6, rfl, _⟩ := h6.vals.is); (have hb6 := Cl.own_grown (by omega) hOA g6); (have HY6 := Lib.hid ((hb6.block g (by omega)).trans ((HA5.out.block g (by omega)).trans HYG5.out))); (obtain ⟨d0, d1, k0, k1⟩ := Dd.two HY6.out))
              rw [show (M ++ [(⟨xn, xi, xs⟩ : Kn.V)]).length = k + 1 by rw [List.length_append, hMk]; rfl] at h6
              have H6 := Lib.hid h6
              have HB6 := Lib.hid hb6
              have hs6 := hb6.size
              clear h6 hOA hb6
              go_roundw
              case rel => exact ⟨k + 1, q5, _, l5, _, by simp, rfl, by omega, by rw [List.length_append, hMk]; rfl, Ty.two_set1 HY6.out, H6.out.setOther (g := g) (i := 1) (by omega) _,
                (Below.heap_setCell _ _ _ _ (by show w.heap.size ≠ g; omega)).trans ((HB6.out.block w.heap.size (by omega)).trans ((HA5.out.block w.heap.size (by omega)).trans HYR5.out)),
                Cl.below_cell ((HB5.out.trans (HA5.out.mono HB5.out.size)).trans (HB6.out.mono (by omega))) (by omega) _,
                by simp only [World.setCell, Array.size_modify]; omega,
                fun h => G2.out (HE0.out) _ (HF.out h) h,
                fun h => ⟨HE0.out, Tx.RS_below (Tx.RS_below (Tx.RS_below (HR5.out h) HA5.out (by omega)) HB6.out (by omega)) (Cl.below_cell (B := g) (Below.refl _ _) (Nat.le_refl _) _) (by omega), HN.out h⟩⟩
              case measure => simp [intOf]; omega
          · have hkl2 := hkl
            obtain ⟨y0, y1, z0, z1⟩ := Dd.two HYR.out
            have HBE := Lib.hid (Dd.below2 (q := w.heap.size) HBR.out (Nat.le_refl _) (.bool false) (.slice none 0 0))
            have HE := Lib.hid (HQ.out hq)
            have hqb : ((q : Int) == 0) = false := by rw [beq_eq_false_iff_ne]; omega
            have hqn : ((q : Int) != 0) = true := by rw [bne_iff_ne]; omega
            clear hq
            go_wp2
            (try simp only [Exit.inBlock, Exit.then])
            refine bodyPost_ret (v := .tuple #[.agg #[.bool false, .slice none 0 0], .int .i64 (q : Int)]) ?_ rfl (Dd.Got.bad HE.out rfl HBE.out)
            rw [results_cell_tmp rfl]
            go_simp
        · have hkl : ¬ (k : Int) < (s.length : Int) := by omega
          obtain rfl : k = s.length := by omega
          by_cases hq : q = 0
          · subst hq
            obtain ⟨hE0, hRS, hMid⟩ := HM.out rfl
            have HE0 := Lib.hid hE0
            have HRS2 := Lib.hid hRS
            have hdone := hMid.done rfl
            have G3' := Lib.hid fun h => G3.out (HE0.out) _ _ hdone h
            have G4' := Lib.hid fun h => G4.out (HE0.out) _ _ hdone h
            have cd := CD.out l2 wr HRS2.out
            have h00 : ((0 : Nat) : Int) = 0 := rfl
            clear hE0 hRS hMid hdone HQ
            simp only [Int.natCast_zero]
            by_cases hl2 : l2 = []
            · have HE := Lib.hid (G4'.out hl2)
              have hf : Ty.fin l2 0 = 0 := by rw [hl2]; rfl
              rw [hf] at cd
              simp only [Int.natCast_zero] at cd
              clear hl2 hf
              go_wp2_with fail
              with_reducible refine cd.mono ?_
              rintro e w5 ⟨rfl, hR5, g5⟩
              have HYG5 := Lib.hid ((g5.block g (by omega) (fun e => by have := Option.some.inj e; omega)).trans HYG.out)
              have hyr5 := (g5.block w.heap.size (by omega) (fun e => by have := Option.some.inj e; omega)).trans HYR.out
              have HO5 := Lib.hid (HO.out.by g5 (by omega))
              have HB5 := Lib.hid (HBR.out.trans (Ty.below_at (B := w.heap.size) g5 HBR.out.size (by omega)))
              obtain ⟨ua, uc, rfl, _⟩ := HO5.out.vals.is
              obtain ⟨y0, y1, z0, z1⟩ := Dd.two hyr5
              obtain ⟨c0, c1, f0, f1⟩ := Dd.two HYG5.out
              have HBE := Lib.hid (Dd.below2 (q := w.heap.size) HB5.out (Nat.le_refl _) (.bool false) (.slice ua M.length uc))
              have HV := Lib.hid (((HO5.out.setOther (g := w.heap.size) (i := 0) (by omega) (.bool false)).setOther (g := w.heap.size) (i := 1) (by omega) (.slice ua M.length uc)).vals)
              have HFR : Hid (Dd.Fresh w.heap.size (.slice ua M.length uc)) := Lib.hid fun k hk => Nat.le_trans (by omega) (HO5.out.base_le k hk)
              rw [hMk] at HBE HV HFR
              clear cd hR5 g5 hyr5
              go_wp2
              (try simp only [Exit.inBlock, Exit.then])
              refine bodyPost_ret (v := .tuple #[.agg #[.bool false, .slice ua s.length uc], .int .i64 0]) ?_ rfl (Dd.Got.good HE.out HV.out HFR.out HBE.out)
              rw [results_cell_tmp rfl]
              go_simp
            · have HE := Lib.hid (G3'.out hl2)
              have hf : Ty.fin l2 0 = 5 := by unfold Ty.fin; rw [if_pos ⟨rfl, hl2⟩]
              rw [hf] at cd
              clear hl2 hf
              go_wp2_with fail
              with_reducible refine cd.mono ?_
              rintro e w5 ⟨rfl, hR5, g5⟩
              have hyr5 := (g5.block w.heap.size (by omega) (fun e => by have := Option.some.inj e; omega)).trans HYR.out
              have HB5 := Lib.hid (HBR.out.trans (Ty.below_at (B := w.heap.size) g5 HBR.out.size (by omega)))
              obtain ⟨y0, y1, z0, z1⟩ := Dd.two hyr5
              have HBE := Lib.hid (Dd.below2 (q := w.heap.size) HB5.out (Nat.le_refl _) (.bool false) (.slice none 0 0))
              clear cd hR5 g5 hyr5
              go_wp2
              (try simp only [Exit.inBlock, Exit.then])
              refine bodyPost_ret (v := .tuple #[.agg #[.bool false, .slice none 0 0], .int .i64 5]) ?_ rfl (Dd.Got.bad HE.out rfl HBE.out)
              rw [results_cell_tmp rfl]
              go_simp
          · have hkl2 := hkl
            obtain ⟨y0, y1, z0, z1⟩ := Dd.two HYR.out
            have HBE := Lib.hid (Dd.below2 (q := w.heap.size) HBR.out (Nat.le_refl _) (.bool false) (.slice none 0 0))
            have HE := Lib.hid (HQ.out hq)
            have hqb : ((q : Int) == 0) = false := by rw [beq_eq_false_iff_ne]; omega
            have hqn : ((q : Int) != 0) = true := by rw [bne_iff_ne]; omega
            clear hq
            go_wp2
            (try simp only [Exit.inBlock, Exit.then])
            refine bodyPost_ret (v := .tuple #[.agg #[.bool false, .slice none 0 0], .int .i64 (q : Int)]) ?_ rfl (Dd.Got.bad HE.out rfl HBE.out)
            rw [results_cell_tmp rfl]
            go_simp
    · go_wp2_with fail
      have HG0 : Hid ((w2.alloc (.cells #[.bool true, .slice none 0 0] 26)).heap[w2.heap.size]? = some (.cells #[.bool true, .slice none 0 0] 26 (0, 0))) := Lib.hid (heap_alloc_new w2 _)
      have HAB : Hid (Below w2.heap.size w2 (w2.alloc (.cells #[.bool true, .slice none 0 0] 26))) := Lib.hid ((Below.refl _ w2).alloc (Nat.le_refl _) _)
      have hsz3 : (w2.alloc (.cells #[.bool true, .slice none 0 0] 26)).heap.size = w2.heap.size + 1 := World.size_alloc ..
      have HY3 := Lib.hid ((HAB.out.block w.heap.size (by omega)).trans HY2.out)
      have HB3 := Lib.hid (HB2.out.trans (HAB.out.mono HB2.out.size))
      have HR3 := Lib.hid fun h => Tx.RS_below (HR2.out h) HAB.out (by omega)
      generalize w2.alloc _ = w3 at HG0 hsz3 HY3 HB3 HR3 ⊢
      obtain ⟨g, hg⟩ : ∃ g, g = w2.heap.size := ⟨_, rfl⟩
      rw [← hg] at HG0 hsz3 ⊢
      have hrg : r < g := by omega
      have hwg : w.heap.size < g := by omega
      have hwr : w.heap.size ≠ r := by omega
      clear HAB HY2 HB2 HR2 hg hs2 hw2
      go_loopw [8, 11] (fun ev i wr => ∃ (k q : Nat) (M : List Kn.V) (l2 : List UInt8) (u : Value), i = .int .i64 k ∧ ev = .int .i64 q ∧ k ≤ 1 ∧ M.length = k ∧ wr.heap[g]? = some (.cells #[.bool true, u] 26 (0, 0)) ∧ Cl.Own (g + 1) wr u M ∧ wr.heap[w.heap.size]? = some (.cells #[.bool false, .slice none 0 0] 26 (0, 0)) ∧ Below w.heap.size w wr ∧ g + 1 ≤ wr.heap.size ∧ (q ≠ 0 → R = (q, ⟨false, []⟩)) ∧ (q = 0 → E = 0 ∧ Ty.RS r t wr l2 0 ∧ Dd.MidR (Dd.cols s true) l1 k M l2)) (fun _ i _ => 1 - (intOf i).toNat)
      case atStart => exact ⟨0, E, [], l1, .slice none 0 0, rfl, rfl, by omega, rfl, HG0.out, Cl.Own.nil _ _, HY3.out, HB3.out, by omega, G1.out, fun h => ⟨h, HR3.out h, Dd.MidR.start _ _⟩⟩
      case round =>
        obtain ⟨k, q, M, l2, u, rfl, rfl, hk, hMk, hyg, hO, hyr, hbr, hgs, hQ, hM⟩ := hrel
        have HYG := Lib.hid hyg
        have HO := Lib.hid hO
        have HYR := Lib.hid hyr
        have HBR := Lib.hid hbr
        have HQ := Lib.hid hQ
        have HM := Lib.hid hM
        have hk0 : (0 : Int) ≤ (k : Int) := by omega
        clear hyg hO hyr hbr hQ hM HG0 HY3 HB3 HR3
        by_cases hl : k < 1
        · have hkl : (k : Int) < 1 := by omega
          by_cases hq : q = 0
          · subst hq
            obtain ⟨hE0, hRS, hMid⟩ := HM.out rfl
            have HE0 := Lib.hid hE0
            have HRS2 := Lib.hid hRS
            have HMD := Lib.hid hMid
            have hks : k < s.length := by omega
            clear hE0 hRS hMid HQ
            rcases HSH.out with h2 | ⟨b2, o2, rfl, hbl2, hm2, h2⟩
            · exact absurd hks (by rw [h2]; simp)
            · obtain ⟨c, hc⟩ : ∃ c, s[k]? = some c := ⟨_, List.getElem?_eq_getElem hks⟩
              have HCC : Hid ((Dd.cols s true)[k]? = some c) := Lib.hid (by unfold Dd.cols; rw [if_pos rfl, List.getElem?_take_of_lt (by omega)]; exact hc)
              have hC := h2 k c hc
              have e0 := (HBR.out.cell (p := ⟨b2, o2 + k * 2, none⟩) hbl2).trans hC.1
              have e1 := (HBR.out.cell (p := ⟨b2, o2 + k * 2 + 1, none⟩) hbl2).trans hC.2
              have hksi : (k : Int) < (s.length : Int) := by omega
              have cv := CV.out c l2 wr HRS2.out
              have HN := Lib.hid fun h => HMD.out.next HCC.out h
              have HF := Lib.hid fun h => HMD.out.fail HCC.out h
              generalize Dd.rdV c l2 = rv at cv HN HF
              obtain ⟨q5, x, l5⟩ := rv
              unfold Dd.RdV at cv
              simp only at cv HN HF
              obtain ⟨xn, xi, xs⟩ := x
              simp only at cv
              clear h2 hc hC hm2
              go_wp2_with fail
              with_reducible refine cv.mono ?_
              rintro e w5 ⟨rfl, hR5, g5⟩
              have hs5 := g5.size
              have HYG5 := Lib.hid ((g5.block g (by omega) (fun e => by have := Option.some.inj e; omega)).trans HYG.out)
              have HYR5 := Lib.hid ((g5.block w.heap.size (by omega) (fun e => by have := Option.some.inj e; omega)).trans HYR.out)
              have HO5 := Lib.hid (HO.out.by g5 (by omega))
              have HB5 := Lib.hid (HBR.out.trans (Ty.below_at (B := w.heap.size) g5 HBR.out.size (by omega)))
              have HR5 := Lib.hid hR5
              have hA5 := (Below.refl _ w5).alloc (Nat.le_refl _) (.cells #[.bool xn, .int .i64 xi, .string xs] 43)
              have hsA : (w5.alloc (.cells #[.bool xn, .int .i64 xi, .string xs] 43)).heap.size = w5.heap.size + 1 := World.size_alloc ..
              have hOA : Cl.Own (g + 1) (w5.alloc (.cells #[.bool xn, .int .i64 xi, .string xs] 43)) u M := HO5.out.kept hA5
              have HA5 := Lib.hid hA5
              obtain ⟨c0, c1, f0, f1⟩ := Dd.two HYG5.out
              have hgw5 : g < w5.heap.size := by omega
              clear cv hR5 g5 hA5 e0 e1
              go_wp2_with (at_builtin; refine Cl.wpList_append_valT 24 Tryd.underlying24 ⟨xn, xi, xs⟩ hOA (by omega) (by omega) (.tmp 51) (.tmp 53) _ (by first | exact hsA.symm | simp) _ rfl rfl rfl rfl rfl ?_; (intro v6 w6 h6 g6); (obtain ⟨a6, c6, rfl, _⟩ := h6.vals.is); (have hb6 := Cl.own_grown (by omega) hOA g6); (have HY6 := Lib.hid ((hb6.block g (by omega)).trans ((HA5.out.block g (by omega)).trans HYG5.out))); (obtain ⟨d0, d1, k0, k1⟩ := Dd.two HY6.out))
              rw [show (M ++ [(⟨xn, xi, xs⟩ : Kn.V)]).length = k + 1 by rw [List.length_append, hMk]; rfl] at h6
              have H6 := Lib.hid h6
              have HB6 := Lib.hid hb6
              have hs6 := hb6.size
              clear h6 hOA hb6
              go_roundw
              case rel => exact ⟨k + 1, q5, _, l5, _, by simp, rfl, by omega, by rw [List.length_append, hMk]; rfl, Ty.two_set1 HY6.out, H6.out.setOther (g := g) (i := 1) (by omega) _,
                (Below.heap_setCell _ _ _ _ (by show w.heap.size ≠ g; omega)).trans ((HB6.out.block w.heap.size (by omega)).trans ((HA5.out.block w.heap.size (by omega)).trans HYR5.out)),
                Cl.below_cell ((HB5.out.trans (HA5.out.mono HB5.out.size)).trans (HB6.out.mono (by omega))) (by omega) _,
                by simp only [World.setCell, Array.size_modify]; omega,
                fun h => G2.out (HE0.out) _ (HF.out h) h,
                fun h => ⟨HE0.out, Tx.RS_below (Tx.RS_below (Tx.RS_below (HR5.out h) HA5.out (by omega)) HB6.out (by omega)) (Cl.below_cell (B := g) (Below.refl _ _) (Nat.le_refl _) _) (by omega), HN.out h⟩⟩
              case measure => simp [intOf]; omega
          · have hkl2 := hkl
            obtain ⟨y0, y1, z0, z1⟩ := Dd.two HYR.out
            have HBE := Lib.hid (Dd.below2 (q := w.heap.size) HBR.out (Nat.le_refl _) (.bool false) (.slice none 0 0))
            have HE := Lib.hid (HQ.out hq)
            have hqb : ((q : Int) == 0) = false := by rw [beq_eq_false_iff_ne]; omega
            have hqn : ((q : Int) != 0) = true := by rw [bne_iff_ne]; omega
            clear hq
            go_wp2
            (try simp only [Exit.inBlock, Exit.then])
            refine bodyPost_ret (v := .tuple #[.agg #[.bool false, .slice none 0 0], .int .i64 (q : Int)]) ?_ rfl (Dd.Got.bad HE.out rfl HBE.out)
            rw [results_cell_tmp rfl]
            go_simp
        · have hkl : ¬ (k : Int) < 1 := by omega
          obtain rfl : k = 1 := by omega
          by_cases hq : q = 0
          · subst hq
            obtain ⟨hE0, hRS, hMid⟩ := HM.out rfl
            have HE0 := Lib.hid hE0
            have HRS2 := Lib.hid hRS
            have hdone := hMid.done (by unfold Dd.cols; rw [if_pos rfl, List.length_take]; omega)
            have G3' := Lib.hid fun h => G3.out (HE0.out) _ _ hdone h
            have G4' := Lib.hid fun h => G4.out (HE0.out) _ _ hdone h
            have cd := CD.out l2 wr HRS2.out
            have h00 : ((0 : Nat) : Int) = 0 := rfl
            clear hE0 hRS hMid hdone HQ
            simp only [Int.natCast_zero]
            by_cases hl2 : l2 = []
            · have HE := Lib.hid (G4'.out hl2)
              have hf : Ty.fin l2 0 = 0 := by rw [hl2]; rfl
              rw [hf] at cd
              simp only [Int.natCast_zero] at cd
              clear hl2 hf
              go_wp2_with fail
              with_reducible refine cd.mono ?_
              rintro e w5 ⟨rfl, hR5, g5⟩
              have HYG5 := Lib.hid ((g5.block g (by omega) (fun e => by have := Option.some.inj e; omega)).trans HYG.out)
              have hyr5 := (g5.block w.heap.size (by omega) (fun e => by have := Option.some.inj e; omega)).trans HYR.out
              have HO5 := Lib.hid (HO.out.by g5 (by omega))
              have HB5 := Lib.hid (HBR.out.trans (Ty.below_at (B := w.heap.size) g5 HBR.out.size (by omega)))
              obtain ⟨ua, uc, rfl, _⟩ := HO5.out.vals.is
              obtain ⟨y0, y1, z0, z1⟩ := Dd.two hyr5
              obtain ⟨c0, c1, f0, f1⟩ := Dd.two HYG5.out
              have HBE := Lib.hid (Dd.below2 (q := w.heap.size) HB5.out (Nat.le_refl _) (.bool true) (.slice ua M.length uc))
              have HV := Lib.hid (((HO5.out.setOther (g := w.heap.size) (i := 0) (by omega) (.bool true)).setOther (g := w.heap.size) (i := 1) (by omega) (.slice ua M.length uc)).vals)
              have HFR : Hid (Dd.Fresh w.heap.size (.slice ua M.length uc)) := Lib.hid fun k hk => Nat.le_trans (by omega) (HO5.out.base_le k hk)
              rw [hMk] at HBE HV HFR
              clear cd hR5 g5 hyr5
              go_wp2
              (try simp only [Exit.inBlock, Exit.then])
              refine bodyPost_ret (v := .tuple #[.agg #[.bool true, .slice ua 1 uc], .int .i64 0]) ?_ rfl (Dd.Got.good HE.out HV.out HFR.out HBE.out)
              rw [results_cell_tmp rfl]
              go_simp
            · have HE := Lib.hid (G3'.out hl2)
              have hf : Ty.fin l2 0 = 5 := by unfold Ty.fin; rw [if_pos ⟨rfl, hl2⟩]
              rw [hf] at cd
              clear hl2 hf
              go_wp2_with fail
              with_reducible refine cd.mono ?_
              rintro e w5 ⟨rfl, hR5, g5⟩
              have hyr5 := (g5.block w.heap.size (by omega) (fun e => by have := Option.some.inj e; omega)).trans HYR.out
              have HB5 := Lib.hid (HBR.out.trans (Ty.below_at (B := w.heap.size) g5 HBR.out.size (by omega)))
              obtain ⟨y0, y1, z0, z1⟩ := Dd.two hyr5
              have HBE := Lib.hid (Dd.below2 (q := w.heap.size) HB5.out (Nat.le_refl _) (.bool false) (.slice none 0 0))
              clear cd hR5 g5 hyr5
              go_wp2
              (try simp only [Exit.inBlock, Exit.then])
              refine bodyPost_ret (v := .tuple #[.agg #[.bool false, .slice none 0 0], .int .i64 5]) ?_ rfl (Dd.Got.bad HE.out rfl HBE.out)
              rw [results_cell_tmp rfl]
              go_simp
          · have hkl2 := hkl
            obtain ⟨y0, y1, z0, z1⟩ := Dd.two HYR.out
            have HBE := Lib.hid (Dd.below2 (q := w.heap.size) HBR.out (Nat.le_refl _) (.bool false) (.slice none 0 0))
            have HE := Lib.hid (HQ.out hq)
            have hqb : ((q : Int) == 0) = false := by rw [beq_eq_false_iff_ne]; omega
            have hqn : ((q : Int) != 0) = true := by rw [bne_iff_ne]; omega
            clear hq
            go_wp2
            (try simp only [Exit.inBlock, Exit.then])
            refine bodyPost_ret (v := .tuple #[.agg #[.bool false, .slice none 0 0], .int .i64 (q : Int)]) ?_ rfl (Dd.Got.bad HE.out rfl HBE.out)
            rw [results_cell_tmp rfl]
            go_simp
end Go.Proofs.YtccjfmjgkkpndaaDoor
