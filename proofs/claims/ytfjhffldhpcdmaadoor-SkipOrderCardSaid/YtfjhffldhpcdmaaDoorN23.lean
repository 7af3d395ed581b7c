/-
  The law SkipOrder, walked.
-/
import Derived.Test.YtfjhffldhpcdmaaDoorZAP
import Derived.Test.YtfjhffldhpcdmaaDoorN29
import Derived.Sort.CutIn
namespace Go.Proofs.YtfjhffldhpcdmaaDoor
open Go Go.RowKit Go.Shelf
attribute [local go_sem] Oper.semAt_some
set_option linter.unusedSimpArgs false
/-- The last key so far. -/
def Sk.lv (l : List Dd.D) : Kn.V := match l.getLast? with
  | none => ⟨false, 0, ⟨#[]⟩⟩
  | some d => Sk.kd d
theorem Sk.lv_snoc (l : List Dd.D) (d : Dd.D) : Sk.lv (l ++ [d]) = Sk.kd d := by unfold Sk.lv; rw [List.getLast?_concat]
theorem Sk.nw_mem {L : List Sk.E} {x : Sk.E} {i : Nat} (hx : x ∈ L) : ∀ j, Sk.nw L x i j ∈ L
  | 0 => hx
  | j + 1 => by
    rw [Sk.nw]
    split
    · next y hy =>
      split
      · exact List.mem_of_getElem? hy
      · exact Sk.nw_mem hx j
    · exact Sk.nw_mem hx j
theorem Sk.One.get {w0 W : World} {p : Nat} {M : List Dd.D} (h : Sk.One w0 W p M) (k : Kn.V) :
    Calls Tryd.prog 17 #[.pointer (some ⟨p, 0, none⟩), k.val] W (Sk.GetP (Sk.get Sk.kd M k) W) := by
  obtain ⟨S, h1, _⟩ := h
  exact h1.get k
theorem Sk.One.len {w0 W : World} {p : Nat} {M : List Dd.D} (h : Sk.One w0 W p M) :
    Calls Tryd.prog 14 #[.pointer (some ⟨p, 0, none⟩)] W fun e w' => e = .returned (.int .i64 (M.length : Int)) ∧ w' = W := by
  obtain ⟨S, h1, _⟩ := h
  exact h1.len
theorem Sk.One.below {w0 W : World} {p : Nat} {M : List Dd.D} (h : Sk.One w0 W p M) : Below w0.heap.size w0 W := by
  obtain ⟨_, _, h⟩ := h
  exact h
/-- The newest one's key is the key asked for. -/
theorem Sk.kd_row {d : Dd.D} {k : Kn.V} {r : List Kn.V} (h : d.row = k :: r) : Sk.kd d = k := by unfold Sk.kd; rw [h]; rfl
theorem Sk.st_row {w : World} {g : Nat} {a b c : Value} {t : TypeId} (v : Kn.V) (h : w.heap[g]? = some (.cells #[a, b, c] t (0, 0))) : (Sk.st w g 0 v).heap[g]? = some (.cells #[.bool v.null, .int .i64 v.n, .string v.s] t (0, 0)) := by
  simp [Sk.st, World.setCell, Array.getElem?_modify, h]
set_option maxHeartbeats 16000000 in
set_option maxRecDepth 100000 in
theorem Sk.lawOrder_w {w : World} (hT : Sk.Tab w) (s : Int) {v : Value} {L0 : List Sk.E} (hd : Sk.Deeds w v L0) :
    Calls Tryd.prog 5 #[.int .u64 s, v] w fun e w' => e = .returned (.bool true) ∧ Below w.heap.size w w' := by
  obtain ⟨wb, hwb⟩ : ∃ wb, wb = w.alloc (.cells #[.bool false] 4) := ⟨_, rfl⟩
  have hb0 : Below w.heap.size w wb := by rw [hwb]; exact (Below.refl _ w).alloc (Nat.le_refl _) _
  have hsb : wb.heap.size = w.heap.size + 1 := by rw [hwb]; simp
  have hrr : wb.heap[w.heap.size]? = some (.cells #[.bool false] 4 (0, 0)) := by rw [hwb]; exact heap_alloc_new w _
  obtain ⟨a, n, c, rfl, hnc, hcm, hD, hn0⟩ := (hd.later hb0).early
  have hLl : (L0.take 400).length ≤ 400 := by rw [List.length_take]; omega
  generalize L0.take 400 = L at hD hLl
  have HC : Hid (∀ W, Below wb.heap.size wb W → W.heap[w.heap.size]? = some (.cells #[.bool false] 4 (0, 0)) ∧ Below w.heap.size w W) := Lib.hid fun W g =>
    ⟨(g.block (w.heap.size) (by omega)).trans hrr, hb0.trans (g.mono hb0.size)⟩
  have HTB : Hid (Sk.Tab wb) := Lib.hid (hT.later hb0 hT.lt)
  have CL := Lib.hid (Sk.lives_c HTB.out)
  have HD := Lib.hid hD
  have HLL := Lib.hid hLl
  have hnl : min n 400 = L.length := hD.len.symm
  have HNN : Hid (n ≤ c ∧ c ≤ 9223372036854775807 ∧ min n 400 = L.length) := Lib.hid ⟨hnc, hcm, hnl⟩
  have HSB := Lib.hid hsb
  clear hsb hrr hb0 hT hd hD hn0 hnc hcm hnl hLl
  refine (callsIn_wide (n := 9)).1 ?_
  refine callsIn_of_wp_marks Tryd.func5 rfl trivial ?_ rfl
  simp only [Tryd.ntmps5, List.size_toArray, List.length_cons, List.length_nil, Nat.reduceAdd, Nat.reduceSub, Array.replicate_succ, Array.replicate_zero, List.push_toArray, List.append_toArray, List.nil_append, List.cons_append]
  gi_wp2_with (first
    | (rw [← hwb]; clear hwb; refine ⟨trivial, ?_⟩; gi_at_call 9; refine (callsIn_wide.2 CL.out).mono ?_; rintro e w1 ⟨rfl, g1⟩
       have G1 := Lib.hid g1
       clear g1 CL)
    | (refine ⟨trivial, ?_⟩; gi_at_call 10; refine (callsIn_wide.2 (Sk.early_c a n c HNN.out.1 HNN.out.2.1)).mono ?_; rintro e w2 ⟨rfl, h9⟩; obtain rfl := h9.symm; rw [HNN.out.2.2])
    | (refine ⟨trivial, ?_⟩; gi_at_call 11; refine (callsIn_wide.2 (Sk.PD.new (B := wb.heap.size) G1.out.size s)).mono ?_; rintro e w3 ⟨rfl, h3, g3⟩
       have HTW : Hid (Sk.One wb w3 w1.heap.size []) := Lib.hid ⟨_, h3, G1.out.trans (g3.mono G1.out.size)⟩
       generalize w1.heap.size = p at HTW h3 ⊢
       clear h3 g3 G1))
  gi_loopw [6] (fun i wr => ∃ j : Nat, j ≤ L.length ∧ i = .int .i64 j ∧ Sk.One wb wr p ((Sk.puts (L.take j)).map Sk.E.d)) (fun i _ => L.length - (intOf i).toNat)
  case atStart => exact ⟨0, Nat.zero_le _, rfl, HTW.out⟩
  case round =>
    obtain ⟨j, hj, rfl, hT2⟩ := hrel
    have H2 := Lib.hid hT2
    clear hT2 HTW
    have hj0 : (0 : Int) ≤ (j : Int) := by omega
    by_cases hjl : j < L.length
    · have hji : (j : Int) < (L.length : Int) := by omega
      obtain ⟨x, hx⟩ : ∃ x, L[j]? = some x := ⟨_, List.getElem?_eq_getElem hjl⟩
      have hlen := Sk.puts_len L j hj
      have hg := HD.out.got x (List.mem_of_getElem? hx)
      have CA := Lib.hid (H2.out.put HTB.out hg (by rw [List.length_map]; have := HLL.out; omega))
      rw [Sk.pd_map, ← Sk.puts_step hx] at CA
      obtain ⟨b, o, rfl, x0, x1⟩ := HD.out.at_ wr H2.out.below j x hx
      obtain ⟨ra, rc, hrv⟩ := hg.slice
      rw [hrv] at x1 CA
      have HLJ : Hid (j < 400) := Lib.hid (by have := HLL.out; omega)
      clear hx hg hrv hlen HNN HLL
      gi_wp2_with (first
        | (refine ⟨trivial, ?_⟩; gi_at_call 12; refine (callsIn_wide.2 CA.out).mono ?_; rintro e w4 ⟨rfl, h4, g4⟩
           have H4 := Lib.hid h4
           clear h4 g4))
      have hw : wrap64 ((j : Int) + 1) = ((j + 1 : Nat) : Int) := by have := HLJ.out; unfold wrap64; omega
      rw [hw]
      exact ⟨⟨j + 1, by omega, rfl, H4.out⟩, by simp [intOf]; omega⟩
    · obtain rfl : j = L.length := by omega
      have hji : ¬ (L.length : Int) < (L.length : Int) := by omega
      rw [List.take_length] at H2
      have HML := Lib.hid (Sk.puts_len L L.length (Nat.le_refl _))
      rw [List.take_length] at HML
      have HNE : Hid (∀ j x, L[j]? = some x → x.row ≠ [] → Sk.get Sk.kd ((Sk.puts L).map Sk.E.d) (Sk.ke x) = some (Sk.nw L x j (L.length - j)).d) := Lib.hid fun j x hx hne => Sk.get_newest hx hne
      generalize hMM : (Sk.puts L).map Sk.E.d = M at H2 HNE
      have HM4 : Hid (M.length ≤ 400) := Lib.hid (by rw [← hMM, List.length_map]; have := HLL.out; have := HML.out; omega)
      clear hj hjl HNN HML hMM
      obtain ⟨S, h1, h4⟩ := H2.out
      have HP := Lib.hid h1
      have HB4 := Lib.hid h4
      clear h1 h4
      gi_wp2_with (first
        | (obtain ⟨w8n, hw8n⟩ : ∃ W, W = (wr.alloc (.cells #[.int .i64 0] 3)).alloc (.cells #[.bool false, .int .i64 0, .string ⟨#[]⟩] 25) := ⟨_, rfl⟩
           have HX8 : Hid (Below wr.heap.size wr w8n ∧ w8n.heap.size = wr.heap.size + 2 ∧ w8n.heap[wr.heap.size]? = some (.cells #[.int .i64 0] 3 (0, 0)) ∧ w8n.heap[wr.heap.size + 1]? = some (.cells #[.bool false, .int .i64 0, .string ⟨#[]⟩] 25 (0, 0))) := Lib.hid (by
             obtain ⟨wq, hwq⟩ : ∃ W, W = wr.alloc (.cells #[.int .i64 0] 3) := ⟨_, rfl⟩
             rw [← hwq] at hw8n
             have s1 : wq.heap.size = wr.heap.size + 1 := by rw [hwq]; simp
             have b1 : Below wr.heap.size wr wq := by rw [hwq]; exact (Below.refl _ wr).alloc (Nat.le_refl _) _
             have b2 : Below wq.heap.size wq w8n := by rw [hw8n]; exact (Below.refl _ wq).alloc (Nat.le_refl _) _
             refine ⟨b1.trans (b2.mono b1.size), by rw [hw8n, World.size_alloc]; omega, (b2.block _ (by omega)).trans (by rw [hwq]; exact heap_alloc_new wr _), by rw [hw8n, ← s1]; exact heap_alloc_new wq _⟩)
           rw [← hw8n]; clear hw8n
           refine ⟨trivial, ?_⟩; gi_at_call 20; refine (callsIn_wide.2 (Sk.all_c (some ⟨p, 0, none⟩) w8n.heap.size rfl)).mono ?_; rintro e w9 ⟨rfl, c9, g9⟩))
      have HX9 : Hid (Below wr.heap.size wr w9 ∧ wr.heap.size + 1 < w9.heap.size ∧ w9.heap[wr.heap.size]? = some (.cells #[.int .i64 0] 3 (0, 0)) ∧ w9.heap[wr.heap.size + 1]? = some (.cells #[.bool false, .int .i64 0, .string ⟨#[]⟩] 25 (0, 0))) := Lib.hid (by
        have hs9 := g9.size
        have s1 := HX8.out.2.1
        exact ⟨HX8.out.1.trans (g9.mono HX8.out.1.size), by omega, (g9.block _ (by omega)).trans HX8.out.2.2.1, (g9.block _ (by omega)).trans HX8.out.2.2.2⟩)
      have HSEQ := Lib.hid ((HP.out.later HX9.out.1).all HP.out.lt HX9.out.1.size c9)
      have HASC := Lib.hid HP.out.asc
      have HZZ := Lib.hid HP.out.z
      have HZZ := Lib.hid HP.out.z
      have HBW : Hid (∀ W, Below wr.heap.size w9 W → W.heap[w.heap.size]? = some (.cells #[.bool false] 4 (0, 0)) ∧ Below w.heap.size w W) := Lib.hid fun W g => HC.out W (HB4.out.trans ((HX9.out.1.trans g).mono HB4.out.size))
      have HOW : Hid (∀ W, Below wr.heap.size w9 W → Sk.One wb W p M) := Lib.hid fun W g => H2.out.later (HX9.out.1.trans g)
      have HLE : Hid (w.heap.size ≤ w9.heap.size) := Lib.hid (HBW.out w9 (Below.refl _ _)).2.size
      have HN6 : Hid (w.heap.size < wr.heap.size) := Lib.hid (by have := HSB.out; have := HB4.out.size; omega)
      obtain ⟨n6, hn6⟩ : ∃ m, m = wr.heap.size := ⟨_, rfl⟩
      have HX9 : Hid (Below wr.heap.size wr w9 ∧ n6 < w9.heap.size ∧ (n6 + 1) < w9.heap.size ∧ wr.heap.size ≤ n6 ∧ wr.heap.size ≤ (n6 + 1) ∧ n6 ≠ (n6 + 1) ∧ w9.heap[n6]? = some (.cells #[.int .i64 0] 3 (0, 0)) ∧ w9.heap[(n6 + 1)]? = some (.cells #[.bool false, .int .i64 0, .string ⟨#[]⟩] 25 (0, 0))) := Lib.hid (by
        rw [hn6]
        obtain ⟨h1, h2, h3, h4⟩ := HX9.out
        exact ⟨h1, by omega, by omega, by omega, by omega, by omega, h3, h4⟩)
      have HN6 : Hid (w.heap.size < n6) := Lib.hid (by rw [hn6]; exact HN6.out)
      rw [← hn6]
      have HN7 := Lib.hid hn6
      clear hn6 c9 g9 HX8 HP HB4 HC H2 HTB
      refine Sk.range_wa (gf := 34) rfl (enters_of Tryd.func34 (by kernel_rfl) rfl)
        HSEQ.out (Below.refl _ _) HX9.out.1.size (fun x args W he => by obtain ⟨u, rfl, _⟩ := he; rfl)
        (fun s W => Below wr.heap.size w9 W ∧ W.heap[n6]? = some (.cells #[.int .i64 (s.1.length : Int)] 3 (0, 0)) ∧ W.heap[(n6 + 1)]? = some (.cells #[.bool (Sk.lv s.1).null, .int .i64 (Sk.lv s.1).n, .string (Sk.lv s.1).s] 25 (0, 0)))
        (fun c s W => False)
        ?own ?ownx ⟨Below.refl _ _, HX9.out.2.2.2.2.2.2.1, HX9.out.2.2.2.2.2.2.2⟩
        (fun T s x a' W => ∃ (bx : Nat) (ua : Option Addr) (cu : Nat), a' = { tmps := (T.setIfInBounds 35 (.agg #[.bool x.gone, .slice ua x.row.length cu])).setIfInBounds 9 (.pointer (some ⟨bx, 0, none⟩)), defers := [] } ∧ w9.heap.size ≤ bx ∧ W.heap[bx]? = some (.cells #[.bool x.gone, .slice ua x.row.length cu] 37 (0, 0)) ∧
          (Sk.Rw wr.heap.size W (.slice ua x.row.length cu) x.row ∧ x.row ≠ [] ∧ (∀ v ∈ x.row, Kn.Z v)) ∧ Below wr.heap.size w9 W ∧ W.heap[n6]? = some (.cells #[.int .i64 (s.1.length : Int)] 3 (0, 0)) ∧ W.heap[(n6 + 1)]? = some (.cells #[.bool (Sk.lv s.1).null, .int .i64 (Sk.lv s.1).n, .string (Sk.lv s.1).s] 25 (0, 0)))
        ?ownA ?assign ?body ?done ?stop
      case own =>
        rintro s A' B' row ⟨h1, h3, h4⟩ hg hr
        exact ⟨h1.grown hg (by have := h1.size; have := HX9.out.1.size; omega) fun k e => by have := (hr k e).1; have := HX9.out.1.size; omega, Sk.blk_kept h3 hg fun r e => (hr r e).2, Sk.blk_kept h4 hg fun r e => (hr r e).2⟩
      case ownx =>
        rintro c s A' B' row h0 hg hr
        exact h0
      case ownA =>
        rintro s x a' u A' B' row ⟨bx, ua, cu, h0, hbx, hb, ⟨he, he2⟩, h1, h3, h4⟩ hg hr
        exact ⟨bx, ua, cu, h0, hbx, Sk.blk_kept hb hg fun r e => (hr r e).2, ⟨Sk.Rw.own _ _ _ _ () _ _ row he hg hr, he2⟩, h1.grown hg (by have := h1.size; have := HX9.out.1.size; omega) fun k e => by have := (hr k e).1; have := HX9.out.1.size; omega, Sk.blk_kept h3 hg fun r e => (hr r e).2, Sk.blk_kept h4 hg fun r e => (hr r e).2⟩
      case assign =>
        rintro l pre O x args W hI ⟨u, rfl, hu, hne, hz, hl⟩ hpx hbW
        obtain ⟨ua, cu, rfl⟩ : ∃ ua cu, u = .slice ua x.row.length cu := by
          rcases hu.form with ⟨e, e0⟩ | ⟨g, c, e, _⟩
          · exact absurd e0 hne
          · exact ⟨_, c, e⟩
        have HI := Lib.hid hI
        have HU := Lib.hid (And.intro hu (And.intro hne hz))
        have HW8 : Hid (w9.heap.size ≤ W.heap.size) := Lib.hid hbW.size
        clear hI hu hne hz hl hpx hbW
        gi_wp2
        have ha : Below W.heap.size W (W.alloc (.cells #[.bool x.gone, .slice ua x.row.length cu] 37)) := (Below.refl _ W).alloc (Nat.le_refl _) _
        have hlt : ∀ b o, W.heap[b]? = some o → b < W.heap.size := fun b o h => (Array.getElem?_eq_some_iff.1 h).1
        refine ⟨ha, W.heap.size, ua, cu, ⟨rfl, rfl, rfl⟩, HW8.out, heap_alloc_new W _, ⟨HU.out.1.kept ha, HU.out.2⟩, HI.out.1.trans (ha.mono (Nat.le_trans HX9.out.1.size HW8.out)), (ha.block _ (hlt _ _ HI.out.2.1)).trans HI.out.2.1, (ha.block _ (hlt _ _ HI.out.2.2)).trans HI.out.2.2⟩
      case body =>
        rintro l pre O x a' W hl hlr ⟨bx, ua, cu, rfl, hbx, hbk, ⟨hu, hne, hz⟩, h1, h3, h4⟩ hpx hbW
        simp only [List.setIfInBounds_toArray, List.set_cons_succ, List.set_cons_zero]
        obtain ⟨k, r, hkr⟩ : ∃ k r, x.row = k :: r := by
          cases hxr : x.row with
          | nil => exact absurd hxr hne
          | cons k r => exact ⟨k, r, rfl⟩
        obtain ⟨g, cg, hv, hg, hgs, hkey⟩ := hu.key hkr
        simp only [Value.slice.injEq, true_and] at hv
        obtain ⟨rfl, rfl⟩ := hv
        have hx : M[pre.length]? = some x := by
          obtain ⟨t, ht⟩ := hpx
          rw [← ht]; simp
        have hpl : pre.length < M.length := (List.getElem?_eq_some_iff.1 hx).1
        have HKD := Lib.hid (Sk.kd_row hkr)
        have HZK : Hid (Kn.Z k) := Lib.hid (hz k (by rw [hkr]; exact List.mem_cons_self))
        -- the last key lies ahead
        have HAH : Hid (pre ≠ [] → Kn.Z (Sk.lv pre) ∧ Kn.cmp (Sk.lv pre) k < 0) := Lib.hid fun hne => by
          obtain ⟨q, d, rfl⟩ : ∃ q d, pre = q ++ [d] := ⟨pre.dropLast, pre.getLast hne, (List.dropLast_concat_getLast hne).symm⟩
          have hd : M[q.length]? = some d := by
            obtain ⟨t, ht⟩ := hpx
            rw [← ht]; simp
          rw [Sk.lv_snoc, ← HKD.out]
          refine ⟨HZZ.out d (List.mem_of_getElem? hd), ?_⟩
          exact Sk.asc_behind HASC.out.1 (i := q.length) (j := (q ++ [d]).length) (by simp) hd hx
        have hF4 := HM4.out
        have hw1 : IntKind.i64.wrap ((pre.length : Int) + 1) = (pre.length : Int) + 1 := by rw [IntKind.wrap_i64]; omega
        have n0 : W.drew.cell? ⟨n6, 0, none⟩ = some (.int .i64 (pre.length : Int)) := Sk.cell_blk (W := W.drew) h3
        have l0 : W.drew.cell? ⟨(n6 + 1), 0, none⟩ = some (.bool (Sk.lv pre).null) := by rw [show W.drew.cell? ⟨(n6 + 1), 0, none⟩ = W.cell? ⟨(n6 + 1), 0, none⟩ from rfl, cell_of_row _ _ _ _ _ _ h4]; rfl
        have l1 : W.drew.cell? ⟨(n6 + 1), 1, none⟩ = some (.int .i64 (Sk.lv pre).n) := by rw [show W.drew.cell? ⟨(n6 + 1), 1, none⟩ = W.cell? ⟨(n6 + 1), 1, none⟩ from rfl, cell_of_row _ _ _ _ _ _ h4]; rfl
        have l2 : W.drew.cell? ⟨(n6 + 1), 2, none⟩ = some (.string (Sk.lv pre).s) := by rw [show W.drew.cell? ⟨(n6 + 1), 2, none⟩ = W.cell? ⟨(n6 + 1), 2, none⟩ from rfl, cell_of_row _ _ _ _ _ _ h4]; rfl
        have b1 : W.drew.cell? ⟨bx, 1, none⟩ = some (.slice (some ⟨g, 0, none⟩) x.row.length cu) := by rw [show W.drew.cell? ⟨bx, 1, none⟩ = W.cell? ⟨bx, 1, none⟩ from rfl, cell_of_row _ _ _ _ _ _ hbk]; rfl
        obtain ⟨k0, k1, k2⟩ : Kn.At W.drew g 0 k := hkey.later (Below.refl _ W).drew
        have HI := Lib.hid (And.intro h1 (And.intro h3 h4))
        have HGS : Hid (bx < W.heap.size ∧ g < W.heap.size ∧ n6 < W.heap.size ∧ (n6 + 1) < W.heap.size) := Lib.hid ⟨(Array.getElem?_eq_some_iff.1 hbk).1, hgs, (Array.getElem?_eq_some_iff.1 h3).1, (Array.getElem?_eq_some_iff.1 h4).1⟩
        have hyl : 0 < x.row.length := by rw [hkr]; simp
        have hyli : (0 : Int) < (x.row.length : Int) := by omega
        have hyln : ¬ x.row.length = 0 := by omega
        have hylb : ((x.row.length : Int) == 0) = false := by simp; omega
        have hmx : Tryd.prog.follows .mixedOrders = true := by kernel_rfl
        have HXR : Hid (Sk.kd x = k) := HKD
        obtain ⟨kn, ki, ks⟩ := k
        generalize x.row.length = yl at b1 hyl hyli hyln hylb
        clear hl hlr hbx hbk hu hne hz h1 h3 h4 hpx hbW hkey hg hgs hkr hx
        have HKP : Hid (∀ W', Below W.drew.heap.size W.drew W' → W'.cell? ⟨bx, 1, none⟩ = some (.slice (some ⟨g, 0, none⟩) yl cu) ∧ W'.cell? ⟨n6, 0, none⟩ = some (.int .i64 (pre.length : Int)) ∧ (W'.cell? ⟨(n6 + 1), 0, none⟩ = some (.bool (Sk.lv pre).null) ∧ W'.cell? ⟨(n6 + 1), 1, none⟩ = some (.int .i64 (Sk.lv pre).n) ∧ W'.cell? ⟨(n6 + 1), 2, none⟩ = some (.string (Sk.lv pre).s)) ∧ W'.cell? ⟨g, 0, none⟩ = some (.bool kn) ∧ W'.cell? ⟨g, 1, none⟩ = some (.int .i64 ki) ∧ W'.cell? ⟨g, 2, none⟩ = some (.string ks)) := Lib.hid fun W' g' => by
          have hs := HGS.out
          exact ⟨(g'.cell (p := ⟨bx, 1, none⟩) hs.1).trans b1, (g'.cell (p := ⟨n6, 0, none⟩) hs.2.2.1).trans n0, ⟨(g'.cell (p := ⟨(n6 + 1), 0, none⟩) hs.2.2.2).trans l0, (g'.cell (p := ⟨(n6 + 1), 1, none⟩) hs.2.2.2).trans l1, (g'.cell (p := ⟨(n6 + 1), 2, none⟩) hs.2.2.2).trans l2⟩, (g'.cell (p := ⟨g, 0, none⟩) hs.2.1).trans k0, (g'.cell (p := ⟨g, 1, none⟩) hs.2.1).trans k1, (g'.cell (p := ⟨g, 2, none⟩) hs.2.1).trans k2⟩
        clear n0 l0 l1 l2 b1 k0 k1 k2
        gi_upto_region 13 with (fail)
        gi_cut [52] from 36 (fun s wx => s = .bool false ∧ Below W.heap.size W wx)
        case first =>
          by_cases hp : pre = []
          · have HK0 : Hid (∀ W', Below W.drew.heap.size W.drew W' → (fun wx : World => wx.cell? ⟨bx, 1, none⟩ = some (.slice (some ⟨g, 0, none⟩) yl cu) ∧ wx.cell? ⟨n6, 0, none⟩ = some (.int .i64 0) ∧ (wx.cell? ⟨(n6 + 1), 0, none⟩ = some (.bool (Sk.lv []).null) ∧ wx.cell? ⟨(n6 + 1), 1, none⟩ = some (.int .i64 (Sk.lv []).n) ∧ wx.cell? ⟨(n6 + 1), 2, none⟩ = some (.string (Sk.lv []).s)) ∧ wx.cell? ⟨g, 0, none⟩ = some (.bool kn) ∧ wx.cell? ⟨g, 1, none⟩ = some (.int .i64 ki) ∧ wx.cell? ⟨g, 2, none⟩ = some (.string ks)) W') := Lib.hid fun W' g' => by
              have := HKP.out W' g'
              rw [hp] at this
              exact this
            clear HKP HAH hp
            refine Sk.region_round (S := fun wx => wx.cell? ⟨bx, 1, none⟩ = some (.slice (some ⟨g, 0, none⟩) yl cu) ∧ wx.cell? ⟨n6, 0, none⟩ = some (.int .i64 0) ∧ (wx.cell? ⟨(n6 + 1), 0, none⟩ = some (.bool (Sk.lv []).null) ∧ wx.cell? ⟨(n6 + 1), 1, none⟩ = some (.int .i64 (Sk.lv []).n) ∧ wx.cell? ⟨(n6 + 1), 2, none⟩ = some (.string (Sk.lv []).s)) ∧ wx.cell? ⟨g, 0, none⟩ = some (.bool kn) ∧ wx.cell? ⟨g, 1, none⟩ = some (.int .i64 ki) ∧ wx.cell? ⟨g, 2, none⟩ = some (.string ks)) (by kernel_rfl) (by kernel_rfl) (HK0.out _ (Below.refl _ _)) (fun hHeld => ?_)
            refine wpAnyH_take (i := 0) (v := ?_) rfl (by kernel_rfl) (by kernel_rfl) (by kernel_rfl) (fun _ _ _ h => h) (Or.inl ⟨by rfl, ?_⟩) (by assumption) ?_
            rotate_left
            · (intro wx hSw; (try dsimp only at hSw); go_simp; (try with_reducible rfl))
            try simp only [Act.put, List.getElem_toArray, List.getElem_cons_zero, List.getElem_cons_succ, List.setIfInBounds_toArray, List.set_cons_zero, List.set_cons_succ]
            refine wpAnyH_take (i := 1) (v := ?_) rfl (by kernel_rfl) (by kernel_rfl) (by kernel_rfl) (fun _ _ _ h => h) (Or.inl ⟨by rfl, ?_⟩) (by assumption) ?_
            rotate_left
            · (intro wx hSw; (try dsimp only at hSw); go_simp; (try with_reducible rfl))
            try simp only [Act.put, List.getElem_toArray, List.getElem_cons_zero, List.getElem_cons_succ, List.setIfInBounds_toArray, List.set_cons_zero, List.set_cons_succ]
            refine wpAnyH_take (i := 2) (v := ?_) rfl (by kernel_rfl) (by kernel_rfl) (by kernel_rfl) (fun _ _ _ h => h) (Or.inl ⟨by rfl, ?_⟩) (by assumption) ?_
            rotate_left
            · (intro wx hSw; (try dsimp only at hSw); go_simp; (try with_reducible rfl))
            try simp only [Act.put, List.getElem_toArray, List.getElem_cons_zero, List.getElem_cons_succ, List.setIfInBounds_toArray, List.set_cons_zero, List.set_cons_succ]
            refine wpAnyH_take (i := 3) (v := ?_) rfl (by kernel_rfl) (by kernel_rfl) (by kernel_rfl) (fun _ _ _ h => h) (Or.inl ⟨by rfl, ?_⟩) (by assumption) ?_
            rotate_left
            · (intro wx hSw; (try dsimp only at hSw); go_simp; (try with_reducible rfl))
            try simp only [Act.put, List.getElem_toArray, List.getElem_cons_zero, List.getElem_cons_succ, List.setIfInBounds_toArray, List.set_cons_zero, List.set_cons_succ]
            refine wpAnyH_take (i := 4) (v := ?_) rfl (by kernel_rfl) (by kernel_rfl) (by kernel_rfl) (fun _ _ _ h => h) (Or.inl ⟨by rfl, ?_⟩) (by assumption) ?_
            rotate_left
            · (intro wx hSw; (try dsimp only at hSw); go_simp; (try with_reducible rfl))
            try simp only [Act.put, List.getElem_toArray, List.getElem_cons_zero, List.getElem_cons_succ, List.setIfInBounds_toArray, List.set_cons_zero, List.set_cons_succ]
            refine wpAnyH_take (i := 5) (v := ?_) rfl (by kernel_rfl) (by kernel_rfl) (by kernel_rfl) (fun _ _ _ h => h) (Or.inl ⟨by rfl, ?_⟩) (by assumption) ?_
            rotate_left
            · (intro wx hSw; (try dsimp only at hSw); go_simp; (try with_reducible rfl))
            try simp only [Act.put, List.getElem_toArray, List.getElem_cons_zero, List.getElem_cons_succ, List.setIfInBounds_toArray, List.set_cons_zero, List.set_cons_succ]
            refine wpAnyH_take (i := 6) (v := ?_) rfl (by kernel_rfl) (by kernel_rfl) (by kernel_rfl) (fun _ _ _ h => h) (Or.inl ⟨by rfl, ?_⟩) (by assumption) ?_
            rotate_left
            · (intro wx hSw; (try dsimp only at hSw); go_simp; (try with_reducible rfl))
            try simp only [Act.put, List.getElem_toArray, List.getElem_cons_zero, List.getElem_cons_succ, List.setIfInBounds_toArray, List.set_cons_zero, List.set_cons_succ]
            refine wpAnyH_take (i := 7) (v := ?_) rfl (by kernel_rfl) (by kernel_rfl) (by kernel_rfl) (fun _ _ _ h => h) (Or.inl ⟨by rfl, ?_⟩) (by assumption) ?_
            rotate_left
            · (intro wx hSw; (try dsimp only at hSw); go_simp; (try with_reducible rfl))
            try simp only [Act.put, List.getElem_toArray, List.getElem_cons_zero, List.getElem_cons_succ, List.setIfInBounds_toArray, List.set_cons_zero, List.set_cons_succ]
            refine wpAnyH_take (i := 8) (v := undef) rfl (by kernel_rfl) (by kernel_rfl) (by kernel_rfl) (fun _ _ _ h => h) (Or.inr ⟨by rfl, rfl⟩) (by assumption) ?_
            try simp only [Act.put, List.getElem_toArray, List.getElem_cons_zero, List.getElem_cons_succ, List.setIfInBounds_toArray, List.set_cons_zero, List.set_cons_succ]
            refine wpAnyH_take (i := 9) (v := undef) rfl (by kernel_rfl) (by kernel_rfl) (by kernel_rfl) (fun _ _ _ h => h) (Or.inr ⟨by rfl, rfl⟩) (by assumption) ?_
            try simp only [Act.put, List.getElem_toArray, List.getElem_cons_zero, List.getElem_cons_succ, List.setIfInBounds_toArray, List.set_cons_zero, List.set_cons_succ]
            refine wpAnyH_take (i := 10) (v := undef) rfl (by kernel_rfl) (by kernel_rfl) (by kernel_rfl) (fun _ _ _ h => h) (Or.inr ⟨by rfl, rfl⟩) (by assumption) ?_
            try simp only [Act.put, List.getElem_toArray, List.getElem_cons_zero, List.getElem_cons_succ, List.setIfInBounds_toArray, List.set_cons_zero, List.set_cons_succ]
            refine wpAnyH_take (i := 11) (v := undef) rfl (by kernel_rfl) (by kernel_rfl) (by kernel_rfl) (fun _ _ _ h => h) (Or.inr ⟨by rfl, rfl⟩) (by assumption) ?_
            try simp only [Act.put, List.getElem_toArray, List.getElem_cons_zero, List.getElem_cons_succ, List.setIfInBounds_toArray, List.set_cons_zero, List.set_cons_succ]
            refine wpAnyH_take (i := 12) (v := undef) rfl (by kernel_rfl) (by kernel_rfl) (by kernel_rfl) (fun _ _ _ h => h) (Or.inr ⟨by rfl, rfl⟩) (by assumption) ?_
            try simp only [Act.put, List.getElem_toArray, List.getElem_cons_zero, List.getElem_cons_succ, List.setIfInBounds_toArray, List.set_cons_zero, List.set_cons_succ]
            refine wpAnyH_take (i := 13) (v := undef) rfl (by kernel_rfl) (by kernel_rfl) (by kernel_rfl) (fun _ _ _ h => h) (Or.inr ⟨by rfl, rfl⟩) (by assumption) ?_
            try simp only [Act.put, List.getElem_toArray, List.getElem_cons_zero, List.getElem_cons_succ, List.setIfInBounds_toArray, List.set_cons_zero, List.set_cons_succ]
            refine wpAnyH_take (i := 14) (v := undef) rfl (by kernel_rfl) (by kernel_rfl) (by kernel_rfl) (fun _ _ _ h => h) (Or.inr ⟨by rfl, rfl⟩) (by assumption) ?_
            try simp only [Act.put, List.getElem_toArray, List.getElem_cons_zero, List.getElem_cons_succ, List.setIfInBounds_toArray, List.set_cons_zero, List.set_cons_succ]
            refine wpAnyH_take (i := 15) (v := ?_) rfl (by kernel_rfl) (by kernel_rfl) (by kernel_rfl) (fun _ _ _ h => h) (Or.inl ⟨by rfl, ?_⟩) (by assumption) ?_
            rotate_left
            · (intro wx hSw; (try dsimp only at hSw); go_simp; (try with_reducible rfl))
            try simp only [Act.put, List.getElem_toArray, List.getElem_cons_zero, List.getElem_cons_succ, List.setIfInBounds_toArray, List.set_cons_zero, List.set_cons_succ]
            refine wpAnyH_take (i := 16) (v := ?_) rfl (by kernel_rfl) (by kernel_rfl) (by kernel_rfl) (fun _ _ _ h => h) (Or.inl ⟨by rfl, ?_⟩) (by assumption) ?_
            rotate_left
            · (intro wx hSw; (try dsimp only at hSw); go_simp; (try with_reducible rfl))
            try simp only [Act.put, List.getElem_toArray, List.getElem_cons_zero, List.getElem_cons_succ, List.setIfInBounds_toArray, List.set_cons_zero, List.set_cons_succ]
            refine wpAnyH_done (by kernel_rfl) ?_ _
            refine Sk.Calm.normal ?_
            gi_wp2_with (fail)
            gi_meet
            exact ⟨rfl, (Below.refl _ W).drew⟩
          · have hp0 : 0 < pre.length := List.length_pos_iff.2 hp
            have hp1 : (0 : Int) < (pre.length : Int) := by omega
            have CA : Hid (∀ W', Calls Tryd.prog 23 #[.agg #[.bool (Sk.lv pre).null, .int .i64 (Sk.lv pre).n, .string (Sk.lv pre).s], .agg #[.bool kn, .int .i64 ki, .string ks]] W' fun e w' => e = .returned (.bool true) ∧ Below W'.heap.size W' w') := Lib.hid fun W' => by
              have h1 := Kn.rAhead_c (Sk.lv pre) ⟨kn, ki, ks⟩ (HAH.out hp).1 HZK.out W'
              rw [show decide (Kn.cmp (Sk.lv pre) ⟨kn, ki, ks⟩ < 0) = true from decide_eq_true (HAH.out hp).2] at h1
              exact h1
            generalize (Sk.lv pre).null = ln at HKP CA
            generalize (Sk.lv pre).n = li at HKP CA
            generalize (Sk.lv pre).s = ls at HKP CA
            clear HAH hp
            generalize pre.length = pl at HKP hp0 hp1
            refine Sk.region_round (S := fun wx => wx.cell? ⟨bx, 1, none⟩ = some (.slice (some ⟨g, 0, none⟩) yl cu) ∧ wx.cell? ⟨n6, 0, none⟩ = some (.int .i64 (pl : Int)) ∧ (wx.cell? ⟨(n6 + 1), 0, none⟩ = some (.bool ln) ∧ wx.cell? ⟨(n6 + 1), 1, none⟩ = some (.int .i64 li) ∧ wx.cell? ⟨(n6 + 1), 2, none⟩ = some (.string ls)) ∧ wx.cell? ⟨g, 0, none⟩ = some (.bool kn) ∧ wx.cell? ⟨g, 1, none⟩ = some (.int .i64 ki) ∧ wx.cell? ⟨g, 2, none⟩ = some (.string ks)) (by kernel_rfl) (by kernel_rfl) (HKP.out _ (Below.refl _ _)) (fun hHeld => ?_)
            refine wpAnyH_take (i := 0) (v := ?_) rfl (by kernel_rfl) (by kernel_rfl) (by kernel_rfl) (fun _ _ _ h => h) (Or.inl ⟨by rfl, ?_⟩) (by assumption) ?_
            rotate_left
            · (intro wx hSw; (try dsimp only at hSw); go_simp; (try with_reducible rfl))
            try simp only [Act.put, List.getElem_toArray, List.getElem_cons_zero, List.getElem_cons_succ, List.setIfInBounds_toArray, List.set_cons_zero, List.set_cons_succ]
            refine wpAnyH_take (i := 1) (v := ?_) rfl (by kernel_rfl) (by kernel_rfl) (by kernel_rfl) (fun _ _ _ h => h) (Or.inl ⟨by rfl, ?_⟩) (by assumption) ?_
            rotate_left
            · (intro wx hSw; (try dsimp only at hSw); go_simp; (try with_reducible rfl))
            try simp only [Act.put, List.getElem_toArray, List.getElem_cons_zero, List.getElem_cons_succ, List.setIfInBounds_toArray, List.set_cons_zero, List.set_cons_succ]
            refine wpAnyH_take (i := 2) (v := ?_) rfl (by kernel_rfl) (by kernel_rfl) (by kernel_rfl) (fun _ _ _ h => h) (Or.inl ⟨by rfl, ?_⟩) (by assumption) ?_
            rotate_left
            · (intro wx hSw; (try dsimp only at hSw); go_simp; (try with_reducible rfl))
            try simp only [Act.put, List.getElem_toArray, List.getElem_cons_zero, List.getElem_cons_succ, List.setIfInBounds_toArray, List.set_cons_zero, List.set_cons_succ]
            refine wpAnyH_take (i := 3) (v := ?_) rfl (by kernel_rfl) (by kernel_rfl) (by kernel_rfl) (fun _ _ _ h => h) (Or.inl ⟨by rfl, ?_⟩) (by assumption) ?_
            rotate_left
            · (intro wx hSw; (try dsimp only at hSw); go_simp; (try with_reducible rfl))
            try simp only [Act.put, List.getElem_toArray, List.getElem_cons_zero, List.getElem_cons_succ, List.setIfInBounds_toArray, List.set_cons_zero, List.set_cons_succ]
            refine wpAnyH_take (i := 4) (v := ?_) rfl (by kernel_rfl) (by kernel_rfl) (by kernel_rfl) (fun _ _ _ h => h) (Or.inl ⟨by rfl, ?_⟩) (by assumption) ?_
            rotate_left
            · (intro wx hSw; (try dsimp only at hSw); go_simp; (try with_reducible rfl))
            try simp only [Act.put, List.getElem_toArray, List.getElem_cons_zero, List.getElem_cons_succ, List.setIfInBounds_toArray, List.set_cons_zero, List.set_cons_succ]
            refine wpAnyH_take (i := 5) (v := ?_) rfl (by kernel_rfl) (by kernel_rfl) (by kernel_rfl) (fun _ _ _ h => h) (Or.inl ⟨by rfl, ?_⟩) (by assumption) ?_
            rotate_left
            · (intro wx hSw; (try dsimp only at hSw); go_simp; (try with_reducible rfl))
            try simp only [Act.put, List.getElem_toArray, List.getElem_cons_zero, List.getElem_cons_succ, List.setIfInBounds_toArray, List.set_cons_zero, List.set_cons_succ]
            refine wpAnyH_take (i := 6) (v := ?_) rfl (by kernel_rfl) (by kernel_rfl) (by kernel_rfl) (fun _ _ _ h => h) (Or.inl ⟨by rfl, ?_⟩) (by assumption) ?_
            rotate_left
            · (intro wx hSw; (try dsimp only at hSw); go_simp; (try with_reducible rfl))
            try simp only [Act.put, List.getElem_toArray, List.getElem_cons_zero, List.getElem_cons_succ, List.setIfInBounds_toArray, List.set_cons_zero, List.set_cons_succ]
            refine wpAnyH_take (i := 7) (v := ?_) rfl (by kernel_rfl) (by kernel_rfl) (by kernel_rfl) (fun _ _ _ h => h) (Or.inl ⟨by rfl, ?_⟩) (by assumption) ?_
            rotate_left
            · (intro wx hSw; (try dsimp only at hSw); go_simp; (try with_reducible rfl))
            try simp only [Act.put, List.getElem_toArray, List.getElem_cons_zero, List.getElem_cons_succ, List.setIfInBounds_toArray, List.set_cons_zero, List.set_cons_succ]
            refine wpAnyH_take (i := 8) (v := ?_) rfl (by kernel_rfl) (by kernel_rfl) (by kernel_rfl) (fun _ _ _ h => h) (Or.inl ⟨by rfl, ?_⟩) (by assumption) ?_
            rotate_left
            · (intro wx hSw; (try dsimp only at hSw); go_simp; (try with_reducible rfl))
            try simp only [Act.put, List.getElem_toArray, List.getElem_cons_zero, List.getElem_cons_succ, List.setIfInBounds_toArray, List.set_cons_zero, List.set_cons_succ]
            refine wpAnyH_take (i := 9) (v := ?_) rfl (by kernel_rfl) (by kernel_rfl) (by kernel_rfl) (fun _ _ _ h => h) (Or.inl ⟨by rfl, ?_⟩) (by assumption) ?_
            rotate_left
            · (intro wx hSw; (try dsimp only at hSw); go_simp; (try with_reducible rfl))
            try simp only [Act.put, List.getElem_toArray, List.getElem_cons_zero, List.getElem_cons_succ, List.setIfInBounds_toArray, List.set_cons_zero, List.set_cons_succ]
            refine wpAnyH_take (i := 10) (v := ?_) rfl (by kernel_rfl) (by kernel_rfl) (by kernel_rfl) (fun _ _ _ h => h) (Or.inl ⟨by rfl, ?_⟩) (by assumption) ?_
            rotate_left
            · (intro wx hSw; (try dsimp only at hSw); go_simp; (try with_reducible rfl))
            try simp only [Act.put, List.getElem_toArray, List.getElem_cons_zero, List.getElem_cons_succ, List.setIfInBounds_toArray, List.set_cons_zero, List.set_cons_succ]
            refine wpAnyH_take (i := 11) (v := ?_) rfl (by kernel_rfl) (by kernel_rfl) (by kernel_rfl) (fun _ _ _ h => h) (Or.inl ⟨by rfl, ?_⟩) (by assumption) ?_
            rotate_left
            · (intro wx hSw; (try dsimp only at hSw); go_simp; (try with_reducible rfl))
            try simp only [Act.put, List.getElem_toArray, List.getElem_cons_zero, List.getElem_cons_succ, List.setIfInBounds_toArray, List.set_cons_zero, List.set_cons_succ]
            refine wpAnyH_take (i := 12) (v := ?_) rfl (by kernel_rfl) (by kernel_rfl) (by kernel_rfl) (fun _ _ _ h => h) (Or.inl ⟨by rfl, ?_⟩) (by assumption) ?_
            rotate_left
            · (intro wx hSw; (try dsimp only at hSw); go_simp; (try with_reducible rfl))
            try simp only [Act.put, List.getElem_toArray, List.getElem_cons_zero, List.getElem_cons_succ, List.setIfInBounds_toArray, List.set_cons_zero, List.set_cons_succ]
            refine Sk.held_one (i := 13) (o := ({ dst := some 49, op := Op.call { callee := Callee.value (Operand.func 23), args := #[Operand.tmp 44, Operand.tmp 48], argTypes := #[25, 25] }, type := 4, pos := "law.go:90", after := #[{ on := 8, ground := Ground.data }, { on := 12, ground := Ground.data }, { on := 7, ground := Ground.chain }, { on := 7, ground := Ground.guard }], guard := some (7, true) } : Oper)) (by kernel_rfl) rfl (fun K hK => ?_)
            go_simp
            go_at_call 23
            (with_reducible refine (CA.out _).mono ?_); rintro e w10 ⟨rfl, g10⟩
            go_wp2_with fail
            refine hK.out _ _ (HKP.out _ g10) (fun hHeld => ?_)
            clear hK K
            try simp only [Act.put, List.getElem_toArray, List.getElem_cons_zero, List.getElem_cons_succ, List.setIfInBounds_toArray, List.set_cons_zero, List.set_cons_succ]
            refine wpAnyH_take (i := 14) (v := ?_) rfl (by kernel_rfl) (by kernel_rfl) (by kernel_rfl) (fun _ _ _ h => h) (Or.inl ⟨by rfl, ?_⟩) (by assumption) ?_
            rotate_left
            · (intro wx hSw; (try dsimp only at hSw); go_simp; (try with_reducible rfl))
            try simp only [Act.put, List.getElem_toArray, List.getElem_cons_zero, List.getElem_cons_succ, List.setIfInBounds_toArray, List.set_cons_zero, List.set_cons_succ]
            refine wpAnyH_take (i := 15) (v := ?_) rfl (by kernel_rfl) (by kernel_rfl) (by kernel_rfl) (fun _ _ _ h => h) (Or.inl ⟨by rfl, ?_⟩) (by assumption) ?_
            rotate_left
            · (intro wx hSw; (try dsimp only at hSw); go_simp; (try with_reducible rfl))
            try simp only [Act.put, List.getElem_toArray, List.getElem_cons_zero, List.getElem_cons_succ, List.setIfInBounds_toArray, List.set_cons_zero, List.set_cons_succ]
            refine wpAnyH_take (i := 16) (v := ?_) rfl (by kernel_rfl) (by kernel_rfl) (by kernel_rfl) (fun _ _ _ h => h) (Or.inl ⟨by rfl, ?_⟩) (by assumption) ?_
            rotate_left
            · (intro wx hSw; (try dsimp only at hSw); go_simp; (try with_reducible rfl))
            try simp only [Act.put, List.getElem_toArray, List.getElem_cons_zero, List.getElem_cons_succ, List.setIfInBounds_toArray, List.set_cons_zero, List.set_cons_succ]
            refine wpAnyH_done (by kernel_rfl) ?_ _
            refine Sk.Calm.normal ?_
            gi_wp2_with (fail)
            gi_meet
            exact ⟨rfl, (Below.refl _ W).drew.trans g10⟩
        case rest =>
          obtain ⟨rfl, g10⟩ := hcut
          have g11 : Below W.drew.heap.size W.drew wc := ⟨g10.os, g10.tape, g10.output, g10.size, g10.block⟩
          obtain ⟨b1, n0, ⟨l0, l1, l2⟩, k0, k1, k2⟩ := HKP.out wc g11
          have hlt : ∀ b o, W.heap[b]? = some o → b < W.heap.size := fun b o h => (Array.getElem?_eq_some_iff.1 h).1
          have hi1 : Below wr.heap.size w9 wc := HI.out.1.trans (g10.mono (Nat.le_trans HX9.out.1.size HI.out.1.size))
          have hi3 := (g10.block _ (hlt _ _ HI.out.2.1)).trans HI.out.2.1
          have hi4 := (g10.block _ (hlt _ _ HI.out.2.2)).trans HI.out.2.2
          have f0 := frozen_of_row _ _ 0 _ _ hi4
          have f1 := frozen_of_row _ _ 1 _ _ hi4
          have f2 := frozen_of_row _ _ 2 _ _ hi4
          obtain ⟨w11, hw11⟩ : ∃ X, X = Sk.st wc (n6 + 1) 0 ⟨kn, ki, ks⟩ := ⟨_, rfl⟩
          have s3 : w11.heap[n6]? = some (.cells #[.int .i64 (pre.length : Int)] 3 (0, 0)) := by rw [hw11]; exact (Sk.st_heap wc (n6 + 1) 0 _ (by omega)).trans hi3
          have s4 : w11.heap[n6 + 1]? = some (.cells #[.bool kn, .int .i64 ki, .string ks] 25 (0, 0)) := by rw [hw11]; exact Sk.st_row ⟨kn, ki, ks⟩ hi4
          have n1 := Sk.cell_blk s3
          have f3 := frozen_of_row _ _ 0 _ _ s3
          obtain ⟨w12, hw12⟩ : ∃ X, X = w11.setCell ⟨n6, 0, none⟩ (.int .i64 ((pre.length : Int) + 1)) := ⟨_, rfl⟩
          have hb12 : Below wr.heap.size wc w12 := by
            have h1 : Below wr.heap.size wc w11 := by rw [hw11]; exact Sk.st_below HX9.out.2.2.2.2.1 _ _
            rw [hw12]
            exact h1.setCell (p := ⟨n6, 0, none⟩) (by show wr.heap.size ≤ n6; exact HX9.out.2.2.2.1) _
          have HR : Hid (Sk.Kp w9.heap.size O O W w12 ∧ Below wr.heap.size W w12 ∧ Below wr.heap.size w9 w12 ∧ w12.heap[n6]? = some (.cells #[.int .i64 (((pre ++ [x]).length : Nat) : Int)] 3 (0, 0)) ∧ w12.heap[n6 + 1]? = some (.cells #[.bool (Sk.lv (pre ++ [x])).null, .int .i64 (Sk.lv (pre ++ [x])).n, .string (Sk.lv (pre ++ [x])).s] 25 (0, 0))) := Lib.hid (by
            refine ⟨?_, (g10.mono (Nat.le_trans HX9.out.1.size HI.out.1.size)).trans hb12, hi1.trans hb12, ?_, ?_⟩
            · have h7 := HX9.out.2.2.1
              have h1 : Sk.Kp w9.heap.size O O wc w11 := by
                rw [hw11]
                exact ((Sk.Kp.set O wc (a := ⟨n6 + 1, 0, none⟩) (.inl h7) _).trans (Sk.Kp.set O _ (a := ⟨n6 + 1, 0 + 1, none⟩) (.inl h7) _)).trans (Sk.Kp.set O _ (a := ⟨n6 + 1, 0 + 2, none⟩) (.inl h7) _)
              rw [hw12]
              exact ((Sk.Kp.below g10).trans h1).trans (Sk.Kp.set O w11 (a := ⟨n6, 0, none⟩) (.inl HX9.out.2.1) _)
            · rw [hw12, List.length_append, List.length_cons, List.length_nil]
              exact Sk.one_set _ s3
            · rw [Sk.lv_snoc, HKD.out, hw12]
              exact (Below.heap_setCell _ _ _ _ (by show n6 + 1 ≠ n6; omega)).trans s4)
          have HW11 := Lib.hid hw11
          unfold Sk.st at HW11
          simp only [Nat.zero_add] at HW11
          clear hlt hi1 hi3 hi4 hb12 g10 g11 HI HAH HKP hw11 s3 s4
          gi_upto_region 16 with (fail)
          rw [← HW11.out]
          clear f0 f1 f2 b1 n0 k0 k1 k2 l0 l1 l2
          gi_wp2
          rw [← hw12]
          exact ⟨O, HR.out.1, HR.out.2.1, HR.out.2.2.1, HR.out.2.2.2.1, HR.out.2.2.2.2⟩
      case done =>
        rintro D O W hD ⟨h1, h3, h4⟩ hK
        obtain ⟨hr6, hb6⟩ := HBW.out W h1
        have HOD := Lib.hid (HOW.out W h1)
        have HD2 : Hid (∀ X, Below W.heap.size W X → X.heap[w.heap.size]? = some (.cells #[.bool false] 4 (0, 0)) ∧ X.heap[n6]? = some (.cells #[.int .i64 (M.length : Int)] 3 (0, 0)) ∧ X.heap[D]? = some (.deferred (some [])) ∧ Below w.heap.size w X) := Lib.hid fun X g =>
          ⟨(g.block _ (Array.getElem?_eq_some_iff.1 hr6).1).trans hr6, (g.block _ (Array.getElem?_eq_some_iff.1 h3).1).trans h3, (g.block _ (Array.getElem?_eq_some_iff.1 hK).1).trans hK, hb6.trans (g.mono hb6.size)⟩
        have HDW : Hid (w.heap.size ≤ D) := Lib.hid (Nat.le_trans HLE.out hD)
        clear h1 h3 h4 hr6 hb6 hK hD HBW HOW HSEQ HASC HZZ HX9 HLE HN7 HSB
        gi_wp2
        gi_loopw [10] (fun i X => ∃ j : Nat, j ≤ L.length ∧ i = .int .i64 j ∧ Below W.heap.size W X) (fun i _ => L.length - (intOf i).toNat)
        case atStart => exact ⟨0, Nat.zero_le _, rfl, Below.refl _ _⟩
        case round =>
          obtain ⟨j, hj, rfl, hB⟩ := hrel
          have HB := Lib.hid hB
          clear hB
          have hj0 : (0 : Int) ≤ (j : Int) := by omega
          by_cases hjl : j < L.length
          · have hji : (j : Int) < (L.length : Int) := by omega
            obtain ⟨x, hx⟩ : ∃ x, L[j]? = some x := ⟨_, List.getElem?_eq_getElem hjl⟩
            have hg := HD.out.got x (List.mem_of_getElem? hx)
            have hbw : Below wb.heap.size wb wr := HOD.out.below.trans (HB.out.mono HOD.out.below.size)
            obtain ⟨b, o, rfl, x0, x1⟩ := HD.out.at_ wr hbw j x hx
            have HLJ : Hid (L.length ≤ 400) := Lib.hid HLL.out
            have hw : IntKind.i64.wrap ((j : Int) + 1) = ((j + 1 : Nat) : Int) := by rw [IntKind.wrap_i64]; have := HLJ.out; omega
            by_cases hne : x.row = []
            · obtain ⟨ra, rc, hrv⟩ := hg.slice
              rw [hrv, hne, List.length_nil] at x1
              clear hx hg hbw hrv hne HLL HD
              gi_wp2
              exact ⟨⟨j + 1, by omega, by first | rfl | rw [hw], HB.out⟩, by simp [intOf]; omega⟩
            · obtain ⟨k, r, hkr⟩ : ∃ k r, x.row = k :: r := by
                cases hxr : x.row with
                | nil => exact absurd hxr hne
                | cons k r => exact ⟨k, r, rfl⟩
              obtain ⟨g, go, cg, hrv, hgl, hkey, hzk⟩ := hg.key hkr
              have HKX : Hid (∀ X, Below wb.heap.size wb X → Kn.At X g go k) := Lib.hid fun X gX => hkey.later gX
              have HKE : Hid (Sk.ke x = k) := Lib.hid (Sk.kd_row hkr)
              obtain ⟨y, hy⟩ : ∃ y, y = Sk.nw L x j (L.length - j) := ⟨_, rfl⟩
              have hym : y ∈ L := by rw [hy]; exact Sk.nw_mem (List.mem_of_getElem? hx) _
              have CG := (HOD.out.later HB.out).get k
              rw [← HKE.out, HNE.out j x hx hne, HKE.out, ← hy] at CG
              have CG : Hid (Calls Tryd.prog 17 #[.pointer (some ⟨p, 0, none⟩), k.val] wr fun e w' => ∃ u, e = .returned (.tuple #[.agg #[.bool y.gone, u], .bool true]) ∧ Sk.Rw wr.heap.size w' u y.row ∧ Below wr.heap.size wr w') := Lib.hid CG
              obtain ⟨k0, k1, k2⟩ := HKX.out wr hbw
              rw [hrv] at x1
              obtain ⟨ya, yc, hyv⟩ := (HD.out.got y hym).slice
              have HYV : Hid (Kn.Vals wb y.rv y.row) := Lib.hid (HD.out.got y hym).vals
              have HYR := Lib.hid hyv
              have HY := Lib.hid hy
              have hxl : 0 < x.row.length := by rw [hkr]; simp
              have hxli : (0 : Int) < (x.row.length : Int) := by omega
              have hxln : ¬ x.row.length = 0 := by omega
              have hxlb : ((x.row.length : Int) == 0) = false := by simp; omega
              have HX := Lib.hid hx
              have HBW2 : Hid (∀ X, Below wr.heap.size wr X → Below wb.heap.size wb X) := Lib.hid fun X gX => hbw.trans (gX.mono hbw.size)
              have HXC : Hid (∀ X, Below wb.heap.size wb X → X.cell? ⟨b, o + j * 2, none⟩ = some (.bool x.gone) ∧ X.cell? ⟨b, o + j * 2 + 1, none⟩ = some (.slice (some ⟨g, go, none⟩) x.row.length cg)) := Lib.hid fun X gX => by
                obtain ⟨b', o', e', y0, y1⟩ := HD.out.at_ X gX j x HX.out
                simp only [Option.some.injEq, Addr.mk.injEq, and_true] at e'
                obtain ⟨rfl, rfl⟩ := e'
                exact ⟨y0, by rw [← hrv]; exact y1⟩
              obtain ⟨kn, ki, ks⟩ := k
              have HZK := Lib.hid hzk
              have HRV := Lib.hid hrv
              unfold Kn.V.val at CG
              clear hg hgl hkey hzk hne hkr hym hy hyv hx hrv hbw
              obtain ⟨xl, hxl'⟩ : ∃ m, m = x.row.length := ⟨_, rfl⟩
              rw [← hxl'] at x1 hxl hxli hxln hxlb HXC HRV
              clear hxl'
              gi_wp2_with (first
                | (refine ⟨trivial, ?_⟩; gi_at_call 17; refine (callsIn_wide.2 CG.out).mono ?_; rintro e w5 ⟨u, rfl, hu5, g5⟩
                   obtain ⟨ua, uc, rfl⟩ : ∃ ua uc, u = .slice ua y.row.length uc := by
                     rcases hu5.form with ⟨e, e0⟩ | ⟨gq, cq, e, _⟩
                     · exact ⟨none, 0, by rw [e, show y.row = [] from e0]; rfl⟩
                     · exact ⟨_, cq, e⟩
                   obtain ⟨w5a, hw5a⟩ : ∃ X, X = w5.alloc (.cells #[.bool y.gone, .slice ua y.row.length uc] 37) := ⟨_, rfl⟩
                   have HX5 : Hid (Below w5.heap.size w5 w5a ∧ w5a.heap.size = w5.heap.size + 1 ∧ w5a.heap[w5.heap.size]? = some (.cells #[.bool y.gone, .slice ua y.row.length uc] 37 (0, 0))) := Lib.hid ⟨by rw [hw5a]; exact (Below.refl _ w5).alloc (Nat.le_refl _) _, by rw [hw5a]; simp, by rw [hw5a]; exact heap_alloc_new w5 _⟩
                   have HB5 : Hid (Below wr.heap.size wr w5a) := Lib.hid (g5.trans (HX5.out.1.mono g5.size))
                   have HU5 : Hid (Kn.Vals w5a (.slice ua y.row.length uc) y.row) := Lib.hid (hu5.vals.later HX5.out.1)
                   obtain ⟨x0, x1⟩ := HXC.out w5a (HBW2.out _ HB5.out)
                   rw [hw5a] at x0 x1
                   have HW5 := Lib.hid hw5a
                   have G5 := Lib.hid g5.size
                   clear hw5a hu5 g5 k0 k1 k2))
              rw [← HW5.out] at x0 x1 ⊢
              clear CG x0 x1
              have hB5 := HB.out.trans (HB5.out.mono HB.out.size)
              have HBS : Hid (Below W.heap.size W w5a) := Lib.hid hB5
              have hb5b : Below wb.heap.size wb w5a := HBW2.out _ HB5.out
              obtain ⟨w5b, hw5b⟩ : ∃ X, X = w5a.alloc (.cells #[.bool x.gone, .slice (some ⟨g, go, none⟩) xl cg] 37) := ⟨_, rfl⟩
              rw [← hw5b]
              have HN : Hid (Below w5a.heap.size w5a w5b ∧ w5b.heap[w5a.heap.size]? = some (.cells #[.bool x.gone, x.rv] 37 (0, 0))) := Lib.hid ⟨by rw [hw5b]; exact (Below.refl _ w5a).alloc (Nat.le_refl _) _, by rw [hw5b, HRV.out]; exact heap_alloc_new w5a _⟩
              have HBX : Hid (∀ X, Below w5a.heap.size w5a X → Below wb.heap.size wb X ∧ Below W.heap.size W X ∧ X.heap[w5.heap.size]? = some (.cells #[.bool y.gone, .slice ua y.row.length uc] 37 (0, 0)) ∧ Kn.Vals X (.slice ua y.row.length uc) y.row) := Lib.hid fun X gX =>
                ⟨hb5b.trans (gX.mono hb5b.size), hB5.trans (gX.mono hB5.size), (gX.block _ (by have := HX5.out.2.1; omega)).trans HX5.out.2.2, HU5.out.later gX⟩
              have hsz5 : w5a.heap.size = w5.heap.size + 1 := HX5.out.2.1
              have HS5 := Lib.hid hsz5
              rw [show (w5.heap.size + 1) = w5a.heap.size from hsz5.symm] at *
              clear hw5b hB5 hb5b HB5 HX5 HU5 HW5 G5 HBW2 hsz5
              gi_loopw [14] (fun i X => ∃ q : Nat, j + q ≤ L.length ∧ i = .int .i64 ((j + q : Nat) : Int) ∧ Below w5a.heap.size w5a X ∧ X.heap[w5a.heap.size]? = some (.cells #[.bool (Sk.nw L x j q).gone, (Sk.nw L x j q).rv] 37 (0, 0))) (fun i _ => L.length - (intOf i).toNat)
              case atStart => exact ⟨0, by omega, rfl, HN.out.1, HN.out.2⟩
              case round =>
                obtain ⟨q, hq, rfl, hB3, hnb⟩ := hrel
                have H3 := Lib.hid hB3
                have HNB := Lib.hid hnb
                clear hB3 hnb
                obtain ⟨m, hm⟩ : ∃ m, m = j + q := ⟨_, rfl⟩
                rw [← hm]
                have hm0 : (0 : Int) ≤ (m : Int) := by omega
                have HM := Lib.hid hm
                by_cases hml : m < L.length
                · have hmi : (m : Int) < (L.length : Int) := by omega
                  obtain ⟨z, hz⟩ : ∃ z, L[m]? = some z := ⟨_, List.getElem?_eq_getElem hml⟩
                  have hgz := HD.out.got z (List.mem_of_getElem? hz)
                  have hwm : IntKind.i64.wrap ((m : Int) + 1) = ((m + 1 : Nat) : Int) := by rw [IntKind.wrap_i64]; have := HLJ.out; omega
                  have HZC : Hid (∀ X, Below wb.heap.size wb X → X.cell? ⟨b, o + m * 2, none⟩ = some (.bool z.gone) ∧ X.cell? ⟨b, o + m * 2 + 1, none⟩ = some z.rv) := Lib.hid fun X gX => by
                    obtain ⟨b', o', e', y0, y1⟩ := HD.out.at_ X gX m z hz
                    simp only [Option.some.injEq, Addr.mk.injEq, and_true] at e'
                    obtain ⟨rfl, rfl⟩ := e'
                    exact ⟨y0, y1⟩
                  have HSTEP : Hid (Sk.nw L x j (q + 1) = if (!z.row.isEmpty && Kn.cmp (Sk.ke z) (Sk.ke x) == 0) = true then z else Sk.nw L x j q) := Lib.hid (Sk.nw_step (by rw [← hm]; exact hz))
                  have hbw3 : Below wb.heap.size wb wr.drew := (HBX.out _ H3.out.drew).1
                  have HBW3 := Lib.hid hbw3
                  by_cases hze : z.row = []
                  · obtain ⟨zra, zrc, hzv⟩ := hgz.slice
                    have HQ : Hid (Sk.nw L x j (q + 1) = Sk.nw L x j q) := Lib.hid (by rw [HSTEP.out, if_neg (by simp [hze])])
                    obtain ⟨z0, z1⟩ := HZC.out _ hbw3
                    rw [hzv, hze, List.length_nil] at z1
                    have HK0 := Lib.hid z1
                    clear hz hgz hbw3 hze hzv z0 z1 HSTEP HZC HXC HKX HD hm
                    gi_upto_region 26 with (fail)
                    refine wpIn_wide.2 ?_
                    refine wp_region_noPanic ?_
                    refine wp_region_held_drew (S := fun wx => wx.cell? ⟨b, o + m * 2 + 1, none⟩ = some (.slice zra 0 zrc)) (by kernel_rfl) (HK0.out) (fun hHeld => ?_)
                    refine wpAnyH_take (i := 0) (v := ?_) rfl (by kernel_rfl) (by kernel_rfl) (by kernel_rfl) (fun _ _ _ h => h) (Or.inl ⟨by rfl, ?_⟩) (by assumption) ?_
                    rotate_left
                    · (intro wx hSw; (try dsimp only at hSw); go_simp; (try with_reducible rfl))
                    try simp only [Act.put, List.getElem_toArray, List.getElem_cons_zero, List.getElem_cons_succ, List.setIfInBounds_toArray, List.set_cons_zero, List.set_cons_succ]
                    refine wpAnyH_take (i := 1) (v := ?_) rfl (by kernel_rfl) (by kernel_rfl) (by kernel_rfl) (fun _ _ _ h => h) (Or.inl ⟨by rfl, ?_⟩) (by assumption) ?_
                    rotate_left
                    · (intro wx hSw; (try dsimp only at hSw); go_simp; (try with_reducible rfl))
                    try simp only [Act.put, List.getElem_toArray, List.getElem_cons_zero, List.getElem_cons_succ, List.setIfInBounds_toArray, List.set_cons_zero, List.set_cons_succ]
                    refine wpAnyH_take (i := 2) (v := ?_) rfl (by kernel_rfl) (by kernel_rfl) (by kernel_rfl) (fun _ _ _ h => h) (Or.inl ⟨by rfl, ?_⟩) (by assumption) ?_
                    rotate_left
                    · (intro wx hSw; (try dsimp only at hSw); go_simp; (try with_reducible rfl))
                    try simp only [Act.put, List.getElem_toArray, List.getElem_cons_zero, List.getElem_cons_succ, List.setIfInBounds_toArray, List.set_cons_zero, List.set_cons_succ]
                    refine wpAnyH_take (i := 3) (v := ?_) rfl (by kernel_rfl) (by kernel_rfl) (by kernel_rfl) (fun _ _ _ h => h) (Or.inl ⟨by rfl, ?_⟩) (by assumption) ?_
                    rotate_left
                    · (intro wx hSw; (try dsimp only at hSw); go_simp; (try with_reducible rfl))
                    try simp only [Act.put, List.getElem_toArray, List.getElem_cons_zero, List.getElem_cons_succ, List.setIfInBounds_toArray, List.set_cons_zero, List.set_cons_succ]
                    refine wpAnyH_take (i := 4) (v := ?_) rfl (by kernel_rfl) (by kernel_rfl) (by kernel_rfl) (fun _ _ _ h => h) (Or.inl ⟨by rfl, ?_⟩) (by assumption) ?_
                    rotate_left
                    · (intro wx hSw; (try dsimp only at hSw); go_simp; (try with_reducible rfl))
                    try simp only [Act.put, List.getElem_toArray, List.getElem_cons_zero, List.getElem_cons_succ, List.setIfInBounds_toArray, List.set_cons_zero, List.set_cons_succ]
                    refine wpAnyH_take (i := 5) (v := ?_) rfl (by kernel_rfl) (by kernel_rfl) (by kernel_rfl) (fun _ _ _ h => h) (Or.inl ⟨by rfl, ?_⟩) (by assumption) ?_
                    rotate_left
                    · (intro wx hSw; (try dsimp only at hSw); go_simp; (try with_reducible rfl))
                    try simp only [Act.put, List.getElem_toArray, List.getElem_cons_zero, List.getElem_cons_succ, List.setIfInBounds_toArray, List.set_cons_zero, List.set_cons_succ]
                    refine wpAnyH_take (i := 6) (v := ?_) rfl (by kernel_rfl) (by kernel_rfl) (by kernel_rfl) (fun _ _ _ h => h) (Or.inl ⟨by rfl, ?_⟩) (by assumption) ?_
                    rotate_left
                    · (intro wx hSw; (try dsimp only at hSw); go_simp; (try with_reducible rfl))
                    try simp only [Act.put, List.getElem_toArray, List.getElem_cons_zero, List.getElem_cons_succ, List.setIfInBounds_toArray, List.set_cons_zero, List.set_cons_succ]
                    refine wpAnyH_take (i := 7) (v := ?_) rfl (by kernel_rfl) (by kernel_rfl) (by kernel_rfl) (fun _ _ _ h => h) (Or.inl ⟨by rfl, ?_⟩) (by assumption) ?_
                    rotate_left
                    · (intro wx hSw; (try dsimp only at hSw); go_simp; (try with_reducible rfl))
                    try simp only [Act.put, List.getElem_toArray, List.getElem_cons_zero, List.getElem_cons_succ, List.setIfInBounds_toArray, List.set_cons_zero, List.set_cons_succ]
                    refine wpAnyH_take (i := 8) (v := undef) rfl (by kernel_rfl) (by kernel_rfl) (by kernel_rfl) (fun _ _ _ h => h) (Or.inr ⟨by rfl, rfl⟩) (by assumption) ?_
                    try simp only [Act.put, List.getElem_toArray, List.getElem_cons_zero, List.getElem_cons_succ, List.setIfInBounds_toArray, List.set_cons_zero, List.set_cons_succ]
                    refine wpAnyH_take (i := 9) (v := undef) rfl (by kernel_rfl) (by kernel_rfl) (by kernel_rfl) (fun _ _ _ h => h) (Or.inr ⟨by rfl, rfl⟩) (by assumption) ?_
                    try simp only [Act.put, List.getElem_toArray, List.getElem_cons_zero, List.getElem_cons_succ, List.setIfInBounds_toArray, List.set_cons_zero, List.set_cons_succ]
                    refine wpAnyH_take (i := 10) (v := undef) rfl (by kernel_rfl) (by kernel_rfl) (by kernel_rfl) (fun _ _ _ h => h) (Or.inr ⟨by rfl, rfl⟩) (by assumption) ?_
                    try simp only [Act.put, List.getElem_toArray, List.getElem_cons_zero, List.getElem_cons_succ, List.setIfInBounds_toArray, List.set_cons_zero, List.set_cons_succ]
                    refine wpAnyH_take (i := 11) (v := undef) rfl (by kernel_rfl) (by kernel_rfl) (by kernel_rfl) (fun _ _ _ h => h) (Or.inr ⟨by rfl, rfl⟩) (by assumption) ?_
                    try simp only [Act.put, List.getElem_toArray, List.getElem_cons_zero, List.getElem_cons_succ, List.setIfInBounds_toArray, List.set_cons_zero, List.set_cons_succ]
                    refine wpAnyH_take (i := 12) (v := undef) rfl (by kernel_rfl) (by kernel_rfl) (by kernel_rfl) (fun _ _ _ h => h) (Or.inr ⟨by rfl, rfl⟩) (by assumption) ?_
                    try simp only [Act.put, List.getElem_toArray, List.getElem_cons_zero, List.getElem_cons_succ, List.setIfInBounds_toArray, List.set_cons_zero, List.set_cons_succ]
                    refine wpAnyH_take (i := 13) (v := undef) rfl (by kernel_rfl) (by kernel_rfl) (by kernel_rfl) (fun _ _ _ h => h) (Or.inr ⟨by rfl, rfl⟩) (by assumption) ?_
                    try simp only [Act.put, List.getElem_toArray, List.getElem_cons_zero, List.getElem_cons_succ, List.setIfInBounds_toArray, List.set_cons_zero, List.set_cons_succ]
                    refine wpAnyH_take (i := 14) (v := undef) rfl (by kernel_rfl) (by kernel_rfl) (by kernel_rfl) (fun _ _ _ h => h) (Or.inr ⟨by rfl, rfl⟩) (by assumption) ?_
                    try simp only [Act.put, List.getElem_toArray, List.getElem_cons_zero, List.getElem_cons_succ, List.setIfInBounds_toArray, List.set_cons_zero, List.set_cons_succ]
                    refine wpAnyH_take (i := 15) (v := undef) rfl (by kernel_rfl) (by kernel_rfl) (by kernel_rfl) (fun _ _ _ h => h) (Or.inr ⟨by rfl, rfl⟩) (by assumption) ?_
                    try simp only [Act.put, List.getElem_toArray, List.getElem_cons_zero, List.getElem_cons_succ, List.setIfInBounds_toArray, List.set_cons_zero, List.set_cons_succ]
                    refine wpAnyH_take (i := 16) (v := undef) rfl (by kernel_rfl) (by kernel_rfl) (by kernel_rfl) (fun _ _ _ h => h) (Or.inr ⟨by rfl, rfl⟩) (by assumption) ?_
                    try simp only [Act.put, List.getElem_toArray, List.getElem_cons_zero, List.getElem_cons_succ, List.setIfInBounds_toArray, List.set_cons_zero, List.set_cons_succ]
                    refine wpAnyH_take (i := 17) (v := undef) rfl (by kernel_rfl) (by kernel_rfl) (by kernel_rfl) (fun _ _ _ h => h) (Or.inr ⟨by rfl, rfl⟩) (by assumption) ?_
                    try simp only [Act.put, List.getElem_toArray, List.getElem_cons_zero, List.getElem_cons_succ, List.setIfInBounds_toArray, List.set_cons_zero, List.set_cons_succ]
                    refine wpAnyH_take (i := 18) (v := undef) rfl (by kernel_rfl) (by kernel_rfl) (by kernel_rfl) (fun _ _ _ h => h) (Or.inr ⟨by rfl, rfl⟩) (by assumption) ?_
                    try simp only [Act.put, List.getElem_toArray, List.getElem_cons_zero, List.getElem_cons_succ, List.setIfInBounds_toArray, List.set_cons_zero, List.set_cons_succ]
                    refine wpAnyH_take (i := 19) (v := undef) rfl (by kernel_rfl) (by kernel_rfl) (by kernel_rfl) (fun _ _ _ h => h) (Or.inr ⟨by rfl, rfl⟩) (by assumption) ?_
                    try simp only [Act.put, List.getElem_toArray, List.getElem_cons_zero, List.getElem_cons_succ, List.setIfInBounds_toArray, List.set_cons_zero, List.set_cons_succ]
                    refine wpAnyH_take (i := 20) (v := undef) rfl (by kernel_rfl) (by kernel_rfl) (by kernel_rfl) (fun _ _ _ h => h) (Or.inr ⟨by rfl, rfl⟩) (by assumption) ?_
                    try simp only [Act.put, List.getElem_toArray, List.getElem_cons_zero, List.getElem_cons_succ, List.setIfInBounds_toArray, List.set_cons_zero, List.set_cons_succ]
                    refine wpAnyH_take (i := 21) (v := undef) rfl (by kernel_rfl) (by kernel_rfl) (by kernel_rfl) (fun _ _ _ h => h) (Or.inr ⟨by rfl, rfl⟩) (by assumption) ?_
                    try simp only [Act.put, List.getElem_toArray, List.getElem_cons_zero, List.getElem_cons_succ, List.setIfInBounds_toArray, List.set_cons_zero, List.set_cons_succ]
                    refine wpAnyH_take (i := 22) (v := undef) rfl (by kernel_rfl) (by kernel_rfl) (by kernel_rfl) (fun _ _ _ h => h) (Or.inr ⟨by rfl, rfl⟩) (by assumption) ?_
                    try simp only [Act.put, List.getElem_toArray, List.getElem_cons_zero, List.getElem_cons_succ, List.setIfInBounds_toArray, List.set_cons_zero, List.set_cons_succ]
                    refine wpAnyH_take (i := 23) (v := undef) rfl (by kernel_rfl) (by kernel_rfl) (by kernel_rfl) (fun _ _ _ h => h) (Or.inr ⟨by rfl, rfl⟩) (by assumption) ?_
                    try simp only [Act.put, List.getElem_toArray, List.getElem_cons_zero, List.getElem_cons_succ, List.setIfInBounds_toArray, List.set_cons_zero, List.set_cons_succ]
                    refine wpAnyH_take (i := 24) (v := ?_) rfl (by kernel_rfl) (by kernel_rfl) (by kernel_rfl) (fun _ _ _ h => h) (Or.inl ⟨by rfl, ?_⟩) (by assumption) ?_
                    rotate_left
                    · (intro wx hSw; (try dsimp only at hSw); go_simp; (try with_reducible rfl))
                    try simp only [Act.put, List.getElem_toArray, List.getElem_cons_zero, List.getElem_cons_succ, List.setIfInBounds_toArray, List.set_cons_zero, List.set_cons_succ]
                    refine wpAnyH_done (by kernel_rfl) ?_ _
                    refine NoPanic.normal ?_
                    clear hHeld
                    gi_wp2
                    have hmm := HM.out
                    exact ⟨⟨q + 1, by omega, by first | (rw [hmm]; rfl) | (rw [hwm, hmm]; rfl), ⟨H3.out.os, H3.out.tape, H3.out.output, H3.out.size, H3.out.block⟩, by rw [HQ.out]; exact HNB.out⟩, by simp [intOf]; omega⟩
                  · obtain ⟨zk, zr, hzkr⟩ : ∃ k r, z.row = k :: r := by
                      cases hxr : z.row with
                      | nil => exact absurd hxr hze
                      | cons k r => exact ⟨k, r, rfl⟩
                    obtain ⟨zg, zo, zc, hzv, _, hzkey, hzz⟩ := hgz.key hzkr
                    have hkz : Sk.ke z = zk := Sk.kd_row hzkr
                    rw [hkz, HKE.out] at HSTEP
                    have hzn : (!z.row.isEmpty) = true := by rw [hzkr]; rfl
                    rw [hzn, Bool.true_and] at HSTEP
                    have CC := Lib.hid (fun W' => Kn.rCompare_c zk ⟨kn, ki, ks⟩ hzz HZK.out W')
                    have HZX : Hid (∀ X, Below wb.heap.size wb X → Kn.At X zg zo zk) := Lib.hid fun X gX => hzkey.later gX
                    rw [hzv] at HZC
                    have hzl : 0 < z.row.length := by rw [hzkr]; simp
                    obtain ⟨zl, hzl'⟩ : ∃ m, m = z.row.length := ⟨_, rfl⟩
                    rw [← hzl'] at HZC hzl hzv
                    have hzli : (0 : Int) < (zl : Int) := by omega
                    have HZV := Lib.hid hzv
                    obtain ⟨zn, zi, zs⟩ := zk
                    have HK1 : Hid (∀ X, Below wb.heap.size wb X → X.cell? ⟨b, o + m * 2 + 1, none⟩ = some (.slice (some ⟨zg, zo, none⟩) zl zc) ∧ X.cell? ⟨b, o + j * 2 + 1, none⟩ = some (.slice (some ⟨g, go, none⟩) xl cg) ∧ (X.cell? ⟨zg, zo, none⟩ = some (.bool zn) ∧ X.cell? ⟨zg, zo + 1, none⟩ = some (.int .i64 zi) ∧ X.cell? ⟨zg, zo + 2, none⟩ = some (.string zs)) ∧ X.cell? ⟨g, go, none⟩ = some (.bool kn) ∧ X.cell? ⟨g, go + 1, none⟩ = some (.int .i64 ki) ∧ X.cell? ⟨g, go + 2, none⟩ = some (.string ks)) := Lib.hid fun X gX => by
                      obtain ⟨a0, a1, a2⟩ := HZX.out X gX
                      obtain ⟨c0, c1, c2⟩ := HKX.out X gX
                      exact ⟨(HZC.out X gX).2, (HXC.out X gX).2, ⟨a0, a1, a2⟩, c0, c1, c2⟩
                    have HBW6 : Hid (∀ X, Below wr.drew.heap.size wr.drew X → Below wb.heap.size wb X) := Lib.hid fun X gX => HBW3.out.trans (gX.mono HBW3.out.size)
                    unfold Kn.V.val at CC
                    by_cases hcm : Kn.cmp ⟨zn, zi, zs⟩ ⟨kn, ki, ks⟩ = 0
                    · have HQ : Hid (Sk.nw L x j (q + 1) = z) := Lib.hid (by rw [HSTEP.out, if_pos (by simp [hcm])])
                      rw [hcm] at CC
                      clear hz hgz hbw3 hze hzv hzkr hzkey hzz hkz hzn hzl' HSTEP HKX HZX HD hm hcm
                      gi_upto_region 26 with (fail)
                      refine wpIn_wide.2 ?_
                      refine wp_region_noPanic ?_
                      refine wp_region_held_drew (S := fun wx => wx.cell? ⟨b, o + m * 2 + 1, none⟩ = some (.slice (some ⟨zg, zo, none⟩) zl zc) ∧ wx.cell? ⟨b, o + j * 2 + 1, none⟩ = some (.slice (some ⟨g, go, none⟩) xl cg) ∧ (wx.cell? ⟨zg, zo, none⟩ = some (.bool zn) ∧ wx.cell? ⟨zg, zo + 1, none⟩ = some (.int .i64 zi) ∧ wx.cell? ⟨zg, zo + 2, none⟩ = some (.string zs)) ∧ wx.cell? ⟨g, go, none⟩ = some (.bool kn) ∧ wx.cell? ⟨g, go + 1, none⟩ = some (.int .i64 ki) ∧ wx.cell? ⟨g, go + 2, none⟩ = some (.string ks)) (by kernel_rfl) (HK1.out _ HBW3.out) (fun hHeld => ?_)
                      refine wpAnyH_take (i := 0) (v := ?_) rfl (by kernel_rfl) (by kernel_rfl) (by kernel_rfl) (fun _ _ _ h => h) (Or.inl ⟨by rfl, ?_⟩) (by assumption) ?_
                      rotate_left
                      · (intro wx hSw; (try dsimp only at hSw); go_simp; (try with_reducible rfl))
                      try simp only [Act.put, List.getElem_toArray, List.getElem_cons_zero, List.getElem_cons_succ, List.setIfInBounds_toArray, List.set_cons_zero, List.set_cons_succ]
                      refine wpAnyH_take (i := 1) (v := ?_) rfl (by kernel_rfl) (by kernel_rfl) (by kernel_rfl) (fun _ _ _ h => h) (Or.inl ⟨by rfl, ?_⟩) (by assumption) ?_
                      rotate_left
                      · (intro wx hSw; (try dsimp only at hSw); go_simp; (try with_reducible rfl))
                      try simp only [Act.put, List.getElem_toArray, List.getElem_cons_zero, List.getElem_cons_succ, List.setIfInBounds_toArray, List.set_cons_zero, List.set_cons_succ]
                      refine wpAnyH_take (i := 2) (v := ?_) rfl (by kernel_rfl) (by kernel_rfl) (by kernel_rfl) (fun _ _ _ h => h) (Or.inl ⟨by rfl, ?_⟩) (by assumption) ?_
                      rotate_left
                      · (intro wx hSw; (try dsimp only at hSw); go_simp; (try with_reducible rfl))
                      try simp only [Act.put, List.getElem_toArray, List.getElem_cons_zero, List.getElem_cons_succ, List.setIfInBounds_toArray, List.set_cons_zero, List.set_cons_succ]
                      refine wpAnyH_take (i := 3) (v := ?_) rfl (by kernel_rfl) (by kernel_rfl) (by kernel_rfl) (fun _ _ _ h => h) (Or.inl ⟨by rfl, ?_⟩) (by assumption) ?_
                      rotate_left
                      · (intro wx hSw; (try dsimp only at hSw); go_simp; (try with_reducible rfl))
                      try simp only [Act.put, List.getElem_toArray, List.getElem_cons_zero, List.getElem_cons_succ, List.setIfInBounds_toArray, List.set_cons_zero, List.set_cons_succ]
                      refine wpAnyH_take (i := 4) (v := ?_) rfl (by kernel_rfl) (by kernel_rfl) (by kernel_rfl) (fun _ _ _ h => h) (Or.inl ⟨by rfl, ?_⟩) (by assumption) ?_
                      rotate_left
                      · (intro wx hSw; (try dsimp only at hSw); go_simp; (try with_reducible rfl))
                      try simp only [Act.put, List.getElem_toArray, List.getElem_cons_zero, List.getElem_cons_succ, List.setIfInBounds_toArray, List.set_cons_zero, List.set_cons_succ]
                      refine wpAnyH_take (i := 5) (v := ?_) rfl (by kernel_rfl) (by kernel_rfl) (by kernel_rfl) (fun _ _ _ h => h) (Or.inl ⟨by rfl, ?_⟩) (by assumption) ?_
                      rotate_left
                      · (intro wx hSw; (try dsimp only at hSw); go_simp; (try with_reducible rfl))
                      try simp only [Act.put, List.getElem_toArray, List.getElem_cons_zero, List.getElem_cons_succ, List.setIfInBounds_toArray, List.set_cons_zero, List.set_cons_succ]
                      refine wpAnyH_take (i := 6) (v := ?_) rfl (by kernel_rfl) (by kernel_rfl) (by kernel_rfl) (fun _ _ _ h => h) (Or.inl ⟨by rfl, ?_⟩) (by assumption) ?_
                      rotate_left
                      · (intro wx hSw; (try dsimp only at hSw); go_simp; (try with_reducible rfl))
                      try simp only [Act.put, List.getElem_toArray, List.getElem_cons_zero, List.getElem_cons_succ, List.setIfInBounds_toArray, List.set_cons_zero, List.set_cons_succ]
                      refine wpAnyH_take (i := 7) (v := ?_) rfl (by kernel_rfl) (by kernel_rfl) (by kernel_rfl) (fun _ _ _ h => h) (Or.inl ⟨by rfl, ?_⟩) (by assumption) ?_
                      rotate_left
                      · (intro wx hSw; (try dsimp only at hSw); go_simp; (try with_reducible rfl))
                      try simp only [Act.put, List.getElem_toArray, List.getElem_cons_zero, List.getElem_cons_succ, List.setIfInBounds_toArray, List.set_cons_zero, List.set_cons_succ]
                      refine wpAnyH_take (i := 8) (v := ?_) rfl (by kernel_rfl) (by kernel_rfl) (by kernel_rfl) (fun _ _ _ h => h) (Or.inl ⟨by rfl, ?_⟩) (by assumption) ?_
                      rotate_left
                      · (intro wx hSw; (try dsimp only at hSw); go_simp; (try with_reducible rfl))
                      try simp only [Act.put, List.getElem_toArray, List.getElem_cons_zero, List.getElem_cons_succ, List.setIfInBounds_toArray, List.set_cons_zero, List.set_cons_succ]
                      refine wpAnyH_take (i := 9) (v := ?_) rfl (by kernel_rfl) (by kernel_rfl) (by kernel_rfl) (fun _ _ _ h => h) (Or.inl ⟨by rfl, ?_⟩) (by assumption) ?_
                      rotate_left
                      · (intro wx hSw; (try dsimp only at hSw); go_simp; (try with_reducible rfl))
                      try simp only [Act.put, List.getElem_toArray, List.getElem_cons_zero, List.getElem_cons_succ, List.setIfInBounds_toArray, List.set_cons_zero, List.set_cons_succ]
                      refine wpAnyH_take (i := 10) (v := ?_) rfl (by kernel_rfl) (by kernel_rfl) (by kernel_rfl) (fun _ _ _ h => h) (Or.inl ⟨by rfl, ?_⟩) (by assumption) ?_
                      rotate_left
                      · (intro wx hSw; (try dsimp only at hSw); go_simp; (try with_reducible rfl))
                      try simp only [Act.put, List.getElem_toArray, List.getElem_cons_zero, List.getElem_cons_succ, List.setIfInBounds_toArray, List.set_cons_zero, List.set_cons_succ]
                      refine wpAnyH_take (i := 11) (v := ?_) rfl (by kernel_rfl) (by kernel_rfl) (by kernel_rfl) (fun _ _ _ h => h) (Or.inl ⟨by rfl, ?_⟩) (by assumption) ?_
                      rotate_left
                      · (intro wx hSw; (try dsimp only at hSw); go_simp; (try with_reducible rfl))
                      try simp only [Act.put, List.getElem_toArray, List.getElem_cons_zero, List.getElem_cons_succ, List.setIfInBounds_toArray, List.set_cons_zero, List.set_cons_succ]
                      refine wpAnyH_take (i := 12) (v := ?_) rfl (by kernel_rfl) (by kernel_rfl) (by kernel_rfl) (fun _ _ _ h => h) (Or.inl ⟨by rfl, ?_⟩) (by assumption) ?_
                      rotate_left
                      · (intro wx hSw; (try dsimp only at hSw); go_simp; (try with_reducible rfl))
                      try simp only [Act.put, List.getElem_toArray, List.getElem_cons_zero, List.getElem_cons_succ, List.setIfInBounds_toArray, List.set_cons_zero, List.set_cons_succ]
                      refine wpAnyH_take (i := 13) (v := ?_) rfl (by kernel_rfl) (by kernel_rfl) (by kernel_rfl) (fun _ _ _ h => h) (Or.inl ⟨by rfl, ?_⟩) (by assumption) ?_
                      rotate_left
                      · (intro wx hSw; (try dsimp only at hSw); go_simp; (try with_reducible rfl))
                      try simp only [Act.put, List.getElem_toArray, List.getElem_cons_zero, List.getElem_cons_succ, List.setIfInBounds_toArray, List.set_cons_zero, List.set_cons_succ]
                      refine wpAnyH_take (i := 14) (v := ?_) rfl (by kernel_rfl) (by kernel_rfl) (by kernel_rfl) (fun _ _ _ h => h) (Or.inl ⟨by rfl, ?_⟩) (by assumption) ?_
                      rotate_left
                      · (intro wx hSw; (try dsimp only at hSw); go_simp; (try with_reducible rfl))
                      try simp only [Act.put, List.getElem_toArray, List.getElem_cons_zero, List.getElem_cons_succ, List.setIfInBounds_toArray, List.set_cons_zero, List.set_cons_succ]
                      refine wpAnyH_take (i := 15) (v := ?_) rfl (by kernel_rfl) (by kernel_rfl) (by kernel_rfl) (fun _ _ _ h => h) (Or.inl ⟨by rfl, ?_⟩) (by assumption) ?_
                      rotate_left
                      · (intro wx hSw; (try dsimp only at hSw); go_simp; (try with_reducible rfl))
                      try simp only [Act.put, List.getElem_toArray, List.getElem_cons_zero, List.getElem_cons_succ, List.setIfInBounds_toArray, List.set_cons_zero, List.set_cons_succ]
                      refine wpAnyH_take (i := 16) (v := ?_) rfl (by kernel_rfl) (by kernel_rfl) (by kernel_rfl) (fun _ _ _ h => h) (Or.inl ⟨by rfl, ?_⟩) (by assumption) ?_
                      rotate_left
                      · (intro wx hSw; (try dsimp only at hSw); go_simp; (try with_reducible rfl))
                      try simp only [Act.put, List.getElem_toArray, List.getElem_cons_zero, List.getElem_cons_succ, List.setIfInBounds_toArray, List.set_cons_zero, List.set_cons_succ]
                      refine wpAnyH_take (i := 17) (v := ?_) rfl (by kernel_rfl) (by kernel_rfl) (by kernel_rfl) (fun _ _ _ h => h) (Or.inl ⟨by rfl, ?_⟩) (by assumption) ?_
                      rotate_left
                      · (intro wx hSw; (try dsimp only at hSw); go_simp; (try with_reducible rfl))
                      try simp only [Act.put, List.getElem_toArray, List.getElem_cons_zero, List.getElem_cons_succ, List.setIfInBounds_toArray, List.set_cons_zero, List.set_cons_succ]
                      refine wpAnyH_take (i := 18) (v := ?_) rfl (by kernel_rfl) (by kernel_rfl) (by kernel_rfl) (fun _ _ _ h => h) (Or.inl ⟨by rfl, ?_⟩) (by assumption) ?_
                      rotate_left
                      · (intro wx hSw; (try dsimp only at hSw); go_simp; (try with_reducible rfl))
                      try simp only [Act.put, List.getElem_toArray, List.getElem_cons_zero, List.getElem_cons_succ, List.setIfInBounds_toArray, List.set_cons_zero, List.set_cons_succ]
                      refine wpAnyH_take (i := 19) (v := ?_) rfl (by kernel_rfl) (by kernel_rfl) (by kernel_rfl) (fun _ _ _ h => h) (Or.inl ⟨by rfl, ?_⟩) (by assumption) ?_
                      rotate_left
                      · (intro wx hSw; (try dsimp only at hSw); go_simp; (try with_reducible rfl))
                      try simp only [Act.put, List.getElem_toArray, List.getElem_cons_zero, List.getElem_cons_succ, List.setIfInBounds_toArray, List.set_cons_zero, List.set_cons_succ]
                      refine wpAnyH_take (i := 20) (v := ?_) rfl (by kernel_rfl) (by kernel_rfl) (by kernel_rfl) (fun _ _ _ h => h) (Or.inl ⟨by rfl, ?_⟩) (by assumption) ?_
                      rotate_left
                      · (intro wx hSw; (try dsimp only at hSw); go_simp; (try with_reducible rfl))
                      try simp only [Act.put, List.getElem_toArray, List.getElem_cons_zero, List.getElem_cons_succ, List.setIfInBounds_toArray, List.set_cons_zero, List.set_cons_succ]
                      refine wpAnyH_take (i := 21) (v := ?_) rfl (by kernel_rfl) (by kernel_rfl) (by kernel_rfl) (fun _ _ _ h => h) (Or.inl ⟨by rfl, ?_⟩) (by assumption) ?_
                      rotate_left
                      · (intro wx hSw; (try dsimp only at hSw); go_simp; (try with_reducible rfl))
                      try simp only [Act.put, List.getElem_toArray, List.getElem_cons_zero, List.getElem_cons_succ, List.setIfInBounds_toArray, List.set_cons_zero, List.set_cons_succ]
                      refine Sk.held_one (i := 22) (o := ({ dst := some 117, op := Op.call { callee := Callee.value (Operand.func 24), args := #[Operand.tmp 109, Operand.tmp 116], argTypes := #[25, 25] }, type := 3, pos := "law.go:103", after := #[{ on := 14, ground := Ground.data }, { on := 21, ground := Ground.data }, { on := 7, ground := Ground.chain }, { on := 7, ground := Ground.guard }], guard := some (7, true) } : Oper)) (by kernel_rfl) rfl (fun K hK => ?_)
                      go_simp
                      go_at_call 24
                      (with_reducible refine (CC.out _).mono ?_); rintro e w6 ⟨rfl, g6⟩
                      go_wp2_with fail
                      refine hK.out _ _ (HK1.out _ (HBW6.out _ g6)) (fun hHeld => ?_)
                      clear hK K
                      try simp only [Act.put, List.getElem_toArray, List.getElem_cons_zero, List.getElem_cons_succ, List.setIfInBounds_toArray, List.set_cons_zero, List.set_cons_succ]
                      refine wpAnyH_take (i := 23) (v := ?_) rfl (by kernel_rfl) (by kernel_rfl) (by kernel_rfl) (fun _ _ _ h => h) (Or.inl ⟨by rfl, ?_⟩) (by assumption) ?_
                      rotate_left
                      · (intro wx hSw; (try dsimp only at hSw); go_simp; (try with_reducible rfl))
                      try simp only [Act.put, List.getElem_toArray, List.getElem_cons_zero, List.getElem_cons_succ, List.setIfInBounds_toArray, List.set_cons_zero, List.set_cons_succ]
                      refine wpAnyH_take (i := 24) (v := ?_) rfl (by kernel_rfl) (by kernel_rfl) (by kernel_rfl) (fun _ _ _ h => h) (Or.inl ⟨by rfl, ?_⟩) (by assumption) ?_
                      rotate_left
                      · (intro wx hSw; (try dsimp only at hSw); go_simp; (try with_reducible rfl))
                      try simp only [Act.put, List.getElem_toArray, List.getElem_cons_zero, List.getElem_cons_succ, List.setIfInBounds_toArray, List.set_cons_zero, List.set_cons_succ]
                      refine wpAnyH_done (by kernel_rfl) ?_ _
                      refine NoPanic.normal ?_
                      have h36 : Below wr.heap.size wr w6 := ⟨g6.os, g6.tape, g6.output, g6.size, g6.block⟩
                      have hsl : w5a.heap.size < wr.heap.size := (Array.getElem?_eq_some_iff.1 HNB.out).1
                      have hnb6 := (h36.block _ hsl).trans HNB.out
                      obtain ⟨z0, z1⟩ := HZC.out w6 (HBW6.out _ g6)
                      have f0 := frozen_of_row _ _ 0 _ _ hnb6
                      have f1 := frozen_of_row _ _ 1 _ _ hnb6
                      have e0 := cell_of_row _ _ 0 _ _ _ hnb6
                      have e1 := cell_of_row _ _ 1 _ _ _ hnb6
                      simp only [List.getElem?_toArray, List.getElem?_cons_zero, List.getElem?_cons_succ] at e0 e1
                      obtain ⟨w7, hw7⟩ : ∃ X, X = (w6.setCell ⟨w5a.heap.size, 0, none⟩ (.bool z.gone)).setCell ⟨w5a.heap.size, 1, none⟩ (.slice (some ⟨zg, zo, none⟩) zl zc) := ⟨_, rfl⟩
                      have h7 : w7.heap[w5a.heap.size]? = some (.cells #[.bool z.gone, z.rv] 37 (0, 0)) := by
                        rw [hw7, HZV.out]
                        simp [World.setCell, Array.getElem?_modify, hnb6]
                      have hb7 : Below w5a.heap.size w5a w7 := by
                        rw [hw7]
                        exact ((H3.out.trans (h36.mono H3.out.size)).setCell (p := ⟨w5a.heap.size, 0, none⟩) (Nat.le_refl _) _).setCell (p := ⟨w5a.heap.size, 1, none⟩) (Nat.le_refl _) _
                      have HE7 := Lib.hid (And.intro hb7 h7)
                      clear hHeld g6 h36 hsl hnb6 h7 hb7 HNB CC HK1 HZC HXC HBW6 HBW3
                      gi_upto_region 25 with (fail)
                      rw [← hw7]
                      clear hw7 f0 f1 e0 e1 z0 z1
                      gi_wp2
                      have hmm := HM.out
                      exact ⟨⟨q + 1, by omega, by first | (rw [hmm]; rfl) | (rw [hwm, hmm]; rfl), HE7.out.1, by rw [HQ.out]; exact HE7.out.2⟩, by simp [intOf]; omega⟩
                    · have HQ : Hid (Sk.nw L x j (q + 1) = Sk.nw L x j q) := Lib.hid (by rw [HSTEP.out, if_neg (by simp [hcm])])
                      generalize Kn.cmp ⟨zn, zi, zs⟩ ⟨kn, ki, ks⟩ = cv at CC hcm
                      have hcb : (cv == 0) = false := by simp [hcm]
                      clear hz hgz hbw3 hze hzv hzkr hzkey hzz hkz hzn hzl' HSTEP HKX HZX HD hm
                      gi_upto_region 26 with (fail)
                      refine wpIn_wide.2 ?_
                      refine wp_region_noPanic ?_
                      refine wp_region_held_drew (S := fun wx => wx.cell? ⟨b, o + m * 2 + 1, none⟩ = some (.slice (some ⟨zg, zo, none⟩) zl zc) ∧ wx.cell? ⟨b, o + j * 2 + 1, none⟩ = some (.slice (some ⟨g, go, none⟩) xl cg) ∧ (wx.cell? ⟨zg, zo, none⟩ = some (.bool zn) ∧ wx.cell? ⟨zg, zo + 1, none⟩ = some (.int .i64 zi) ∧ wx.cell? ⟨zg, zo + 2, none⟩ = some (.string zs)) ∧ wx.cell? ⟨g, go, none⟩ = some (.bool kn) ∧ wx.cell? ⟨g, go + 1, none⟩ = some (.int .i64 ki) ∧ wx.cell? ⟨g, go + 2, none⟩ = some (.string ks)) (by kernel_rfl) (HK1.out _ HBW3.out) (fun hHeld => ?_)
                      refine wpAnyH_take (i := 0) (v := ?_) rfl (by kernel_rfl) (by kernel_rfl) (by kernel_rfl) (fun _ _ _ h => h) (Or.inl ⟨by rfl, ?_⟩) (by assumption) ?_
                      rotate_left
                      · (intro wx hSw; (try dsimp only at hSw); go_simp; (try with_reducible rfl))
                      try simp only [Act.put, List.getElem_toArray, List.getElem_cons_zero, List.getElem_cons_succ, List.setIfInBounds_toArray, List.set_cons_zero, List.set_cons_succ]
                      refine wpAnyH_take (i := 1) (v := ?_) rfl (by kernel_rfl) (by kernel_rfl) (by kernel_rfl) (fun _ _ _ h => h) (Or.inl ⟨by rfl, ?_⟩) (by assumption) ?_
                      rotate_left
                      · (intro wx hSw; (try dsimp only at hSw); go_simp; (try with_reducible rfl))
                      try simp only [Act.put, List.getElem_toArray, List.getElem_cons_zero, List.getElem_cons_succ, List.setIfInBounds_toArray, List.set_cons_zero, List.set_cons_succ]
                      refine wpAnyH_take (i := 2) (v := ?_) rfl (by kernel_rfl) (by kernel_rfl) (by kernel_rfl) (fun _ _ _ h => h) (Or.inl ⟨by rfl, ?_⟩) (by assumption) ?_
                      rotate_left
                      · (intro wx hSw; (try dsimp only at hSw); go_simp; (try with_reducible rfl))
                      try simp only [Act.put, List.getElem_toArray, List.getElem_cons_zero, List.getElem_cons_succ, List.setIfInBounds_toArray, List.set_cons_zero, List.set_cons_succ]
                      refine wpAnyH_take (i := 3) (v := ?_) rfl (by kernel_rfl) (by kernel_rfl) (by kernel_rfl) (fun _ _ _ h => h) (Or.inl ⟨by rfl, ?_⟩) (by assumption) ?_
                      rotate_left
                      · (intro wx hSw; (try dsimp only at hSw); go_simp; (try with_reducible rfl))
                      try simp only [Act.put, List.getElem_toArray, List.getElem_cons_zero, List.getElem_cons_succ, List.setIfInBounds_toArray, List.set_cons_zero, List.set_cons_succ]
                      refine wpAnyH_take (i := 4) (v := ?_) rfl (by kernel_rfl) (by kernel_rfl) (by kernel_rfl) (fun _ _ _ h => h) (Or.inl ⟨by rfl, ?_⟩) (by assumption) ?_
                      rotate_left
                      · (intro wx hSw; (try dsimp only at hSw); go_simp; (try with_reducible rfl))
                      try simp only [Act.put, List.getElem_toArray, List.getElem_cons_zero, List.getElem_cons_succ, List.setIfInBounds_toArray, List.set_cons_zero, List.set_cons_succ]
                      refine wpAnyH_take (i := 5) (v := ?_) rfl (by kernel_rfl) (by kernel_rfl) (by kernel_rfl) (fun _ _ _ h => h) (Or.inl ⟨by rfl, ?_⟩) (by assumption) ?_
                      rotate_left
                      · (intro wx hSw; (try dsimp only at hSw); go_simp; (try with_reducible rfl))
                      try simp only [Act.put, List.getElem_toArray, List.getElem_cons_zero, List.getElem_cons_succ, List.setIfInBounds_toArray, List.set_cons_zero, List.set_cons_succ]
                      refine wpAnyH_take (i := 6) (v := ?_) rfl (by kernel_rfl) (by kernel_rfl) (by kernel_rfl) (fun _ _ _ h => h) (Or.inl ⟨by rfl, ?_⟩) (by assumption) ?_
                      rotate_left
                      · (intro wx hSw; (try dsimp only at hSw); go_simp; (try with_reducible rfl))
                      try simp only [Act.put, List.getElem_toArray, List.getElem_cons_zero, List.getElem_cons_succ, List.setIfInBounds_toArray, List.set_cons_zero, List.set_cons_succ]
                      refine wpAnyH_take (i := 7) (v := ?_) rfl (by kernel_rfl) (by kernel_rfl) (by kernel_rfl) (fun _ _ _ h => h) (Or.inl ⟨by rfl, ?_⟩) (by assumption) ?_
                      rotate_left
                      · (intro wx hSw; (try dsimp only at hSw); go_simp; (try with_reducible rfl))
                      try simp only [Act.put, List.getElem_toArray, List.getElem_cons_zero, List.getElem_cons_succ, List.setIfInBounds_toArray, List.set_cons_zero, List.set_cons_succ]
                      refine wpAnyH_take (i := 8) (v := ?_) rfl (by kernel_rfl) (by kernel_rfl) (by kernel_rfl) (fun _ _ _ h => h) (Or.inl ⟨by rfl, ?_⟩) (by assumption) ?_
                      rotate_left
                      · (intro wx hSw; (try dsimp only at hSw); go_simp; (try with_reducible rfl))
                      try simp only [Act.put, List.getElem_toArray, List.getElem_cons_zero, List.getElem_cons_succ, List.setIfInBounds_toArray, List.set_cons_zero, List.set_cons_succ]
                      refine wpAnyH_take (i := 9) (v := ?_) rfl (by kernel_rfl) (by kernel_rfl) (by kernel_rfl) (fun _ _ _ h => h) (Or.inl ⟨by rfl, ?_⟩) (by assumption) ?_
                      rotate_left
                      · (intro wx hSw; (try dsimp only at hSw); go_simp; (try with_reducible rfl))
                      try simp only [Act.put, List.getElem_toArray, List.getElem_cons_zero, List.getElem_cons_succ, List.setIfInBounds_toArray, List.set_cons_zero, List.set_cons_succ]
                      refine wpAnyH_take (i := 10) (v := ?_) rfl (by kernel_rfl) (by kernel_rfl) (by kernel_rfl) (fun _ _ _ h => h) (Or.inl ⟨by rfl, ?_⟩) (by assumption) ?_
                      rotate_left
                      · (intro wx hSw; (try dsimp only at hSw); go_simp; (try with_reducible rfl))
                      try simp only [Act.put, List.getElem_toArray, List.getElem_cons_zero, List.getElem_cons_succ, List.setIfInBounds_toArray, List.set_cons_zero, List.set_cons_succ]
                      refine wpAnyH_take (i := 11) (v := ?_) rfl (by kernel_rfl) (by kernel_rfl) (by kernel_rfl) (fun _ _ _ h => h) (Or.inl ⟨by rfl, ?_⟩) (by assumption) ?_
                      rotate_left
                      · (intro wx hSw; (try dsimp only at hSw); go_simp; (try with_reducible rfl))
                      try simp only [Act.put, List.getElem_toArray, List.getElem_cons_zero, List.getElem_cons_succ, List.setIfInBounds_toArray, List.set_cons_zero, List.set_cons_succ]
                      refine wpAnyH_take (i := 12) (v := ?_) rfl (by kernel_rfl) (by kernel_rfl) (by kernel_rfl) (fun _ _ _ h => h) (Or.inl ⟨by rfl, ?_⟩) (by assumption) ?_
                      rotate_left
                      · (intro wx hSw; (try dsimp only at hSw); go_simp; (try with_reducible rfl))
                      try simp only [Act.put, List.getElem_toArray, List.getElem_cons_zero, List.getElem_cons_succ, List.setIfInBounds_toArray, List.set_cons_zero, List.set_cons_succ]
                      refine wpAnyH_take (i := 13) (v := ?_) rfl (by kernel_rfl) (by kernel_rfl) (by kernel_rfl) (fun _ _ _ h => h) (Or.inl ⟨by rfl, ?_⟩) (by assumption) ?_
                      rotate_left
                      · (intro wx hSw; (try dsimp only at hSw); go_simp; (try with_reducible rfl))
                      try simp only [Act.put, List.getElem_toArray, List.getElem_cons_zero, List.getElem_cons_succ, List.setIfInBounds_toArray, List.set_cons_zero, List.set_cons_succ]
                      refine wpAnyH_take (i := 14) (v := ?_) rfl (by kernel_rfl) (by kernel_rfl) (by kernel_rfl) (fun _ _ _ h => h) (Or.inl ⟨by rfl, ?_⟩) (by assumption) ?_
                      rotate_left
                      · (intro wx hSw; (try dsimp only at hSw); go_simp; (try with_reducible rfl))
                      try simp only [Act.put, List.getElem_toArray, List.getElem_cons_zero, List.getElem_cons_succ, List.setIfInBounds_toArray, List.set_cons_zero, List.set_cons_succ]
                      refine wpAnyH_take (i := 15) (v := ?_) rfl (by kernel_rfl) (by kernel_rfl) (by kernel_rfl) (fun _ _ _ h => h) (Or.inl ⟨by rfl, ?_⟩) (by assumption) ?_
                      rotate_left
                      · (intro wx hSw; (try dsimp only at hSw); go_simp; (try with_reducible rfl))
                      try simp only [Act.put, List.getElem_toArray, List.getElem_cons_zero, List.getElem_cons_succ, List.setIfInBounds_toArray, List.set_cons_zero, List.set_cons_succ]
                      refine wpAnyH_take (i := 16) (v := ?_) rfl (by kernel_rfl) (by kernel_rfl) (by kernel_rfl) (fun _ _ _ h => h) (Or.inl ⟨by rfl, ?_⟩) (by assumption) ?_
                      rotate_left
                      · (intro wx hSw; (try dsimp only at hSw); go_simp; (try with_reducible rfl))
                      try simp only [Act.put, List.getElem_toArray, List.getElem_cons_zero, List.getElem_cons_succ, List.setIfInBounds_toArray, List.set_cons_zero, List.set_cons_succ]
                      refine wpAnyH_take (i := 17) (v := ?_) rfl (by kernel_rfl) (by kernel_rfl) (by kernel_rfl) (fun _ _ _ h => h) (Or.inl ⟨by rfl, ?_⟩) (by assumption) ?_
                      rotate_left
                      · (intro wx hSw; (try dsimp only at hSw); go_simp; (try with_reducible rfl))
                      try simp only [Act.put, List.getElem_toArray, List.getElem_cons_zero, List.getElem_cons_succ, List.setIfInBounds_toArray, List.set_cons_zero, List.set_cons_succ]
                      refine wpAnyH_take (i := 18) (v := ?_) rfl (by kernel_rfl) (by kernel_rfl) (by kernel_rfl) (fun _ _ _ h => h) (Or.inl ⟨by rfl, ?_⟩) (by assumption) ?_
                      rotate_left
                      · (intro wx hSw; (try dsimp only at hSw); go_simp; (try with_reducible rfl))
                      try simp only [Act.put, List.getElem_toArray, List.getElem_cons_zero, List.getElem_cons_succ, List.setIfInBounds_toArray, List.set_cons_zero, List.set_cons_succ]
                      refine wpAnyH_take (i := 19) (v := ?_) rfl (by kernel_rfl) (by kernel_rfl) (by kernel_rfl) (fun _ _ _ h => h) (Or.inl ⟨by rfl, ?_⟩) (by assumption) ?_
                      rotate_left
                      · (intro wx hSw; (try dsimp only at hSw); go_simp; (try with_reducible rfl))
                      try simp only [Act.put, List.getElem_toArray, List.getElem_cons_zero, List.getElem_cons_succ, List.setIfInBounds_toArray, List.set_cons_zero, List.set_cons_succ]
                      refine wpAnyH_take (i := 20) (v := ?_) rfl (by kernel_rfl) (by kernel_rfl) (by kernel_rfl) (fun _ _ _ h => h) (Or.inl ⟨by rfl, ?_⟩) (by assumption) ?_
                      rotate_left
                      · (intro wx hSw; (try dsimp only at hSw); go_simp; (try with_reducible rfl))
                      try simp only [Act.put, List.getElem_toArray, List.getElem_cons_zero, List.getElem_cons_succ, List.setIfInBounds_toArray, List.set_cons_zero, List.set_cons_succ]
                      refine wpAnyH_take (i := 21) (v := ?_) rfl (by kernel_rfl) (by kernel_rfl) (by kernel_rfl) (fun _ _ _ h => h) (Or.inl ⟨by rfl, ?_⟩) (by assumption) ?_
                      rotate_left
                      · (intro wx hSw; (try dsimp only at hSw); go_simp; (try with_reducible rfl))
                      try simp only [Act.put, List.getElem_toArray, List.getElem_cons_zero, List.getElem_cons_succ, List.setIfInBounds_toArray, List.set_cons_zero, List.set_cons_succ]
                      refine Sk.held_one (i := 22) (o := ({ dst := some 117, op := Op.call { callee := Callee.value (Operand.func 24), args := #[Operand.tmp 109, Operand.tmp 116], argTypes := #[25, 25] }, type := 3, pos := "law.go:103", after := #[{ on := 14, ground := Ground.data }, { on := 21, ground := Ground.data }, { on := 7, ground := Ground.chain }, { on := 7, ground := Ground.guard }], guard := some (7, true) } : Oper)) (by kernel_rfl) rfl (fun K hK => ?_)
                      go_simp
                      go_at_call 24
                      (with_reducible refine (CC.out _).mono ?_); rintro e w6 ⟨rfl, g6⟩
                      go_wp2_with fail
                      refine hK.out _ _ (HK1.out _ (HBW6.out _ g6)) (fun hHeld => ?_)
                      clear hK K
                      try simp only [Act.put, List.getElem_toArray, List.getElem_cons_zero, List.getElem_cons_succ, List.setIfInBounds_toArray, List.set_cons_zero, List.set_cons_succ]
                      refine wpAnyH_take (i := 23) (v := ?_) rfl (by kernel_rfl) (by kernel_rfl) (by kernel_rfl) (fun _ _ _ h => h) (Or.inl ⟨by rfl, ?_⟩) (by assumption) ?_
                      rotate_left
                      · (intro wx hSw; (try dsimp only at hSw); go_simp; (try with_reducible rfl))
                      try simp only [Act.put, List.getElem_toArray, List.getElem_cons_zero, List.getElem_cons_succ, List.setIfInBounds_toArray, List.set_cons_zero, List.set_cons_succ]
                      refine wpAnyH_take (i := 24) (v := ?_) rfl (by kernel_rfl) (by kernel_rfl) (by kernel_rfl) (fun _ _ _ h => h) (Or.inl ⟨by rfl, ?_⟩) (by assumption) ?_
                      rotate_left
                      · (intro wx hSw; (try dsimp only at hSw); go_simp; (try with_reducible rfl))
                      try simp only [Act.put, List.getElem_toArray, List.getElem_cons_zero, List.getElem_cons_succ, List.setIfInBounds_toArray, List.set_cons_zero, List.set_cons_succ]
                      refine wpAnyH_done (by kernel_rfl) ?_ _
                      refine NoPanic.normal ?_
                      have h36 : Below wr.heap.size wr w6 := ⟨g6.os, g6.tape, g6.output, g6.size, g6.block⟩
                      have hsl : w5a.heap.size < wr.heap.size := (Array.getElem?_eq_some_iff.1 HNB.out).1
                      have HE7 : Hid (Below w5a.heap.size w5a w6 ∧ w6.heap[w5a.heap.size]? = some (.cells #[.bool (Sk.nw L x j (q + 1)).gone, (Sk.nw L x j (q + 1)).rv] 37 (0, 0))) := Lib.hid ⟨H3.out.trans (h36.mono H3.out.size), by rw [HQ.out]; exact (h36.block _ hsl).trans HNB.out⟩
                      clear hHeld g6 h36 hsl HNB CC HK1 HZC HXC HBW6 HBW3 HQ hcm hcb
                      gi_wp2
                      have hmm := HM.out
                      exact ⟨⟨q + 1, by omega, by first | (rw [hmm]; rfl) | (rw [hwm, hmm]; rfl), HE7.out.1, HE7.out.2⟩, by simp [intOf]; omega⟩
                · have hmL : m = L.length := by omega
                  have hql : q = L.length - j := by omega
                  have hmi : ¬ (m : Int) < (L.length : Int) := by omega
                  have hnb := HNB.out
                  rw [hql, ← HY.out, HYR.out] at hnb
                  obtain ⟨hbX, hWX, hnd, hvd⟩ := HBX.out wr H3.out
                  have hvn := HYV.out.later hbX
                  rw [HYR.out] at hvn
                  have CS := Lib.hid (Dd.rsame_c (.slice ua y.row.length uc) (.slice ya y.row.length yc) y.d y.d wr hvd hvn)
                  rw [Sk.same_self] at CS
                  have CS : Hid (Calls Tryd.prog 19 #[.agg #[.bool y.gone, .slice ua y.row.length uc], .agg #[.bool y.gone, .slice ya y.row.length yc]] wr fun e w' => e = .returned (.bool true) ∧ Below wr.heap.size wr w') := CS
                  have d0 := cell_of_row _ _ 0 _ _ _ hnd
                  have d1 := cell_of_row _ _ 1 _ _ _ hnd
                  have e0 := cell_of_row _ _ 0 _ _ _ hnb
                  have e1 := cell_of_row _ _ 1 _ _ _ hnb
                  simp only [List.getElem?_toArray, List.getElem?_cons_zero, List.getElem?_cons_succ] at d0 d1 e0 e1
                  have HWX := Lib.hid hWX
                  clear hnb hbX hWX hnd hvd hvn hm hml hmL hql HNB HBX HXC HKX HD HY HYR HYV HNE
                  generalize y.gone = yg at CS d0 e0
                  generalize y.row.length = yl at CS d1 e1
                  gi_wp2_with (first
                    | (refine ⟨trivial, ?_⟩; gi_at_call 19; refine (callsIn_wide.2 CS.out).mono ?_; rintro e w8 ⟨rfl, g8⟩
                       have HW8 : Hid (Below W.heap.size W w8) := Lib.hid (HWX.out.trans (g8.mono HWX.out.size))
                       clear g8 d0 d1 e0 e1 CS))
                  exact ⟨⟨j + 1, by omega, by first | rfl | rw [hw], HW8.out⟩, by simp [intOf]; omega⟩
          · obtain rfl : j = L.length := by omega
            have hji : ¬ (L.length : Int) < (L.length : Int) := by omega
            have hB := HB.out
            have HOL := Lib.hid ((HOD.out.later hB.drew).len)
            obtain ⟨hr6, hr7, hr8, hb9⟩ := HD2.out wr.drew hB.drew
            have n1 := Sk.cell_blk hr7
            have r1 := Sk.cell_blk hr6
            have f1 := frozen_of_row _ _ 0 _ _ hr6
            have HFIN : Hid ((wr.drew.setCell ⟨w.heap.size, 0, none⟩ (.bool true)).heap[D]? = some (.deferred (some [])) ∧ (wr.drew.setCell ⟨w.heap.size, 0, none⟩ (.bool true)).heap[w.heap.size]? = some (.cells #[.bool true] 4 (0, 0)) ∧ Below w.heap.size w ((wr.drew.setCell ⟨w.heap.size, 0, none⟩ (.bool true)).putObj D (.deferred none))) := Lib.hid (by
              have hne : D ≠ w.heap.size := fun e => by rw [e] at hr8; rw [hr6] at hr8; cases hr8
              have hk2 : (wr.drew.setCell ⟨w.heap.size, 0, none⟩ (.bool true)).heap[D]? = some (.deferred (some [])) := (Below.heap_setCell _ _ _ _ (by first | exact hne | exact hne.symm)).trans hr8
              exact ⟨hk2, Sk.one_set _ hr6, (hb9.setCell (p := ⟨w.heap.size, 0, none⟩) (Nat.le_refl _) _).trans (belowK_b (Nat.le_refl _) _ D _ _ HDW.out hk2 rfl rfl)⟩)
            have HS1 := Lib.hid n1
            have HS2 : Hid ((wr.drew.setCell ⟨w.heap.size, 0, none⟩ (.bool true)).cell? ⟨n6, 0, none⟩ = some (.int .i64 (M.length : Int))) := Lib.hid ((World.cell?_setCell_far _ _ _ _ (by have := HN6.out; show w.heap.size ≠ n6; omega)).trans n1)
            have htt : ((M.length : Int) == (M.length : Int)) = true := by simp
            clear hr6 hr7 hr8 hb9 hB HLL HD HOD HD2 HB HNE hj hjl HM4
            gi_upto_region 30 with (fail)
            refine wpIn_wide.2 ?_
            go_region_held3 (fun wx => wx.cell? ⟨n6, 0, none⟩ = some (.int .i64 (M.length : Int))) (first | exact HS1.out | exact HS2.out)
              (first | (go_at_call 14; (with_reducible refine HOL.out.mono ?_); rintro e w6 ⟨rfl, h9⟩; obtain rfl := h9.symm))
            all_goals
              first | refine NoPanic.normal ?_ | skip
              gi_wp2
              exact Sk.done_cell rfl rfl HFIN.out.1 HFIN.out.2.1 ⟨rfl, HFIN.out.2.2⟩
      case stop =>
        rintro D c pre O W hD hpre hne h0 hK
        exact h0.elim
end Go.Proofs.YtfjhffldhpcdmaaDoor
