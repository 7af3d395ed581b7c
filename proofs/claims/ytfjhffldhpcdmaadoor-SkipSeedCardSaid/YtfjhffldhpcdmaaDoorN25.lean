/-
  The law SkipSeed, walked.
-/
import Derived.Test.YtfjhffldhpcdmaaDoorN30
import Derived.Sort.CutIn
namespace Go.Proofs.YtfjhffldhpcdmaaDoor
open Go Go.RowKit Go.Shelf
attribute [local go_sem] Oper.semAt_some
set_option linter.unusedSimpArgs false
theorem Sk.Un.snoc {L : List Sk.E} {j : Nat} {x : Sk.E} (h : Sk.Un (L.take j)) (hx : L[j]? = some x) (g : ∀ q z, q < j → L[q]? = some z → x.row ≠ [] → z.row ≠ [] → Kn.cmp (Sk.ke x) (Sk.ke z) ≠ 0) : Sk.Un (L.take (j + 1)) := by
  unfold Sk.Un
  rw [List.take_add_one, hx, List.pairwise_append]
  refine ⟨h, List.pairwise_singleton _ _, fun a ha b hb ha' hb' => ?_⟩
  obtain rfl : b = x := by simpa using hb
  obtain ⟨k, hk, e⟩ := List.getElem_of_mem ha
  rw [List.length_take] at hk
  have hk' : L[k]? = some a := by rw [← e, List.getElem_take]; exact List.getElem?_eq_getElem _
  have h1 := g k a (by omega) hk' hb' ha'
  have h2 := Sk.cmp_anti (Sk.ke a) (Sk.ke b)
  omega
set_option maxHeartbeats 16000000 in
set_option maxRecDepth 100000 in
theorem Sk.lawSeed_w {w : World} (hT : Sk.Tab w) (s t : Int) {v : Value} {L0 : List Sk.E} (hd : Sk.Deeds w v L0) :
    Calls Tryd.prog 6 #[.int .u64 s, .int .u64 t, v] w fun e w' => e = .returned (.bool true) ∧ Below w.heap.size w w' := by
  obtain ⟨wb, hwb⟩ : ∃ wb, wb = w.alloc (.cells #[.bool false] 4) := ⟨_, rfl⟩
  have hb0 : Below w.heap.size w wb := by rw [hwb]; exact (Below.refl _ w).alloc (Nat.le_refl _) _
  have hsb : wb.heap.size = w.heap.size + 1 := by rw [hwb]; simp
  have hrr : wb.heap[w.heap.size]? = some (.cells #[.bool false] 4 (0, 0)) := by rw [hwb]; exact heap_alloc_new w _
  obtain ⟨a, n, c, rfl, hnc, hcm, hD, hn0⟩ := (hd.later hb0).early
  have hLl : (L0.take 400).length ≤ 400 := by rw [List.length_take]; omega
  generalize L0.take 400 = L at hD hLl
  have HC : Hid (∀ W, Below wb.heap.size wb W → W.heap[w.heap.size]? = some (.cells #[.bool false] 4 (0, 0)) ∧ Below w.heap.size w W) := Lib.hid fun W g =>
    ⟨(g.block (w.heap.size) (by omega)).trans hrr, hb0.trans (g.mono hb0.size)⟩
  have HTB : Hid (Sk.Tab wb) := Lib.hid (hT.later hb0 hT.lt)
  have CL := Lib.hid (Sk.lives_c HTB.out)
  have HD := Lib.hid hD
  have HLL := Lib.hid hLl
  have hnl : min n 400 = L.length := hD.len.symm
  have HNN : Hid (n ≤ c ∧ c ≤ 9223372036854775807 ∧ min n 400 = L.length) := Lib.hid ⟨hnc, hcm, hnl⟩
  have HSB := Lib.hid hsb
  clear hsb hrr hb0 hT hd hD hn0 hnc hcm hnl hLl
  refine (callsIn_wide (n := 9)).1 ?_
  refine callsIn_of_wp_marks Tryd.func6 rfl trivial ?_ rfl
  simp only [Tryd.ntmps6, List.size_toArray, List.length_cons, List.length_nil, Nat.reduceAdd, Nat.reduceSub, Array.replicate_succ, Array.replicate_zero, List.push_toArray, List.append_toArray, List.nil_append, List.cons_append]
  gi_wp2_with (first
    | (rw [← hwb]; clear hwb; refine ⟨trivial, ?_⟩; gi_at_call 9; refine (callsIn_wide.2 CL.out).mono ?_; rintro e w1 ⟨rfl, g1⟩
       have G1 := Lib.hid g1
       clear g1 CL)
    | (refine ⟨trivial, ?_⟩; gi_at_call 10; refine (callsIn_wide.2 (Sk.early_c a n c HNN.out.1 HNN.out.2.1)).mono ?_; rintro e w2 ⟨rfl, h9⟩; obtain rfl := h9.symm; rw [HNN.out.2.2])
    | (refine ⟨trivial, ?_⟩; gi_at_call 11; refine (callsIn_wide.2 (Sk.PD.new (B := wb.heap.size) G1.out.size s)).mono ?_; rintro e w3 ⟨rfl, h3, g3⟩
       have HTW := Lib.hid (And.intro h3 (G1.out.trans (g3.mono G1.out.size)))
       generalize w1.heap.size = p at HTW h3 ⊢
       clear h3 g3 G1)
    | (refine ⟨trivial, ?_⟩; gi_at_call 11; refine (callsIn_wide.2 (Sk.PD.new (B := wb.heap.size) HTW.out.2.size t)).mono ?_; rintro e w4 ⟨rfl, h4, g4⟩
       have HDU := Lib.hid (Sk.Duo.new HTW.out.1 HTW.out.2 h4 g4 rfl)
       generalize w3.heap.size = q at HDU h4 ⊢
       clear h4 g4 HTW))
  have HXC : Hid (∀ X j x, Below w4.heap.size w4 X → L[j]? = some x → ∃ b o, a = some ⟨b, o, none⟩ ∧ X.cell? ⟨b, o + j * 2, none⟩ = some (.bool x.gone) ∧ X.cell? ⟨b, o + j * 2 + 1, none⟩ = some x.rv) := Lib.hid fun X j x g hx => HD.out.at_ X (HDU.out.below.trans (g.mono HDU.out.below.size)) j x hx
  have HBW : Hid (∀ X, Below w4.heap.size w4 X → Below wb.heap.size wb X) := Lib.hid fun X g => HDU.out.below.trans (g.mono HDU.out.below.size)
  gi_loopw [9] (fun i X => ∃ j : Nat, j ≤ L.length ∧ i = .int .i64 j ∧ Below w4.heap.size w4 X ∧ Sk.Un (L.take j)) (fun i _ => L.length - (intOf i).toNat)
  case atStart => exact ⟨0, Nat.zero_le _, rfl, Below.refl _ _, List.Pairwise.nil⟩
  case round =>
    obtain ⟨j, hj, rfl, hB1, hun⟩ := hrel
    have H1 := Lib.hid (And.intro hB1 hun)
    clear hB1 hun
    have hj0 : (0 : Int) ≤ (j : Int) := by omega
    by_cases hjl : j < L.length
    · have hji : (j : Int) < (L.length : Int) := by omega
      obtain ⟨x, hx⟩ : ∃ x, L[j]? = some x := ⟨_, List.getElem?_eq_getElem hjl⟩
      have HX := Lib.hid hx
      have hgx := HD.out.got x (List.mem_of_getElem? hx)
      have HGX := Lib.hid hgx
      obtain ⟨b, o, rfl, _, _⟩ := HXC.out wr j x H1.out.1 hx
      have hwj : IntKind.i64.wrap ((j : Int) + 1) = ((j + 1 : Nat) : Int) := by rw [IntKind.wrap_i64]; have := HLL.out; omega
      clear hx hgx
      gi_wp2
      gi_loopw [10] (fun i X => ∃ m : Nat, m ≤ j ∧ i = .int .i64 m ∧ Below w4.heap.size w4 X ∧ ∀ q z, q < m → L[q]? = some z → x.row ≠ [] → z.row ≠ [] → Kn.cmp (Sk.ke x) (Sk.ke z) ≠ 0) (fun i _ => j - (intOf i).toNat)
      case atStart => exact ⟨0, Nat.zero_le _, rfl, H1.out.1, fun q z h => absurd h (Nat.not_lt_zero _)⟩
      case round =>
        obtain ⟨m, hm, rfl, hB2, hne⟩ := hrel
        have H2 := Lib.hid (And.intro hB2 hne)
        clear hB2 hne
        have hm0 : (0 : Int) ≤ (m : Int) := by omega
        by_cases hml : m < j
        · have hmi : (m : Int) < (j : Int) := by omega
          have hmL : (m : Int) < (L.length : Int) := by omega
          obtain ⟨z, hz⟩ : ∃ z, L[m]? = some z := ⟨_, List.getElem?_eq_getElem (by omega)⟩
          have hgz := HD.out.got z (List.mem_of_getElem? hz)
          have hwm : IntKind.i64.wrap ((m : Int) + 1) = ((m + 1 : Nat) : Int) := by rw [IntKind.wrap_i64]; have := HLL.out; omega
          have HZC : Hid (∀ X, Below w4.heap.size w4 X → X.cell? ⟨b, o + j * 2 + 1, none⟩ = some x.rv ∧ X.cell? ⟨b, o + m * 2 + 1, none⟩ = some z.rv) := Lib.hid fun X gX => by
            obtain ⟨b1, o1, e1, _, y1⟩ := HXC.out X j x gX HX.out
            obtain ⟨b2, o2, e2, _, y2⟩ := HXC.out X m z gX hz
            simp only [Option.some.injEq, Addr.mk.injEq, and_true] at e1 e2
            obtain ⟨rfl, rfl⟩ := e1
            obtain ⟨rfl, rfl⟩ := e2
            exact ⟨y1, y2⟩
          have HBD : Hid (Below w4.heap.size w4 wr.drew) := Lib.hid H2.out.1.drew
          have HNX : Hid (∀ (W : World), Below w4.heap.size w4 W → (x.row ≠ [] → z.row ≠ [] → Kn.cmp (Sk.ke x) (Sk.ke z) ≠ 0) → Below w4.heap.size w4 W ∧ ∀ q z, q < m + 1 → L[q]? = some z → x.row ≠ [] → z.row ≠ [] → Kn.cmp (Sk.ke x) (Sk.ke z) ≠ 0) := Lib.hid fun W g hc => ⟨g, fun q' z' hq' hz' => by
            by_cases e : q' = m
            · subst e
              rw [hz] at hz'
              cases Option.some.inj hz'
              exact hc
            · exact H2.out.2 q' z' (by omega) hz'⟩
          clear hz
          by_cases hxe : x.row = []
          · obtain ⟨xra, xrc, hxv⟩ := HGX.out.slice
            obtain ⟨x1, z1⟩ := HZC.out _ HBD.out
            rw [hxv, hxe, List.length_nil] at x1
            have HK0 := Lib.hid x1
            have HE := Lib.hid (HNX.out wr H2.out.1 fun h => absurd hxe h)
            clear hgz hxv x1 z1 HZC hxe HNX H2
            gi_upto_region 11 with (fail)
            refine wpIn_wide.2 ?_
            refine wp_region_noPanic ?_
            refine wp_region_held_drew (S := fun wx => wx.cell? ⟨b, o + j * 2 + 1, none⟩ = some (.slice xra 0 xrc)) (by kernel_rfl) (HK0.out) (fun hHeld => ?_)
            refine wpAnyH_take (i := 0) (v := ?_) rfl (by kernel_rfl) (by kernel_rfl) (by kernel_rfl) (fun _ _ _ h => h) (Or.inl ⟨by rfl, ?_⟩) (by assumption) ?_
            rotate_left
            · (intro wx hSw; (try dsimp only at hSw); go_simp; (try with_reducible rfl))
            try simp only [Act.put, List.getElem_toArray, List.getElem_cons_zero, List.getElem_cons_succ, List.setIfInBounds_toArray, List.set_cons_zero, List.set_cons_succ]
            refine wpAnyH_take (i := 1) (v := ?_) rfl (by kernel_rfl) (by kernel_rfl) (by kernel_rfl) (fun _ _ _ h => h) (Or.inl ⟨by rfl, ?_⟩) (by assumption) ?_
            rotate_left
            · (intro wx hSw; (try dsimp only at hSw); go_simp; (try with_reducible rfl))
            try simp only [Act.put, List.getElem_toArray, List.getElem_cons_zero, List.getElem_cons_succ, List.setIfInBounds_toArray, List.set_cons_zero, List.set_cons_succ]
            refine wpAnyH_take (i := 2) (v := ?_) rfl (by kernel_rfl) (by kernel_rfl) (by kernel_rfl) (fun _ _ _ h => h) (Or.inl ⟨by rfl, ?_⟩) (by assumption) ?_
            rotate_left
            · (intro wx hSw; (try dsimp only at hSw); go_simp; (try with_reducible rfl))
            try simp only [Act.put, List.getElem_toArray, List.getElem_cons_zero, List.getElem_cons_succ, List.setIfInBounds_toArray, List.set_cons_zero, List.set_cons_succ]
            refine wpAnyH_take (i := 3) (v := ?_) rfl (by kernel_rfl) (by kernel_rfl) (by kernel_rfl) (fun _ _ _ h => h) (Or.inl ⟨by rfl, ?_⟩) (by assumption) ?_
            rotate_left
            · (intro wx hSw; (try dsimp only at hSw); go_simp; (try with_reducible rfl))
            try simp only [Act.put, List.getElem_toArray, List.getElem_cons_zero, List.getElem_cons_succ, List.setIfInBounds_toArray, List.set_cons_zero, List.set_cons_succ]
            refine wpAnyH_take (i := 4) (v := ?_) rfl (by kernel_rfl) (by kernel_rfl) (by kernel_rfl) (fun _ _ _ h => h) (Or.inl ⟨by rfl, ?_⟩) (by assumption) ?_
            rotate_left
            · (intro wx hSw; (try dsimp only at hSw); go_simp; (try with_reducible rfl))
            try simp only [Act.put, List.getElem_toArray, List.getElem_cons_zero, List.getElem_cons_succ, List.setIfInBounds_toArray, List.set_cons_zero, List.set_cons_succ]
            refine wpAnyH_take (i := 5) (v := ?_) rfl (by kernel_rfl) (by kernel_rfl) (by kernel_rfl) (fun _ _ _ h => h) (Or.inl ⟨by rfl, ?_⟩) (by assumption) ?_
            rotate_left
            · (intro wx hSw; (try dsimp only at hSw); go_simp; (try with_reducible rfl))
            try simp only [Act.put, List.getElem_toArray, List.getElem_cons_zero, List.getElem_cons_succ, List.setIfInBounds_toArray, List.set_cons_zero, List.set_cons_succ]
            refine wpAnyH_take (i := 6) (v := ?_) rfl (by kernel_rfl) (by kernel_rfl) (by kernel_rfl) (fun _ _ _ h => h) (Or.inl ⟨by rfl, ?_⟩) (by assumption) ?_
            rotate_left
            · (intro wx hSw; (try dsimp only at hSw); go_simp; (try with_reducible rfl))
            try simp only [Act.put, List.getElem_toArray, List.getElem_cons_zero, List.getElem_cons_succ, List.setIfInBounds_toArray, List.set_cons_zero, List.set_cons_succ]
            refine wpAnyH_take (i := 7) (v := ?_) rfl (by kernel_rfl) (by kernel_rfl) (by kernel_rfl) (fun _ _ _ h => h) (Or.inl ⟨by rfl, ?_⟩) (by assumption) ?_
            rotate_left
            · (intro wx hSw; (try dsimp only at hSw); go_simp; (try with_reducible rfl))
            try simp only [Act.put, List.getElem_toArray, List.getElem_cons_zero, List.getElem_cons_succ, List.setIfInBounds_toArray, List.set_cons_zero, List.set_cons_succ]
            refine wpAnyH_take (i := 8) (v := undef) rfl (by kernel_rfl) (by kernel_rfl) (by kernel_rfl) (fun _ _ _ h => h) (Or.inr ⟨by rfl, rfl⟩) (by assumption) ?_
            try simp only [Act.put, List.getElem_toArray, List.getElem_cons_zero, List.getElem_cons_succ, List.setIfInBounds_toArray, List.set_cons_zero, List.set_cons_succ]
            refine wpAnyH_take (i := 9) (v := undef) rfl (by kernel_rfl) (by kernel_rfl) (by kernel_rfl) (fun _ _ _ h => h) (Or.inr ⟨by rfl, rfl⟩) (by assumption) ?_
            try simp only [Act.put, List.getElem_toArray, List.getElem_cons_zero, List.getElem_cons_succ, List.setIfInBounds_toArray, List.set_cons_zero, List.set_cons_succ]
            refine wpAnyH_take (i := 10) (v := undef) rfl (by kernel_rfl) (by kernel_rfl) (by kernel_rfl) (fun _ _ _ h => h) (Or.inr ⟨by rfl, rfl⟩) (by assumption) ?_
            try simp only [Act.put, List.getElem_toArray, List.getElem_cons_zero, List.getElem_cons_succ, List.setIfInBounds_toArray, List.set_cons_zero, List.set_cons_succ]
            refine wpAnyH_take (i := 11) (v := undef) rfl (by kernel_rfl) (by kernel_rfl) (by kernel_rfl) (fun _ _ _ h => h) (Or.inr ⟨by rfl, rfl⟩) (by assumption) ?_
            try simp only [Act.put, List.getElem_toArray, List.getElem_cons_zero, List.getElem_cons_succ, List.setIfInBounds_toArray, List.set_cons_zero, List.set_cons_succ]
            refine wpAnyH_take (i := 12) (v := undef) rfl (by kernel_rfl) (by kernel_rfl) (by kernel_rfl) (fun _ _ _ h => h) (Or.inr ⟨by rfl, rfl⟩) (by assumption) ?_
            try simp only [Act.put, List.getElem_toArray, List.getElem_cons_zero, List.getElem_cons_succ, List.setIfInBounds_toArray, List.set_cons_zero, List.set_cons_succ]
            refine wpAnyH_take (i := 13) (v := undef) rfl (by kernel_rfl) (by kernel_rfl) (by kernel_rfl) (fun _ _ _ h => h) (Or.inr ⟨by rfl, rfl⟩) (by assumption) ?_
            try simp only [Act.put, List.getElem_toArray, List.getElem_cons_zero, List.getElem_cons_succ, List.setIfInBounds_toArray, List.set_cons_zero, List.set_cons_succ]
            refine wpAnyH_take (i := 14) (v := undef) rfl (by kernel_rfl) (by kernel_rfl) (by kernel_rfl) (fun _ _ _ h => h) (Or.inr ⟨by rfl, rfl⟩) (by assumption) ?_
            try simp only [Act.put, List.getElem_toArray, List.getElem_cons_zero, List.getElem_cons_succ, List.setIfInBounds_toArray, List.set_cons_zero, List.set_cons_succ]
            refine wpAnyH_take (i := 15) (v := ?_) rfl (by kernel_rfl) (by kernel_rfl) (by kernel_rfl) (fun _ _ _ h => h) (Or.inl ⟨by rfl, ?_⟩) (by assumption) ?_
            rotate_left
            · (intro wx hSw; (try dsimp only at hSw); go_simp; (try with_reducible rfl))
            try simp only [Act.put, List.getElem_toArray, List.getElem_cons_zero, List.getElem_cons_succ, List.setIfInBounds_toArray, List.set_cons_zero, List.set_cons_succ]
            refine wpAnyH_take (i := 16) (v := ?_) rfl (by kernel_rfl) (by kernel_rfl) (by kernel_rfl) (fun _ _ _ h => h) (Or.inl ⟨by rfl, ?_⟩) (by assumption) ?_
            rotate_left
            · (intro wx hSw; (try dsimp only at hSw); go_simp; (try with_reducible rfl))
            try simp only [Act.put, List.getElem_toArray, List.getElem_cons_zero, List.getElem_cons_succ, List.setIfInBounds_toArray, List.set_cons_zero, List.set_cons_succ]
            refine wpAnyH_take (i := 17) (v := undef) rfl (by kernel_rfl) (by kernel_rfl) (by kernel_rfl) (fun _ _ _ h => h) (Or.inr ⟨by rfl, rfl⟩) (by assumption) ?_
            try simp only [Act.put, List.getElem_toArray, List.getElem_cons_zero, List.getElem_cons_succ, List.setIfInBounds_toArray, List.set_cons_zero, List.set_cons_succ]
            refine wpAnyH_take (i := 18) (v := undef) rfl (by kernel_rfl) (by kernel_rfl) (by kernel_rfl) (fun _ _ _ h => h) (Or.inr ⟨by rfl, rfl⟩) (by assumption) ?_
            try simp only [Act.put, List.getElem_toArray, List.getElem_cons_zero, List.getElem_cons_succ, List.setIfInBounds_toArray, List.set_cons_zero, List.set_cons_succ]
            refine wpAnyH_take (i := 19) (v := undef) rfl (by kernel_rfl) (by kernel_rfl) (by kernel_rfl) (fun _ _ _ h => h) (Or.inr ⟨by rfl, rfl⟩) (by assumption) ?_
            try simp only [Act.put, List.getElem_toArray, List.getElem_cons_zero, List.getElem_cons_succ, List.setIfInBounds_toArray, List.set_cons_zero, List.set_cons_succ]
            refine wpAnyH_take (i := 20) (v := undef) rfl (by kernel_rfl) (by kernel_rfl) (by kernel_rfl) (fun _ _ _ h => h) (Or.inr ⟨by rfl, rfl⟩) (by assumption) ?_
            try simp only [Act.put, List.getElem_toArray, List.getElem_cons_zero, List.getElem_cons_succ, List.setIfInBounds_toArray, List.set_cons_zero, List.set_cons_succ]
            refine wpAnyH_take (i := 21) (v := undef) rfl (by kernel_rfl) (by kernel_rfl) (by kernel_rfl) (fun _ _ _ h => h) (Or.inr ⟨by rfl, rfl⟩) (by assumption) ?_
            try simp only [Act.put, List.getElem_toArray, List.getElem_cons_zero, List.getElem_cons_succ, List.setIfInBounds_toArray, List.set_cons_zero, List.set_cons_succ]
            refine wpAnyH_take (i := 22) (v := undef) rfl (by kernel_rfl) (by kernel_rfl) (by kernel_rfl) (fun _ _ _ h => h) (Or.inr ⟨by rfl, rfl⟩) (by assumption) ?_
            try simp only [Act.put, List.getElem_toArray, List.getElem_cons_zero, List.getElem_cons_succ, List.setIfInBounds_toArray, List.set_cons_zero, List.set_cons_succ]
            refine wpAnyH_take (i := 23) (v := undef) rfl (by kernel_rfl) (by kernel_rfl) (by kernel_rfl) (fun _ _ _ h => h) (Or.inr ⟨by rfl, rfl⟩) (by assumption) ?_
            try simp only [Act.put, List.getElem_toArray, List.getElem_cons_zero, List.getElem_cons_succ, List.setIfInBounds_toArray, List.set_cons_zero, List.set_cons_succ]
            refine wpAnyH_take (i := 24) (v := undef) rfl (by kernel_rfl) (by kernel_rfl) (by kernel_rfl) (fun _ _ _ h => h) (Or.inr ⟨by rfl, rfl⟩) (by assumption) ?_
            try simp only [Act.put, List.getElem_toArray, List.getElem_cons_zero, List.getElem_cons_succ, List.setIfInBounds_toArray, List.set_cons_zero, List.set_cons_succ]
            refine wpAnyH_take (i := 25) (v := undef) rfl (by kernel_rfl) (by kernel_rfl) (by kernel_rfl) (fun _ _ _ h => h) (Or.inr ⟨by rfl, rfl⟩) (by assumption) ?_
            try simp only [Act.put, List.getElem_toArray, List.getElem_cons_zero, List.getElem_cons_succ, List.setIfInBounds_toArray, List.set_cons_zero, List.set_cons_succ]
            refine wpAnyH_take (i := 26) (v := undef) rfl (by kernel_rfl) (by kernel_rfl) (by kernel_rfl) (fun _ _ _ h => h) (Or.inr ⟨by rfl, rfl⟩) (by assumption) ?_
            try simp only [Act.put, List.getElem_toArray, List.getElem_cons_zero, List.getElem_cons_succ, List.setIfInBounds_toArray, List.set_cons_zero, List.set_cons_succ]
            refine wpAnyH_take (i := 27) (v := undef) rfl (by kernel_rfl) (by kernel_rfl) (by kernel_rfl) (fun _ _ _ h => h) (Or.inr ⟨by rfl, rfl⟩) (by assumption) ?_
            try simp only [Act.put, List.getElem_toArray, List.getElem_cons_zero, List.getElem_cons_succ, List.setIfInBounds_toArray, List.set_cons_zero, List.set_cons_succ]
            refine wpAnyH_take (i := 28) (v := undef) rfl (by kernel_rfl) (by kernel_rfl) (by kernel_rfl) (fun _ _ _ h => h) (Or.inr ⟨by rfl, rfl⟩) (by assumption) ?_
            try simp only [Act.put, List.getElem_toArray, List.getElem_cons_zero, List.getElem_cons_succ, List.setIfInBounds_toArray, List.set_cons_zero, List.set_cons_succ]
            refine wpAnyH_take (i := 29) (v := undef) rfl (by kernel_rfl) (by kernel_rfl) (by kernel_rfl) (fun _ _ _ h => h) (Or.inr ⟨by rfl, rfl⟩) (by assumption) ?_
            try simp only [Act.put, List.getElem_toArray, List.getElem_cons_zero, List.getElem_cons_succ, List.setIfInBounds_toArray, List.set_cons_zero, List.set_cons_succ]
            refine wpAnyH_take (i := 30) (v := undef) rfl (by kernel_rfl) (by kernel_rfl) (by kernel_rfl) (fun _ _ _ h => h) (Or.inr ⟨by rfl, rfl⟩) (by assumption) ?_
            try simp only [Act.put, List.getElem_toArray, List.getElem_cons_zero, List.getElem_cons_succ, List.setIfInBounds_toArray, List.set_cons_zero, List.set_cons_succ]
            refine wpAnyH_take (i := 31) (v := undef) rfl (by kernel_rfl) (by kernel_rfl) (by kernel_rfl) (fun _ _ _ h => h) (Or.inr ⟨by rfl, rfl⟩) (by assumption) ?_
            try simp only [Act.put, List.getElem_toArray, List.getElem_cons_zero, List.getElem_cons_succ, List.setIfInBounds_toArray, List.set_cons_zero, List.set_cons_succ]
            refine wpAnyH_take (i := 32) (v := undef) rfl (by kernel_rfl) (by kernel_rfl) (by kernel_rfl) (fun _ _ _ h => h) (Or.inr ⟨by rfl, rfl⟩) (by assumption) ?_
            try simp only [Act.put, List.getElem_toArray, List.getElem_cons_zero, List.getElem_cons_succ, List.setIfInBounds_toArray, List.set_cons_zero, List.set_cons_succ]
            refine wpAnyH_take (i := 33) (v := ?_) rfl (by kernel_rfl) (by kernel_rfl) (by kernel_rfl) (fun _ _ _ h => h) (Or.inl ⟨by rfl, ?_⟩) (by assumption) ?_
            rotate_left
            · (intro wx hSw; (try dsimp only at hSw); go_simp; (try with_reducible rfl))
            try simp only [Act.put, List.getElem_toArray, List.getElem_cons_zero, List.getElem_cons_succ, List.setIfInBounds_toArray, List.set_cons_zero, List.set_cons_succ]
            refine wpAnyH_done (by kernel_rfl) ?_ _
            refine NoPanic.normal ?_
            clear hHeld
            gi_wp2
            exact ⟨⟨m + 1, by omega, by first | rfl | rw [hwm], ⟨HE.out.1.os, HE.out.1.tape, HE.out.1.output, HE.out.1.size, HE.out.1.block⟩, HE.out.2⟩, by simp [intOf]; omega⟩
          · obtain ⟨xk, xr, hxkr⟩ : ∃ k r, x.row = k :: r := by
              cases hxr : x.row with
              | nil => exact absurd hxr hxe
              | cons k r => exact ⟨k, r, rfl⟩
            obtain ⟨xg, xo, xc, hxv, _, hxkey, hxz⟩ := HGX.out.key hxkr
            have hkx : Sk.ke x = xk := Sk.kd_row' hxkr
            have hxl : 0 < x.row.length := by rw [hxkr]; simp
            rw [hxv] at HZC
            by_cases hze : z.row = []
            · obtain ⟨zra, zrc, hzv⟩ := hgz.slice
              obtain ⟨x1, z1⟩ := HZC.out _ HBD.out
              rw [hzv, hze, List.length_nil] at z1
              have HK0 := Lib.hid (And.intro x1 z1)
              have HE := Lib.hid (HNX.out wr H2.out.1 fun _ h => absurd hze h)
              clear hgz hxv hzv x1 z1 HZC hze hxe HNX H2 hxkey hxz hkx hxkr
              obtain ⟨xl, hxl'⟩ : ∃ m, m = x.row.length := ⟨_, rfl⟩
              rw [← hxl'] at HK0 hxl
              have hxli : (0 : Int) < (xl : Int) := by omega
              clear hxl'
              gi_upto_region 11 with (fail)
              refine wpIn_wide.2 ?_
              refine wp_region_noPanic ?_
              refine wp_region_held_drew (S := fun wx => wx.cell? ⟨b, o + j * 2 + 1, none⟩ = some (.slice (some ⟨xg, xo, none⟩) xl xc) ∧ wx.cell? ⟨b, o + m * 2 + 1, none⟩ = some (.slice zra 0 zrc)) (by kernel_rfl) (HK0.out) (fun hHeld => ?_)
              refine wpAnyH_take (i := 0) (v := ?_) rfl (by kernel_rfl) (by kernel_rfl) (by kernel_rfl) (fun _ _ _ h => h) (Or.inl ⟨by rfl, ?_⟩) (by assumption) ?_
              rotate_left
              · (intro wx hSw; (try dsimp only at hSw); go_simp; (try with_reducible rfl))
              try simp only [Act.put, List.getElem_toArray, List.getElem_cons_zero, List.getElem_cons_succ, List.setIfInBounds_toArray, List.set_cons_zero, List.set_cons_succ]
              refine wpAnyH_take (i := 1) (v := ?_) rfl (by kernel_rfl) (by kernel_rfl) (by kernel_rfl) (fun _ _ _ h => h) (Or.inl ⟨by rfl, ?_⟩) (by assumption) ?_
              rotate_left
              · (intro wx hSw; (try dsimp only at hSw); go_simp; (try with_reducible rfl))
              try simp only [Act.put, List.getElem_toArray, List.getElem_cons_zero, List.getElem_cons_succ, List.setIfInBounds_toArray, List.set_cons_zero, List.set_cons_succ]
              refine wpAnyH_take (i := 2) (v := ?_) rfl (by kernel_rfl) (by kernel_rfl) (by kernel_rfl) (fun _ _ _ h => h) (Or.inl ⟨by rfl, ?_⟩) (by assumption) ?_
              rotate_left
              · (intro wx hSw; (try dsimp only at hSw); go_simp; (try with_reducible rfl))
              try simp only [Act.put, List.getElem_toArray, List.getElem_cons_zero, List.getElem_cons_succ, List.setIfInBounds_toArray, List.set_cons_zero, List.set_cons_succ]
              refine wpAnyH_take (i := 3) (v := ?_) rfl (by kernel_rfl) (by kernel_rfl) (by kernel_rfl) (fun _ _ _ h => h) (Or.inl ⟨by rfl, ?_⟩) (by assumption) ?_
              rotate_left
              · (intro wx hSw; (try dsimp only at hSw); go_simp; (try with_reducible rfl))
              try simp only [Act.put, List.getElem_toArray, List.getElem_cons_zero, List.getElem_cons_succ, List.setIfInBounds_toArray, List.set_cons_zero, List.set_cons_succ]
              refine wpAnyH_take (i := 4) (v := ?_) rfl (by kernel_rfl) (by kernel_rfl) (by kernel_rfl) (fun _ _ _ h => h) (Or.inl ⟨by rfl, ?_⟩) (by assumption) ?_
              rotate_left
              · (intro wx hSw; (try dsimp only at hSw); go_simp; (try with_reducible rfl))
              try simp only [Act.put, List.getElem_toArray, List.getElem_cons_zero, List.getElem_cons_succ, List.setIfInBounds_toArray, List.set_cons_zero, List.set_cons_succ]
              refine wpAnyH_take (i := 5) (v := ?_) rfl (by kernel_rfl) (by kernel_rfl) (by kernel_rfl) (fun _ _ _ h => h) (Or.inl ⟨by rfl, ?_⟩) (by assumption) ?_
              rotate_left
              · (intro wx hSw; (try dsimp only at hSw); go_simp; (try with_reducible rfl))
              try simp only [Act.put, List.getElem_toArray, List.getElem_cons_zero, List.getElem_cons_succ, List.setIfInBounds_toArray, List.set_cons_zero, List.set_cons_succ]
              refine wpAnyH_take (i := 6) (v := ?_) rfl (by kernel_rfl) (by kernel_rfl) (by kernel_rfl) (fun _ _ _ h => h) (Or.inl ⟨by rfl, ?_⟩) (by assumption) ?_
              rotate_left
              · (intro wx hSw; (try dsimp only at hSw); go_simp; (try with_reducible rfl))
              try simp only [Act.put, List.getElem_toArray, List.getElem_cons_zero, List.getElem_cons_succ, List.setIfInBounds_toArray, List.set_cons_zero, List.set_cons_succ]
              refine wpAnyH_take (i := 7) (v := ?_) rfl (by kernel_rfl) (by kernel_rfl) (by kernel_rfl) (fun _ _ _ h => h) (Or.inl ⟨by rfl, ?_⟩) (by assumption) ?_
              rotate_left
              · (intro wx hSw; (try dsimp only at hSw); go_simp; (try with_reducible rfl))
              try simp only [Act.put, List.getElem_toArray, List.getElem_cons_zero, List.getElem_cons_succ, List.setIfInBounds_toArray, List.set_cons_zero, List.set_cons_succ]
              refine wpAnyH_take (i := 8) (v := ?_) rfl (by kernel_rfl) (by kernel_rfl) (by kernel_rfl) (fun _ _ _ h => h) (Or.inl ⟨by rfl, ?_⟩) (by assumption) ?_
              rotate_left
              · (intro wx hSw; (try dsimp only at hSw); go_simp; (try with_reducible rfl))
              try simp only [Act.put, List.getElem_toArray, List.getElem_cons_zero, List.getElem_cons_succ, List.setIfInBounds_toArray, List.set_cons_zero, List.set_cons_succ]
              refine wpAnyH_take (i := 9) (v := ?_) rfl (by kernel_rfl) (by kernel_rfl) (by kernel_rfl) (fun _ _ _ h => h) (Or.inl ⟨by rfl, ?_⟩) (by assumption) ?_
              rotate_left
              · (intro wx hSw; (try dsimp only at hSw); go_simp; (try with_reducible rfl))
              try simp only [Act.put, List.getElem_toArray, List.getElem_cons_zero, List.getElem_cons_succ, List.setIfInBounds_toArray, List.set_cons_zero, List.set_cons_succ]
              refine wpAnyH_take (i := 10) (v := ?_) rfl (by kernel_rfl) (by kernel_rfl) (by kernel_rfl) (fun _ _ _ h => h) (Or.inl ⟨by rfl, ?_⟩) (by assumption) ?_
              rotate_left
              · (intro wx hSw; (try dsimp only at hSw); go_simp; (try with_reducible rfl))
              try simp only [Act.put, List.getElem_toArray, List.getElem_cons_zero, List.getElem_cons_succ, List.setIfInBounds_toArray, List.set_cons_zero, List.set_cons_succ]
              refine wpAnyH_take (i := 11) (v := ?_) rfl (by kernel_rfl) (by kernel_rfl) (by kernel_rfl) (fun _ _ _ h => h) (Or.inl ⟨by rfl, ?_⟩) (by assumption) ?_
              rotate_left
              · (intro wx hSw; (try dsimp only at hSw); go_simp; (try with_reducible rfl))
              try simp only [Act.put, List.getElem_toArray, List.getElem_cons_zero, List.getElem_cons_succ, List.setIfInBounds_toArray, List.set_cons_zero, List.set_cons_succ]
              refine wpAnyH_take (i := 12) (v := ?_) rfl (by kernel_rfl) (by kernel_rfl) (by kernel_rfl) (fun _ _ _ h => h) (Or.inl ⟨by rfl, ?_⟩) (by assumption) ?_
              rotate_left
              · (intro wx hSw; (try dsimp only at hSw); go_simp; (try with_reducible rfl))
              try simp only [Act.put, List.getElem_toArray, List.getElem_cons_zero, List.getElem_cons_succ, List.setIfInBounds_toArray, List.set_cons_zero, List.set_cons_succ]
              refine wpAnyH_take (i := 13) (v := ?_) rfl (by kernel_rfl) (by kernel_rfl) (by kernel_rfl) (fun _ _ _ h => h) (Or.inl ⟨by rfl, ?_⟩) (by assumption) ?_
              rotate_left
              · (intro wx hSw; (try dsimp only at hSw); go_simp; (try with_reducible rfl))
              try simp only [Act.put, List.getElem_toArray, List.getElem_cons_zero, List.getElem_cons_succ, List.setIfInBounds_toArray, List.set_cons_zero, List.set_cons_succ]
              refine wpAnyH_take (i := 14) (v := ?_) rfl (by kernel_rfl) (by kernel_rfl) (by kernel_rfl) (fun _ _ _ h => h) (Or.inl ⟨by rfl, ?_⟩) (by assumption) ?_
              rotate_left
              · (intro wx hSw; (try dsimp only at hSw); go_simp; (try with_reducible rfl))
              try simp only [Act.put, List.getElem_toArray, List.getElem_cons_zero, List.getElem_cons_succ, List.setIfInBounds_toArray, List.set_cons_zero, List.set_cons_succ]
              refine wpAnyH_take (i := 15) (v := ?_) rfl (by kernel_rfl) (by kernel_rfl) (by kernel_rfl) (fun _ _ _ h => h) (Or.inl ⟨by rfl, ?_⟩) (by assumption) ?_
              rotate_left
              · (intro wx hSw; (try dsimp only at hSw); go_simp; (try with_reducible rfl))
              try simp only [Act.put, List.getElem_toArray, List.getElem_cons_zero, List.getElem_cons_succ, List.setIfInBounds_toArray, List.set_cons_zero, List.set_cons_succ]
              refine wpAnyH_take (i := 16) (v := ?_) rfl (by kernel_rfl) (by kernel_rfl) (by kernel_rfl) (fun _ _ _ h => h) (Or.inl ⟨by rfl, ?_⟩) (by assumption) ?_
              rotate_left
              · (intro wx hSw; (try dsimp only at hSw); go_simp; (try with_reducible rfl))
              try simp only [Act.put, List.getElem_toArray, List.getElem_cons_zero, List.getElem_cons_succ, List.setIfInBounds_toArray, List.set_cons_zero, List.set_cons_succ]
              refine wpAnyH_take (i := 17) (v := undef) rfl (by kernel_rfl) (by kernel_rfl) (by kernel_rfl) (fun _ _ _ h => h) (Or.inr ⟨by rfl, rfl⟩) (by assumption) ?_
              try simp only [Act.put, List.getElem_toArray, List.getElem_cons_zero, List.getElem_cons_succ, List.setIfInBounds_toArray, List.set_cons_zero, List.set_cons_succ]
              refine wpAnyH_take (i := 18) (v := undef) rfl (by kernel_rfl) (by kernel_rfl) (by kernel_rfl) (fun _ _ _ h => h) (Or.inr ⟨by rfl, rfl⟩) (by assumption) ?_
              try simp only [Act.put, List.getElem_toArray, List.getElem_cons_zero, List.getElem_cons_succ, List.setIfInBounds_toArray, List.set_cons_zero, List.set_cons_succ]
              refine wpAnyH_take (i := 19) (v := undef) rfl (by kernel_rfl) (by kernel_rfl) (by kernel_rfl) (fun _ _ _ h => h) (Or.inr ⟨by rfl, rfl⟩) (by assumption) ?_
              try simp only [Act.put, List.getElem_toArray, List.getElem_cons_zero, List.getElem_cons_succ, List.setIfInBounds_toArray, List.set_cons_zero, List.set_cons_succ]
              refine wpAnyH_take (i := 20) (v := undef) rfl (by kernel_rfl) (by kernel_rfl) (by kernel_rfl) (fun _ _ _ h => h) (Or.inr ⟨by rfl, rfl⟩) (by assumption) ?_
              try simp only [Act.put, List.getElem_toArray, List.getElem_cons_zero, List.getElem_cons_succ, List.setIfInBounds_toArray, List.set_cons_zero, List.set_cons_succ]
              refine wpAnyH_take (i := 21) (v := undef) rfl (by kernel_rfl) (by kernel_rfl) (by kernel_rfl) (fun _ _ _ h => h) (Or.inr ⟨by rfl, rfl⟩) (by assumption) ?_
              try simp only [Act.put, List.getElem_toArray, List.getElem_cons_zero, List.getElem_cons_succ, List.setIfInBounds_toArray, List.set_cons_zero, List.set_cons_succ]
              refine wpAnyH_take (i := 22) (v := undef) rfl (by kernel_rfl) (by kernel_rfl) (by kernel_rfl) (fun _ _ _ h => h) (Or.inr ⟨by rfl, rfl⟩) (by assumption) ?_
              try simp only [Act.put, List.getElem_toArray, List.getElem_cons_zero, List.getElem_cons_succ, List.setIfInBounds_toArray, List.set_cons_zero, List.set_cons_succ]
              refine wpAnyH_take (i := 23) (v := undef) rfl (by kernel_rfl) (by kernel_rfl) (by kernel_rfl) (fun _ _ _ h => h) (Or.inr ⟨by rfl, rfl⟩) (by assumption) ?_
              try simp only [Act.put, List.getElem_toArray, List.getElem_cons_zero, List.getElem_cons_succ, List.setIfInBounds_toArray, List.set_cons_zero, List.set_cons_succ]
              refine wpAnyH_take (i := 24) (v := undef) rfl (by kernel_rfl) (by kernel_rfl) (by kernel_rfl) (fun _ _ _ h => h) (Or.inr ⟨by rfl, rfl⟩) (by assumption) ?_
              try simp only [Act.put, List.getElem_toArray, List.getElem_cons_zero, List.getElem_cons_succ, List.setIfInBounds_toArray, List.set_cons_zero, List.set_cons_succ]
              refine wpAnyH_take (i := 25) (v := undef) rfl (by kernel_rfl) (by kernel_rfl) (by kernel_rfl) (fun _ _ _ h => h) (Or.inr ⟨by rfl, rfl⟩) (by assumption) ?_
              try simp only [Act.put, List.getElem_toArray, List.getElem_cons_zero, List.getElem_cons_succ, List.setIfInBounds_toArray, List.set_cons_zero, List.set_cons_succ]
              refine wpAnyH_take (i := 26) (v := undef) rfl (by kernel_rfl) (by kernel_rfl) (by kernel_rfl) (fun _ _ _ h => h) (Or.inr ⟨by rfl, rfl⟩) (by assumption) ?_
              try simp only [Act.put, List.getElem_toArray, List.getElem_cons_zero, List.getElem_cons_succ, List.setIfInBounds_toArray, List.set_cons_zero, List.set_cons_succ]
              refine wpAnyH_take (i := 27) (v := undef) rfl (by kernel_rfl) (by kernel_rfl) (by kernel_rfl) (fun _ _ _ h => h) (Or.inr ⟨by rfl, rfl⟩) (by assumption) ?_
              try simp only [Act.put, List.getElem_toArray, List.getElem_cons_zero, List.getElem_cons_succ, List.setIfInBounds_toArray, List.set_cons_zero, List.set_cons_succ]
              refine wpAnyH_take (i := 28) (v := undef) rfl (by kernel_rfl) (by kernel_rfl) (by kernel_rfl) (fun _ _ _ h => h) (Or.inr ⟨by rfl, rfl⟩) (by assumption) ?_
              try simp only [Act.put, List.getElem_toArray, List.getElem_cons_zero, List.getElem_cons_succ, List.setIfInBounds_toArray, List.set_cons_zero, List.set_cons_succ]
              refine wpAnyH_take (i := 29) (v := undef) rfl (by kernel_rfl) (by kernel_rfl) (by kernel_rfl) (fun _ _ _ h => h) (Or.inr ⟨by rfl, rfl⟩) (by assumption) ?_
              try simp only [Act.put, List.getElem_toArray, List.getElem_cons_zero, List.getElem_cons_succ, List.setIfInBounds_toArray, List.set_cons_zero, List.set_cons_succ]
              refine wpAnyH_take (i := 30) (v := undef) rfl (by kernel_rfl) (by kernel_rfl) (by kernel_rfl) (fun _ _ _ h => h) (Or.inr ⟨by rfl, rfl⟩) (by assumption) ?_
              try simp only [Act.put, List.getElem_toArray, List.getElem_cons_zero, List.getElem_cons_succ, List.setIfInBounds_toArray, List.set_cons_zero, List.set_cons_succ]
              refine wpAnyH_take (i := 31) (v := undef) rfl (by kernel_rfl) (by kernel_rfl) (by kernel_rfl) (fun _ _ _ h => h) (Or.inr ⟨by rfl, rfl⟩) (by assumption) ?_
              try simp only [Act.put, List.getElem_toArray, List.getElem_cons_zero, List.getElem_cons_succ, List.setIfInBounds_toArray, List.set_cons_zero, List.set_cons_succ]
              refine wpAnyH_take (i := 32) (v := undef) rfl (by kernel_rfl) (by kernel_rfl) (by kernel_rfl) (fun _ _ _ h => h) (Or.inr ⟨by rfl, rfl⟩) (by assumption) ?_
              try simp only [Act.put, List.getElem_toArray, List.getElem_cons_zero, List.getElem_cons_succ, List.setIfInBounds_toArray, List.set_cons_zero, List.set_cons_succ]
              refine wpAnyH_take (i := 33) (v := ?_) rfl (by kernel_rfl) (by kernel_rfl) (by kernel_rfl) (fun _ _ _ h => h) (Or.inl ⟨by rfl, ?_⟩) (by assumption) ?_
              rotate_left
              · (intro wx hSw; (try dsimp only at hSw); go_simp; (try with_reducible rfl))
              try simp only [Act.put, List.getElem_toArray, List.getElem_cons_zero, List.getElem_cons_succ, List.setIfInBounds_toArray, List.set_cons_zero, List.set_cons_succ]
              refine wpAnyH_done (by kernel_rfl) ?_ _
              refine NoPanic.normal ?_
              clear hHeld
              gi_wp2
              exact ⟨⟨m + 1, by omega, by first | rfl | rw [hwm], ⟨HE.out.1.os, HE.out.1.tape, HE.out.1.output, HE.out.1.size, HE.out.1.block⟩, HE.out.2⟩, by simp [intOf]; omega⟩
            · obtain ⟨zk, zr, hzkr⟩ : ∃ k r, z.row = k :: r := by
                cases hxr : z.row with
                | nil => exact absurd hxr hze
                | cons k r => exact ⟨k, r, rfl⟩
              obtain ⟨zg, zo, zc, hzv, _, hzkey, hzz⟩ := hgz.key hzkr
              have hkz : Sk.ke z = zk := Sk.kd_row' hzkr
              have hzl : 0 < z.row.length := by rw [hzkr]; simp
              rw [hzv] at HZC
              have hcc : Kn.cmp (Sk.ke x) (Sk.ke z) = Kn.cmp xk zk := by rw [hkx, hkz]
              have HCC := Lib.hid hcc
              clear hcc
              have CC := Lib.hid (fun W' => Kn.rCompare_c xk zk hxz hzz W')
              obtain ⟨xn, xi, xs⟩ := xk
              obtain ⟨zn, zi, zs⟩ := zk
              have HKX : Hid (∀ X, Below w4.heap.size w4 X → Kn.At X xg xo ⟨xn, xi, xs⟩ ∧ Kn.At X zg zo ⟨zn, zi, zs⟩) := Lib.hid fun X gX => ⟨hxkey.later (HBW.out X gX), hzkey.later (HBW.out X gX)⟩
              unfold Kn.V.val at CC
              obtain ⟨xl, hxl'⟩ : ∃ m, m = x.row.length := ⟨_, rfl⟩
              obtain ⟨zl, hzl'⟩ : ∃ m, m = z.row.length := ⟨_, rfl⟩
              rw [← hxl', ← hzl'] at HZC
              rw [← hxl'] at hxl
              rw [← hzl'] at hzl
              have hxli : (0 : Int) < (xl : Int) := by omega
              have hzli : (0 : Int) < (zl : Int) := by omega
              have HK1 : Hid (∀ X, Below w4.heap.size w4 X → X.cell? ⟨b, o + j * 2 + 1, none⟩ = some (.slice (some ⟨xg, xo, none⟩) xl xc) ∧ X.cell? ⟨b, o + m * 2 + 1, none⟩ = some (.slice (some ⟨zg, zo, none⟩) zl zc) ∧ (X.cell? ⟨xg, xo, none⟩ = some (.bool xn) ∧ X.cell? ⟨xg, xo + 1, none⟩ = some (.int .i64 xi) ∧ X.cell? ⟨xg, xo + 2, none⟩ = some (.string xs)) ∧ X.cell? ⟨zg, zo, none⟩ = some (.bool zn) ∧ X.cell? ⟨zg, zo + 1, none⟩ = some (.int .i64 zi) ∧ X.cell? ⟨zg, zo + 2, none⟩ = some (.string zs)) := Lib.hid fun X gX => by
                obtain ⟨⟨a0, a1, a2⟩, c0, c1, c2⟩ := HKX.out X gX
                exact ⟨(HZC.out X gX).1, (HZC.out X gX).2, ⟨a0, a1, a2⟩, c0, c1, c2⟩
              have HB6 : Hid (∀ X, Below wr.drew.heap.size wr.drew X → Below w4.heap.size w4 X) := Lib.hid fun X gX => HBD.out.trans (gX.mono HBD.out.size)
              clear hgz hxv hzv HZC hze hxe hxkey hxz hkx hxkr hzkey hzz hkz hzkr hxl' hzl' HKX
              by_cases hcm : Kn.cmp ⟨xn, xi, xs⟩ ⟨zn, zi, zs⟩ = 0
              · rw [hcm] at CC
                clear HNX hcm H1 H2
                gi_upto_region 11 with (fail)
                refine wpIn_wide.2 ?_
                refine wp_region_noPanic ?_
                refine wp_region_held_drew (S := fun wx => wx.cell? ⟨b, o + j * 2 + 1, none⟩ = some (.slice (some ⟨xg, xo, none⟩) xl xc) ∧ wx.cell? ⟨b, o + m * 2 + 1, none⟩ = some (.slice (some ⟨zg, zo, none⟩) zl zc) ∧ (wx.cell? ⟨xg, xo, none⟩ = some (.bool xn) ∧ wx.cell? ⟨xg, xo + 1, none⟩ = some (.int .i64 xi) ∧ wx.cell? ⟨xg, xo + 2, none⟩ = some (.string xs)) ∧ wx.cell? ⟨zg, zo, none⟩ = some (.bool zn) ∧ wx.cell? ⟨zg, zo + 1, none⟩ = some (.int .i64 zi) ∧ wx.cell? ⟨zg, zo + 2, none⟩ = some (.string zs)) (by kernel_rfl) (HK1.out _ HBD.out) (fun hHeld => ?_)
                refine wpAnyH_take (i := 0) (v := ?_) rfl (by kernel_rfl) (by kernel_rfl) (by kernel_rfl) (fun _ _ _ h => h) (Or.inl ⟨by rfl, ?_⟩) (by assumption) ?_
                rotate_left
                · (intro wx hSw; (try dsimp only at hSw); go_simp; (try with_reducible rfl))
                try simp only [Act.put, List.getElem_toArray, List.getElem_cons_zero, List.getElem_cons_succ, List.setIfInBounds_toArray, List.set_cons_zero, List.set_cons_succ]
                refine wpAnyH_take (i := 1) (v := ?_) rfl (by kernel_rfl) (by kernel_rfl) (by kernel_rfl) (fun _ _ _ h => h) (Or.inl ⟨by rfl, ?_⟩) (by assumption) ?_
                rotate_left
                · (intro wx hSw; (try dsimp only at hSw); go_simp; (try with_reducible rfl))
                try simp only [Act.put, List.getElem_toArray, List.getElem_cons_zero, List.getElem_cons_succ, List.setIfInBounds_toArray, List.set_cons_zero, List.set_cons_succ]
                refine wpAnyH_take (i := 2) (v := ?_) rfl (by kernel_rfl) (by kernel_rfl) (by kernel_rfl) (fun _ _ _ h => h) (Or.inl ⟨by rfl, ?_⟩) (by assumption) ?_
                rotate_left
                · (intro wx hSw; (try dsimp only at hSw); go_simp; (try with_reducible rfl))
                try simp only [Act.put, List.getElem_toArray, List.getElem_cons_zero, List.getElem_cons_succ, List.setIfInBounds_toArray, List.set_cons_zero, List.set_cons_succ]
                refine wpAnyH_take (i := 3) (v := ?_) rfl (by kernel_rfl) (by kernel_rfl) (by kernel_rfl) (fun _ _ _ h => h) (Or.inl ⟨by rfl, ?_⟩) (by assumption) ?_
                rotate_left
                · (intro wx hSw; (try dsimp only at hSw); go_simp; (try with_reducible rfl))
                try simp only [Act.put, List.getElem_toArray, List.getElem_cons_zero, List.getElem_cons_succ, List.setIfInBounds_toArray, List.set_cons_zero, List.set_cons_succ]
                refine wpAnyH_take (i := 4) (v := ?_) rfl (by kernel_rfl) (by kernel_rfl) (by kernel_rfl) (fun _ _ _ h => h) (Or.inl ⟨by rfl, ?_⟩) (by assumption) ?_
                rotate_left
                · (intro wx hSw; (try dsimp only at hSw); go_simp; (try with_reducible rfl))
                try simp only [Act.put, List.getElem_toArray, List.getElem_cons_zero, List.getElem_cons_succ, List.setIfInBounds_toArray, List.set_cons_zero, List.set_cons_succ]
                refine wpAnyH_take (i := 5) (v := ?_) rfl (by kernel_rfl) (by kernel_rfl) (by kernel_rfl) (fun _ _ _ h => h) (Or.inl ⟨by rfl, ?_⟩) (by assumption) ?_
                rotate_left
                · (intro wx hSw; (try dsimp only at hSw); go_simp; (try with_reducible rfl))
                try simp only [Act.put, List.getElem_toArray, List.getElem_cons_zero, List.getElem_cons_succ, List.setIfInBounds_toArray, List.set_cons_zero, List.set_cons_succ]
                refine wpAnyH_take (i := 6) (v := ?_) rfl (by kernel_rfl) (by kernel_rfl) (by kernel_rfl) (fun _ _ _ h => h) (Or.inl ⟨by rfl, ?_⟩) (by assumption) ?_
                rotate_left
                · (intro wx hSw; (try dsimp only at hSw); go_simp; (try with_reducible rfl))
                try simp only [Act.put, List.getElem_toArray, List.getElem_cons_zero, List.getElem_cons_succ, List.setIfInBounds_toArray, List.set_cons_zero, List.set_cons_succ]
                refine wpAnyH_take (i := 7) (v := ?_) rfl (by kernel_rfl) (by kernel_rfl) (by kernel_rfl) (fun _ _ _ h => h) (Or.inl ⟨by rfl, ?_⟩) (by assumption) ?_
                rotate_left
                · (intro wx hSw; (try dsimp only at hSw); go_simp; (try with_reducible rfl))
                try simp only [Act.put, List.getElem_toArray, List.getElem_cons_zero, List.getElem_cons_succ, List.setIfInBounds_toArray, List.set_cons_zero, List.set_cons_succ]
                refine wpAnyH_take (i := 8) (v := ?_) rfl (by kernel_rfl) (by kernel_rfl) (by kernel_rfl) (fun _ _ _ h => h) (Or.inl ⟨by rfl, ?_⟩) (by assumption) ?_
                rotate_left
                · (intro wx hSw; (try dsimp only at hSw); go_simp; (try with_reducible rfl))
                try simp only [Act.put, List.getElem_toArray, List.getElem_cons_zero, List.getElem_cons_succ, List.setIfInBounds_toArray, List.set_cons_zero, List.set_cons_succ]
                refine wpAnyH_take (i := 9) (v := ?_) rfl (by kernel_rfl) (by kernel_rfl) (by kernel_rfl) (fun _ _ _ h => h) (Or.inl ⟨by rfl, ?_⟩) (by assumption) ?_
                rotate_left
                · (intro wx hSw; (try dsimp only at hSw); go_simp; (try with_reducible rfl))
                try simp only [Act.put, List.getElem_toArray, List.getElem_cons_zero, List.getElem_cons_succ, List.setIfInBounds_toArray, List.set_cons_zero, List.set_cons_succ]
                refine wpAnyH_take (i := 10) (v := ?_) rfl (by kernel_rfl) (by kernel_rfl) (by kernel_rfl) (fun _ _ _ h => h) (Or.inl ⟨by rfl, ?_⟩) (by assumption) ?_
                rotate_left
                · (intro wx hSw; (try dsimp only at hSw); go_simp; (try with_reducible rfl))
                try simp only [Act.put, List.getElem_toArray, List.getElem_cons_zero, List.getElem_cons_succ, List.setIfInBounds_toArray, List.set_cons_zero, List.set_cons_succ]
                refine wpAnyH_take (i := 11) (v := ?_) rfl (by kernel_rfl) (by kernel_rfl) (by kernel_rfl) (fun _ _ _ h => h) (Or.inl ⟨by rfl, ?_⟩) (by assumption) ?_
                rotate_left
                · (intro wx hSw; (try dsimp only at hSw); go_simp; (try with_reducible rfl))
                try simp only [Act.put, List.getElem_toArray, List.getElem_cons_zero, List.getElem_cons_succ, List.setIfInBounds_toArray, List.set_cons_zero, List.set_cons_succ]
                refine wpAnyH_take (i := 12) (v := ?_) rfl (by kernel_rfl) (by kernel_rfl) (by kernel_rfl) (fun _ _ _ h => h) (Or.inl ⟨by rfl, ?_⟩) (by assumption) ?_
                rotate_left
                · (intro wx hSw; (try dsimp only at hSw); go_simp; (try with_reducible rfl))
                try simp only [Act.put, List.getElem_toArray, List.getElem_cons_zero, List.getElem_cons_succ, List.setIfInBounds_toArray, List.set_cons_zero, List.set_cons_succ]
                refine wpAnyH_take (i := 13) (v := ?_) rfl (by kernel_rfl) (by kernel_rfl) (by kernel_rfl) (fun _ _ _ h => h) (Or.inl ⟨by rfl, ?_⟩) (by assumption) ?_
                rotate_left
                · (intro wx hSw; (try dsimp only at hSw); go_simp; (try with_reducible rfl))
                try simp only [Act.put, List.getElem_toArray, List.getElem_cons_zero, List.getElem_cons_succ, List.setIfInBounds_toArray, List.set_cons_zero, List.set_cons_succ]
                refine wpAnyH_take (i := 14) (v := ?_) rfl (by kernel_rfl) (by kernel_rfl) (by kernel_rfl) (fun _ _ _ h => h) (Or.inl ⟨by rfl, ?_⟩) (by assumption) ?_
                rotate_left
                · (intro wx hSw; (try dsimp only at hSw); go_simp; (try with_reducible rfl))
                try simp only [Act.put, List.getElem_toArray, List.getElem_cons_zero, List.getElem_cons_succ, List.setIfInBounds_toArray, List.set_cons_zero, List.set_cons_succ]
                refine wpAnyH_take (i := 15) (v := ?_) rfl (by kernel_rfl) (by kernel_rfl) (by kernel_rfl) (fun _ _ _ h => h) (Or.inl ⟨by rfl, ?_⟩) (by assumption) ?_
                rotate_left
                · (intro wx hSw; (try dsimp only at hSw); go_simp; (try with_reducible rfl))
                try simp only [Act.put, List.getElem_toArray, List.getElem_cons_zero, List.getElem_cons_succ, List.setIfInBounds_toArray, List.set_cons_zero, List.set_cons_succ]
                refine wpAnyH_take (i := 16) (v := ?_) rfl (by kernel_rfl) (by kernel_rfl) (by kernel_rfl) (fun _ _ _ h => h) (Or.inl ⟨by rfl, ?_⟩) (by assumption) ?_
                rotate_left
                · (intro wx hSw; (try dsimp only at hSw); go_simp; (try with_reducible rfl))
                try simp only [Act.put, List.getElem_toArray, List.getElem_cons_zero, List.getElem_cons_succ, List.setIfInBounds_toArray, List.set_cons_zero, List.set_cons_succ]
                refine wpAnyH_take (i := 17) (v := ?_) rfl (by kernel_rfl) (by kernel_rfl) (by kernel_rfl) (fun _ _ _ h => h) (Or.inl ⟨by rfl, ?_⟩) (by assumption) ?_
                rotate_left
                · (intro wx hSw; (try dsimp only at hSw); go_simp; (try with_reducible rfl))
                try simp only [Act.put, List.getElem_toArray, List.getElem_cons_zero, List.getElem_cons_succ, List.setIfInBounds_toArray, List.set_cons_zero, List.set_cons_succ]
                refine wpAnyH_take (i := 18) (v := ?_) rfl (by kernel_rfl) (by kernel_rfl) (by kernel_rfl) (fun _ _ _ h => h) (Or.inl ⟨by rfl, ?_⟩) (by assumption) ?_
                rotate_left
                · (intro wx hSw; (try dsimp only at hSw); go_simp; (try with_reducible rfl))
                try simp only [Act.put, List.getElem_toArray, List.getElem_cons_zero, List.getElem_cons_succ, List.setIfInBounds_toArray, List.set_cons_zero, List.set_cons_succ]
                refine wpAnyH_take (i := 19) (v := ?_) rfl (by kernel_rfl) (by kernel_rfl) (by kernel_rfl) (fun _ _ _ h => h) (Or.inl ⟨by rfl, ?_⟩) (by assumption) ?_
                rotate_left
                · (intro wx hSw; (try dsimp only at hSw); go_simp; (try with_reducible rfl))
                try simp only [Act.put, List.getElem_toArray, List.getElem_cons_zero, List.getElem_cons_succ, List.setIfInBounds_toArray, List.set_cons_zero, List.set_cons_succ]
                refine wpAnyH_take (i := 20) (v := ?_) rfl (by kernel_rfl) (by kernel_rfl) (by kernel_rfl) (fun _ _ _ h => h) (Or.inl ⟨by rfl, ?_⟩) (by assumption) ?_
                rotate_left
                · (intro wx hSw; (try dsimp only at hSw); go_simp; (try with_reducible rfl))
                try simp only [Act.put, List.getElem_toArray, List.getElem_cons_zero, List.getElem_cons_succ, List.setIfInBounds_toArray, List.set_cons_zero, List.set_cons_succ]
                refine wpAnyH_take (i := 21) (v := ?_) rfl (by kernel_rfl) (by kernel_rfl) (by kernel_rfl) (fun _ _ _ h => h) (Or.inl ⟨by rfl, ?_⟩) (by assumption) ?_
                rotate_left
                · (intro wx hSw; (try dsimp only at hSw); go_simp; (try with_reducible rfl))
                try simp only [Act.put, List.getElem_toArray, List.getElem_cons_zero, List.getElem_cons_succ, List.setIfInBounds_toArray, List.set_cons_zero, List.set_cons_succ]
                refine wpAnyH_take (i := 22) (v := ?_) rfl (by kernel_rfl) (by kernel_rfl) (by kernel_rfl) (fun _ _ _ h => h) (Or.inl ⟨by rfl, ?_⟩) (by assumption) ?_
                rotate_left
                · (intro wx hSw; (try dsimp only at hSw); go_simp; (try with_reducible rfl))
                try simp only [Act.put, List.getElem_toArray, List.getElem_cons_zero, List.getElem_cons_succ, List.setIfInBounds_toArray, List.set_cons_zero, List.set_cons_succ]
                refine wpAnyH_take (i := 23) (v := ?_) rfl (by kernel_rfl) (by kernel_rfl) (by kernel_rfl) (fun _ _ _ h => h) (Or.inl ⟨by rfl, ?_⟩) (by assumption) ?_
                rotate_left
                · (intro wx hSw; (try dsimp only at hSw); go_simp; (try with_reducible rfl))
                try simp only [Act.put, List.getElem_toArray, List.getElem_cons_zero, List.getElem_cons_succ, List.setIfInBounds_toArray, List.set_cons_zero, List.set_cons_succ]
                refine wpAnyH_take (i := 24) (v := ?_) rfl (by kernel_rfl) (by kernel_rfl) (by kernel_rfl) (fun _ _ _ h => h) (Or.inl ⟨by rfl, ?_⟩) (by assumption) ?_
                rotate_left
                · (intro wx hSw; (try dsimp only at hSw); go_simp; (try with_reducible rfl))
                try simp only [Act.put, List.getElem_toArray, List.getElem_cons_zero, List.getElem_cons_succ, List.setIfInBounds_toArray, List.set_cons_zero, List.set_cons_succ]
                refine wpAnyH_take (i := 25) (v := ?_) rfl (by kernel_rfl) (by kernel_rfl) (by kernel_rfl) (fun _ _ _ h => h) (Or.inl ⟨by rfl, ?_⟩) (by assumption) ?_
                rotate_left
                · (intro wx hSw; (try dsimp only at hSw); go_simp; (try with_reducible rfl))
                try simp only [Act.put, List.getElem_toArray, List.getElem_cons_zero, List.getElem_cons_succ, List.setIfInBounds_toArray, List.set_cons_zero, List.set_cons_succ]
                refine wpAnyH_take (i := 26) (v := ?_) rfl (by kernel_rfl) (by kernel_rfl) (by kernel_rfl) (fun _ _ _ h => h) (Or.inl ⟨by rfl, ?_⟩) (by assumption) ?_
                rotate_left
                · (intro wx hSw; (try dsimp only at hSw); go_simp; (try with_reducible rfl))
                try simp only [Act.put, List.getElem_toArray, List.getElem_cons_zero, List.getElem_cons_succ, List.setIfInBounds_toArray, List.set_cons_zero, List.set_cons_succ]
                refine wpAnyH_take (i := 27) (v := ?_) rfl (by kernel_rfl) (by kernel_rfl) (by kernel_rfl) (fun _ _ _ h => h) (Or.inl ⟨by rfl, ?_⟩) (by assumption) ?_
                rotate_left
                · (intro wx hSw; (try dsimp only at hSw); go_simp; (try with_reducible rfl))
                try simp only [Act.put, List.getElem_toArray, List.getElem_cons_zero, List.getElem_cons_succ, List.setIfInBounds_toArray, List.set_cons_zero, List.set_cons_succ]
                refine wpAnyH_take (i := 28) (v := ?_) rfl (by kernel_rfl) (by kernel_rfl) (by kernel_rfl) (fun _ _ _ h => h) (Or.inl ⟨by rfl, ?_⟩) (by assumption) ?_
                rotate_left
                · (intro wx hSw; (try dsimp only at hSw); go_simp; (try with_reducible rfl))
                try simp only [Act.put, List.getElem_toArray, List.getElem_cons_zero, List.getElem_cons_succ, List.setIfInBounds_toArray, List.set_cons_zero, List.set_cons_succ]
                refine wpAnyH_take (i := 29) (v := ?_) rfl (by kernel_rfl) (by kernel_rfl) (by kernel_rfl) (fun _ _ _ h => h) (Or.inl ⟨by rfl, ?_⟩) (by assumption) ?_
                rotate_left
                · (intro wx hSw; (try dsimp only at hSw); go_simp; (try with_reducible rfl))
                try simp only [Act.put, List.getElem_toArray, List.getElem_cons_zero, List.getElem_cons_succ, List.setIfInBounds_toArray, List.set_cons_zero, List.set_cons_succ]
                refine wpAnyH_take (i := 30) (v := ?_) rfl (by kernel_rfl) (by kernel_rfl) (by kernel_rfl) (fun _ _ _ h => h) (Or.inl ⟨by rfl, ?_⟩) (by assumption) ?_
                rotate_left
                · (intro wx hSw; (try dsimp only at hSw); go_simp; (try with_reducible rfl))
                try simp only [Act.put, List.getElem_toArray, List.getElem_cons_zero, List.getElem_cons_succ, List.setIfInBounds_toArray, List.set_cons_zero, List.set_cons_succ]
                refine Sk.held_one (i := 31) (o := ({ dst := some 66, op := Op.call { callee := Callee.value (Operand.func 24), args := #[Operand.tmp 58, Operand.tmp 65], argTypes := #[25, 25] }, type := 3, pos := "law.go:123", after := #[{ on := 23, ground := Ground.data }, { on := 30, ground := Ground.data }, { on := 16, ground := Ground.chain }, { on := 16, ground := Ground.guard }], guard := some (16, true) } : Oper)) (by kernel_rfl) rfl (fun K hK => ?_)
                go_simp
                go_at_call 24
                (with_reducible refine (CC.out _).mono ?_); rintro e w6 ⟨rfl, g6⟩
                go_wp2_with fail
                refine hK.out _ _ (HK1.out _ (HB6.out _ g6)) (fun hHeld => ?_)
                clear hK K
                try simp only [Act.put, List.getElem_toArray, List.getElem_cons_zero, List.getElem_cons_succ, List.setIfInBounds_toArray, List.set_cons_zero, List.set_cons_succ]
                refine wpAnyH_take (i := 32) (v := ?_) rfl (by kernel_rfl) (by kernel_rfl) (by kernel_rfl) (fun _ _ _ h => h) (Or.inl ⟨by rfl, ?_⟩) (by assumption) ?_
                rotate_left
                · (intro wx hSw; (try dsimp only at hSw); go_simp; (try with_reducible rfl))
                try simp only [Act.put, List.getElem_toArray, List.getElem_cons_zero, List.getElem_cons_succ, List.setIfInBounds_toArray, List.set_cons_zero, List.set_cons_succ]
                refine wpAnyH_take (i := 33) (v := ?_) rfl (by kernel_rfl) (by kernel_rfl) (by kernel_rfl) (fun _ _ _ h => h) (Or.inl ⟨by rfl, ?_⟩) (by assumption) ?_
                rotate_left
                · (intro wx hSw; (try dsimp only at hSw); go_simp; (try with_reducible rfl))
                try simp only [Act.put, List.getElem_toArray, List.getElem_cons_zero, List.getElem_cons_succ, List.setIfInBounds_toArray, List.set_cons_zero, List.set_cons_succ]
                refine wpAnyH_done (by kernel_rfl) ?_ _
                refine NoPanic.normal ?_
                obtain ⟨hr6, hb6⟩ := HC.out w6 (HBW.out w6 (HB6.out w6 g6))
                have r1 := Sk.cell_blk hr6
                have f1 := frozen_of_row _ _ 0 _ _ hr6
                have HFIN : Hid ((w6.setCell ⟨w.heap.size, 0, none⟩ (.bool true)).heap[w.heap.size]? = some (.cells #[.bool true] 4 (0, 0)) ∧ Below w.heap.size w (w6.setCell ⟨w.heap.size, 0, none⟩ (.bool true))) := Lib.hid ⟨Sk.one_set _ hr6, hb6.setCell (p := ⟨w.heap.size, 0, none⟩) (Nat.le_refl _) _⟩
                clear hHeld g6 hr6 hb6 CC HK1 HB6 HBD HXC HBW HDU HD HC
                gi_wp2
                exact Sk.done_cell0 rfl rfl HFIN.out.1 ⟨rfl, HFIN.out.2⟩
              · have HE := Lib.hid fun W (g : Below w4.heap.size w4 W) => HNX.out W g (fun _ _ => by rw [HCC.out]; exact hcm)
                generalize Kn.cmp ⟨xn, xi, xs⟩ ⟨zn, zi, zs⟩ = cv at CC hcm
                have hcb : (cv == 0) = false := by simp [hcm]
                clear HNX H2
                gi_upto_region 11 with (fail)
                refine wpIn_wide.2 ?_
                refine wp_region_noPanic ?_
                refine wp_region_held_drew (S := fun wx => wx.cell? ⟨b, o + j * 2 + 1, none⟩ = some (.slice (some ⟨xg, xo, none⟩) xl xc) ∧ wx.cell? ⟨b, o + m * 2 + 1, none⟩ = some (.slice (some ⟨zg, zo, none⟩) zl zc) ∧ (wx.cell? ⟨xg, xo, none⟩ = some (.bool xn) ∧ wx.cell? ⟨xg, xo + 1, none⟩ = some (.int .i64 xi) ∧ wx.cell? ⟨xg, xo + 2, none⟩ = some (.string xs)) ∧ wx.cell? ⟨zg, zo, none⟩ = some (.bool zn) ∧ wx.cell? ⟨zg, zo + 1, none⟩ = some (.int .i64 zi) ∧ wx.cell? ⟨zg, zo + 2, none⟩ = some (.string zs)) (by kernel_rfl) (HK1.out _ HBD.out) (fun hHeld => ?_)
                refine wpAnyH_take (i := 0) (v := ?_) rfl (by kernel_rfl) (by kernel_rfl) (by kernel_rfl) (fun _ _ _ h => h) (Or.inl ⟨by rfl, ?_⟩) (by assumption) ?_
                rotate_left
                · (intro wx hSw; (try dsimp only at hSw); go_simp; (try with_reducible rfl))
                try simp only [Act.put, List.getElem_toArray, List.getElem_cons_zero, List.getElem_cons_succ, List.setIfInBounds_toArray, List.set_cons_zero, List.set_cons_succ]
                refine wpAnyH_take (i := 1) (v := ?_) rfl (by kernel_rfl) (by kernel_rfl) (by kernel_rfl) (fun _ _ _ h => h) (Or.inl ⟨by rfl, ?_⟩) (by assumption) ?_
                rotate_left
                · (intro wx hSw; (try dsimp only at hSw); go_simp; (try with_reducible rfl))
                try simp only [Act.put, List.getElem_toArray, List.getElem_cons_zero, List.getElem_cons_succ, List.setIfInBounds_toArray, List.set_cons_zero, List.set_cons_succ]
                refine wpAnyH_take (i := 2) (v := ?_) rfl (by kernel_rfl) (by kernel_rfl) (by kernel_rfl) (fun _ _ _ h => h) (Or.inl ⟨by rfl, ?_⟩) (by assumption) ?_
                rotate_left
                · (intro wx hSw; (try dsimp only at hSw); go_simp; (try with_reducible rfl))
                try simp only [Act.put, List.getElem_toArray, List.getElem_cons_zero, List.getElem_cons_succ, List.setIfInBounds_toArray, List.set_cons_zero, List.set_cons_succ]
                refine wpAnyH_take (i := 3) (v := ?_) rfl (by kernel_rfl) (by kernel_rfl) (by kernel_rfl) (fun _ _ _ h => h) (Or.inl ⟨by rfl, ?_⟩) (by assumption) ?_
                rotate_left
                · (intro wx hSw; (try dsimp only at hSw); go_simp; (try with_reducible rfl))
                try simp only [Act.put, List.getElem_toArray, List.getElem_cons_zero, List.getElem_cons_succ, List.setIfInBounds_toArray, List.set_cons_zero, List.set_cons_succ]
                refine wpAnyH_take (i := 4) (v := ?_) rfl (by kernel_rfl) (by kernel_rfl) (by kernel_rfl) (fun _ _ _ h => h) (Or.inl ⟨by rfl, ?_⟩) (by assumption) ?_
                rotate_left
                · (intro wx hSw; (try dsimp only at hSw); go_simp; (try with_reducible rfl))
                try simp only [Act.put, List.getElem_toArray, List.getElem_cons_zero, List.getElem_cons_succ, List.setIfInBounds_toArray, List.set_cons_zero, List.set_cons_succ]
                refine wpAnyH_take (i := 5) (v := ?_) rfl (by kernel_rfl) (by kernel_rfl) (by kernel_rfl) (fun _ _ _ h => h) (Or.inl ⟨by rfl, ?_⟩) (by assumption) ?_
                rotate_left
                · (intro wx hSw; (try dsimp only at hSw); go_simp; (try with_reducible rfl))
                try simp only [Act.put, List.getElem_toArray, List.getElem_cons_zero, List.getElem_cons_succ, List.setIfInBounds_toArray, List.set_cons_zero, List.set_cons_succ]
                refine wpAnyH_take (i := 6) (v := ?_) rfl (by kernel_rfl) (by kernel_rfl) (by kernel_rfl) (fun _ _ _ h => h) (Or.inl ⟨by rfl, ?_⟩) (by assumption) ?_
                rotate_left
                · (intro wx hSw; (try dsimp only at hSw); go_simp; (try with_reducible rfl))
                try simp only [Act.put, List.getElem_toArray, List.getElem_cons_zero, List.getElem_cons_succ, List.setIfInBounds_toArray, List.set_cons_zero, List.set_cons_succ]
                refine wpAnyH_take (i := 7) (v := ?_) rfl (by kernel_rfl) (by kernel_rfl) (by kernel_rfl) (fun _ _ _ h => h) (Or.inl ⟨by rfl, ?_⟩) (by assumption) ?_
                rotate_left
                · (intro wx hSw; (try dsimp only at hSw); go_simp; (try with_reducible rfl))
                try simp only [Act.put, List.getElem_toArray, List.getElem_cons_zero, List.getElem_cons_succ, List.setIfInBounds_toArray, List.set_cons_zero, List.set_cons_succ]
                refine wpAnyH_take (i := 8) (v := ?_) rfl (by kernel_rfl) (by kernel_rfl) (by kernel_rfl) (fun _ _ _ h => h) (Or.inl ⟨by rfl, ?_⟩) (by assumption) ?_
                rotate_left
                · (intro wx hSw; (try dsimp only at hSw); go_simp; (try with_reducible rfl))
                try simp only [Act.put, List.getElem_toArray, List.getElem_cons_zero, List.getElem_cons_succ, List.setIfInBounds_toArray, List.set_cons_zero, List.set_cons_succ]
                refine wpAnyH_take (i := 9) (v := ?_) rfl (by kernel_rfl) (by kernel_rfl) (by kernel_rfl) (fun _ _ _ h => h) (Or.inl ⟨by rfl, ?_⟩) (by assumption) ?_
                rotate_left
                · (intro wx hSw; (try dsimp only at hSw); go_simp; (try with_reducible rfl))
                try simp only [Act.put, List.getElem_toArray, List.getElem_cons_zero, List.getElem_cons_succ, List.setIfInBounds_toArray, List.set_cons_zero, List.set_cons_succ]
                refine wpAnyH_take (i := 10) (v := ?_) rfl (by kernel_rfl) (by kernel_rfl) (by kernel_rfl) (fun _ _ _ h => h) (Or.inl ⟨by rfl, ?_⟩) (by assumption) ?_
                rotate_left
                · (intro wx hSw; (try dsimp only at hSw); go_simp; (try with_reducible rfl))
                try simp only [Act.put, List.getElem_toArray, List.getElem_cons_zero, List.getElem_cons_succ, List.setIfInBounds_toArray, List.set_cons_zero, List.set_cons_succ]
                refine wpAnyH_take (i := 11) (v := ?_) rfl (by kernel_rfl) (by kernel_rfl) (by kernel_rfl) (fun _ _ _ h => h) (Or.inl ⟨by rfl, ?_⟩) (by assumption) ?_
                rotate_left
                · (intro wx hSw; (try dsimp only at hSw); go_simp; (try with_reducible rfl))
                try simp only [Act.put, List.getElem_toArray, List.getElem_cons_zero, List.getElem_cons_succ, List.setIfInBounds_toArray, List.set_cons_zero, List.set_cons_succ]
                refine wpAnyH_take (i := 12) (v := ?_) rfl (by kernel_rfl) (by kernel_rfl) (by kernel_rfl) (fun _ _ _ h => h) (Or.inl ⟨by rfl, ?_⟩) (by assumption) ?_
                rotate_left
                · (intro wx hSw; (try dsimp only at hSw); go_simp; (try with_reducible rfl))
                try simp only [Act.put, List.getElem_toArray, List.getElem_cons_zero, List.getElem_cons_succ, List.setIfInBounds_toArray, List.set_cons_zero, List.set_cons_succ]
                refine wpAnyH_take (i := 13) (v := ?_) rfl (by kernel_rfl) (by kernel_rfl) (by kernel_rfl) (fun _ _ _ h => h) (Or.inl ⟨by rfl, ?_⟩) (by assumption) ?_
                rotate_left
                · (intro wx hSw; (try dsimp only at hSw); go_simp; (try with_reducible rfl))
                try simp only [Act.put, List.getElem_toArray, List.getElem_cons_zero, List.getElem_cons_succ, List.setIfInBounds_toArray, List.set_cons_zero, List.set_cons_succ]
                refine wpAnyH_take (i := 14) (v := ?_) rfl (by kernel_rfl) (by kernel_rfl) (by kernel_rfl) (fun _ _ _ h => h) (Or.inl ⟨by rfl, ?_⟩) (by assumption) ?_
                rotate_left
                · (intro wx hSw; (try dsimp only at hSw); go_simp; (try with_reducible rfl))
                try simp only [Act.put, List.getElem_toArray, List.getElem_cons_zero, List.getElem_cons_succ, List.setIfInBounds_toArray, List.set_cons_zero, List.set_cons_succ]
                refine wpAnyH_take (i := 15) (v := ?_) rfl (by kernel_rfl) (by kernel_rfl) (by kernel_rfl) (fun _ _ _ h => h) (Or.inl ⟨by rfl, ?_⟩) (by assumption) ?_
                rotate_left
                · (intro wx hSw; (try dsimp only at hSw); go_simp; (try with_reducible rfl))
                try simp only [Act.put, List.getElem_toArray, List.getElem_cons_zero, List.getElem_cons_succ, List.setIfInBounds_toArray, List.set_cons_zero, List.set_cons_succ]
                refine wpAnyH_take (i := 16) (v := ?_) rfl (by kernel_rfl) (by kernel_rfl) (by kernel_rfl) (fun _ _ _ h => h) (Or.inl ⟨by rfl, ?_⟩) (by assumption) ?_
                rotate_left
                · (intro wx hSw; (try dsimp only at hSw); go_simp; (try with_reducible rfl))
                try simp only [Act.put, List.getElem_toArray, List.getElem_cons_zero, List.getElem_cons_succ, List.setIfInBounds_toArray, List.set_cons_zero, List.set_cons_succ]
                refine wpAnyH_take (i := 17) (v := ?_) rfl (by kernel_rfl) (by kernel_rfl) (by kernel_rfl) (fun _ _ _ h => h) (Or.inl ⟨by rfl, ?_⟩) (by assumption) ?_
                rotate_left
                · (intro wx hSw; (try dsimp only at hSw); go_simp; (try with_reducible rfl))
                try simp only [Act.put, List.getElem_toArray, List.getElem_cons_zero, List.getElem_cons_succ, List.setIfInBounds_toArray, List.set_cons_zero, List.set_cons_succ]
                refine wpAnyH_take (i := 18) (v := ?_) rfl (by kernel_rfl) (by kernel_rfl) (by kernel_rfl) (fun _ _ _ h => h) (Or.inl ⟨by rfl, ?_⟩) (by assumption) ?_
                rotate_left
                · (intro wx hSw; (try dsimp only at hSw); go_simp; (try with_reducible rfl))
                try simp only [Act.put, List.getElem_toArray, List.getElem_cons_zero, List.getElem_cons_succ, List.setIfInBounds_toArray, List.set_cons_zero, List.set_cons_succ]
                refine wpAnyH_take (i := 19) (v := ?_) rfl (by kernel_rfl) (by kernel_rfl) (by kernel_rfl) (fun _ _ _ h => h) (Or.inl ⟨by rfl, ?_⟩) (by assumption) ?_
                rotate_left
                · (intro wx hSw; (try dsimp only at hSw); go_simp; (try with_reducible rfl))
                try simp only [Act.put, List.getElem_toArray, List.getElem_cons_zero, List.getElem_cons_succ, List.setIfInBounds_toArray, List.set_cons_zero, List.set_cons_succ]
                refine wpAnyH_take (i := 20) (v := ?_) rfl (by kernel_rfl) (by kernel_rfl) (by kernel_rfl) (fun _ _ _ h => h) (Or.inl ⟨by rfl, ?_⟩) (by assumption) ?_
                rotate_left
                · (intro wx hSw; (try dsimp only at hSw); go_simp; (try with_reducible rfl))
                try simp only [Act.put, List.getElem_toArray, List.getElem_cons_zero, List.getElem_cons_succ, List.setIfInBounds_toArray, List.set_cons_zero, List.set_cons_succ]
                refine wpAnyH_take (i := 21) (v := ?_) rfl (by kernel_rfl) (by kernel_rfl) (by kernel_rfl) (fun _ _ _ h => h) (Or.inl ⟨by rfl, ?_⟩) (by assumption) ?_
                rotate_left
                · (intro wx hSw; (try dsimp only at hSw); go_simp; (try with_reducible rfl))
                try simp only [Act.put, List.getElem_toArray, List.getElem_cons_zero, List.getElem_cons_succ, List.setIfInBounds_toArray, List.set_cons_zero, List.set_cons_succ]
                refine wpAnyH_take (i := 22) (v := ?_) rfl (by kernel_rfl) (by kernel_rfl) (by kernel_rfl) (fun _ _ _ h => h) (Or.inl ⟨by rfl, ?_⟩) (by assumption) ?_
                rotate_left
                · (intro wx hSw; (try dsimp only at hSw); go_simp; (try with_reducible rfl))
                try simp only [Act.put, List.getElem_toArray, List.getElem_cons_zero, List.getElem_cons_succ, List.setIfInBounds_toArray, List.set_cons_zero, List.set_cons_succ]
                refine wpAnyH_take (i := 23) (v := ?_) rfl (by kernel_rfl) (by kernel_rfl) (by kernel_rfl) (fun _ _ _ h => h) (Or.inl ⟨by rfl, ?_⟩) (by assumption) ?_
                rotate_left
                · (intro wx hSw; (try dsimp only at hSw); go_simp; (try with_reducible rfl))
                try simp only [Act.put, List.getElem_toArray, List.getElem_cons_zero, List.getElem_cons_succ, List.setIfInBounds_toArray, List.set_cons_zero, List.set_cons_succ]
                refine wpAnyH_take (i := 24) (v := ?_) rfl (by kernel_rfl) (by kernel_rfl) (by kernel_rfl) (fun _ _ _ h => h) (Or.inl ⟨by rfl, ?_⟩) (by assumption) ?_
                rotate_left
                · (intro wx hSw; (try dsimp only at hSw); go_simp; (try with_reducible rfl))
                try simp only [Act.put, List.getElem_toArray, List.getElem_cons_zero, List.getElem_cons_succ, List.setIfInBounds_toArray, List.set_cons_zero, List.set_cons_succ]
                refine wpAnyH_take (i := 25) (v := ?_) rfl (by kernel_rfl) (by kernel_rfl) (by kernel_rfl) (fun _ _ _ h => h) (Or.inl ⟨by rfl, ?_⟩) (by assumption) ?_
                rotate_left
                · (intro wx hSw; (try dsimp only at hSw); go_simp; (try with_reducible rfl))
                try simp only [Act.put, List.getElem_toArray, List.getElem_cons_zero, List.getElem_cons_succ, List.setIfInBounds_toArray, List.set_cons_zero, List.set_cons_succ]
                refine wpAnyH_take (i := 26) (v := ?_) rfl (by kernel_rfl) (by kernel_rfl) (by kernel_rfl) (fun _ _ _ h => h) (Or.inl ⟨by rfl, ?_⟩) (by assumption) ?_
                rotate_left
                · (intro wx hSw; (try dsimp only at hSw); go_simp; (try with_reducible rfl))
                try simp only [Act.put, List.getElem_toArray, List.getElem_cons_zero, List.getElem_cons_succ, List.setIfInBounds_toArray, List.set_cons_zero, List.set_cons_succ]
                refine wpAnyH_take (i := 27) (v := ?_) rfl (by kernel_rfl) (by kernel_rfl) (by kernel_rfl) (fun _ _ _ h => h) (Or.inl ⟨by rfl, ?_⟩) (by assumption) ?_
                rotate_left
                · (intro wx hSw; (try dsimp only at hSw); go_simp; (try with_reducible rfl))
                try simp only [Act.put, List.getElem_toArray, List.getElem_cons_zero, List.getElem_cons_succ, List.setIfInBounds_toArray, List.set_cons_zero, List.set_cons_succ]
                refine wpAnyH_take (i := 28) (v := ?_) rfl (by kernel_rfl) (by kernel_rfl) (by kernel_rfl) (fun _ _ _ h => h) (Or.inl ⟨by rfl, ?_⟩) (by assumption) ?_
                rotate_left
                · (intro wx hSw; (try dsimp only at hSw); go_simp; (try with_reducible rfl))
                try simp only [Act.put, List.getElem_toArray, List.getElem_cons_zero, List.getElem_cons_succ, List.setIfInBounds_toArray, List.set_cons_zero, List.set_cons_succ]
                refine wpAnyH_take (i := 29) (v := ?_) rfl (by kernel_rfl) (by kernel_rfl) (by kernel_rfl) (fun _ _ _ h => h) (Or.inl ⟨by rfl, ?_⟩) (by assumption) ?_
                rotate_left
                · (intro wx hSw; (try dsimp only at hSw); go_simp; (try with_reducible rfl))
                try simp only [Act.put, List.getElem_toArray, List.getElem_cons_zero, List.getElem_cons_succ, List.setIfInBounds_toArray, List.set_cons_zero, List.set_cons_succ]
                refine wpAnyH_take (i := 30) (v := ?_) rfl (by kernel_rfl) (by kernel_rfl) (by kernel_rfl) (fun _ _ _ h => h) (Or.inl ⟨by rfl, ?_⟩) (by assumption) ?_
                rotate_left
                · (intro wx hSw; (try dsimp only at hSw); go_simp; (try with_reducible rfl))
                try simp only [Act.put, List.getElem_toArray, List.getElem_cons_zero, List.getElem_cons_succ, List.setIfInBounds_toArray, List.set_cons_zero, List.set_cons_succ]
                refine Sk.held_one (i := 31) (o := ({ dst := some 66, op := Op.call { callee := Callee.value (Operand.func 24), args := #[Operand.tmp 58, Operand.tmp 65], argTypes := #[25, 25] }, type := 3, pos := "law.go:123", after := #[{ on := 23, ground := Ground.data }, { on := 30, ground := Ground.data }, { on := 16, ground := Ground.chain }, { on := 16, ground := Ground.guard }], guard := some (16, true) } : Oper)) (by kernel_rfl) rfl (fun K hK => ?_)
                go_simp
                go_at_call 24
                (with_reducible refine (CC.out _).mono ?_); rintro e w6 ⟨rfl, g6⟩
                go_wp2_with fail
                refine hK.out _ _ (HK1.out _ (HB6.out _ g6)) (fun hHeld => ?_)
                clear hK K
                try simp only [Act.put, List.getElem_toArray, List.getElem_cons_zero, List.getElem_cons_succ, List.setIfInBounds_toArray, List.set_cons_zero, List.set_cons_succ]
                refine wpAnyH_take (i := 32) (v := ?_) rfl (by kernel_rfl) (by kernel_rfl) (by kernel_rfl) (fun _ _ _ h => h) (Or.inl ⟨by rfl, ?_⟩) (by assumption) ?_
                rotate_left
                · (intro wx hSw; (try dsimp only at hSw); go_simp; (try with_reducible rfl))
                try simp only [Act.put, List.getElem_toArray, List.getElem_cons_zero, List.getElem_cons_succ, List.setIfInBounds_toArray, List.set_cons_zero, List.set_cons_succ]
                refine wpAnyH_take (i := 33) (v := ?_) rfl (by kernel_rfl) (by kernel_rfl) (by kernel_rfl) (fun _ _ _ h => h) (Or.inl ⟨by rfl, ?_⟩) (by assumption) ?_
                rotate_left
                · (intro wx hSw; (try dsimp only at hSw); go_simp; (try with_reducible rfl))
                try simp only [Act.put, List.getElem_toArray, List.getElem_cons_zero, List.getElem_cons_succ, List.setIfInBounds_toArray, List.set_cons_zero, List.set_cons_succ]
                refine wpAnyH_done (by kernel_rfl) ?_ _
                refine NoPanic.normal ?_
                have HE7 := Lib.hid (HE.out w6 (HB6.out w6 g6))
                clear hHeld g6 CC HK1 HB6 HBD hcm hcb HE
                gi_wp2
                exact ⟨⟨m + 1, by omega, by first | rfl | rw [hwm], HE7.out.1, HE7.out.2⟩, by simp [intOf]; omega⟩
        · obtain rfl : m = j := by omega
          have hmi : ¬ (m : Int) < (m : Int) := by omega
          have HE := Lib.hid (Sk.Un.snoc H1.out.2 HX.out H2.out.2)
          have HB2 := Lib.hid H2.out.1
          clear H1 H2 hml hm
          gi_wp2
          exact ⟨⟨m + 1, by omega, by first | rfl | rw [hwj], HB2.out, HE.out⟩, by simp [intOf]; omega⟩
    · obtain rfl : j = L.length := by omega
      have hji : ¬ (L.length : Int) < (L.length : Int) := by omega
      have hun := H1.out.2
      rw [List.take_length] at hun
      have HUN := Lib.hid hun
      have HDW := Lib.hid (HDU.out.later H1.out.1)
      clear hun hj hjl H1 HDU HXC HBW HNN
      gi_wp2
      gi_loopw [11] (fun i X => ∃ j : Nat, j ≤ L.length ∧ i = .int .i64 j ∧ Sk.Duo wb X p q ((Sk.puts (L.take j)).map Sk.E.d) ((Sk.puts (L.reverse.take j)).map Sk.E.d)) (fun i _ => L.length - (intOf i).toNat)
      case atStart => exact ⟨0, Nat.zero_le _, rfl, HDW.out⟩
      case round =>
        obtain ⟨j, hj, rfl, hT2⟩ := hrel
        have H2 := Lib.hid hT2
        clear hT2 HDW
        have hj0 : (0 : Int) ≤ (j : Int) := by omega
        by_cases hjl : j < L.length
        · have hji : (j : Int) < (L.length : Int) := by omega
          obtain ⟨x, hx⟩ : ∃ x, L[j]? = some x := ⟨_, List.getElem?_eq_getElem hjl⟩
          obtain ⟨m, hm⟩ : ∃ m, m = L.length - 1 - j := ⟨_, rfl⟩
          obtain ⟨a1, ha1⟩ : ∃ a1, a1 = L.length - 1 := ⟨_, rfl⟩
          have hw1 : IntKind.i64.wrap ((L.length : Int) - 1) = (a1 : Int) := by rw [IntKind.wrap_i64]; have := HLL.out; omega
          have hw2 : IntKind.i64.wrap ((a1 : Int) - (j : Int)) = (m : Int) := by rw [IntKind.wrap_i64]; have := HLL.out; omega
          have hmi : (m : Int) < (L.length : Int) := by omega
          have hm0 : (0 : Int) ≤ (m : Int) := by omega
          obtain ⟨z, hz⟩ : ∃ z, L[m]? = some z := ⟨_, List.getElem?_eq_getElem (by omega)⟩
          have hzr : L.reverse[j]? = some z := by rw [List.getElem?_reverse hjl, ← hm]; exact hz
          have hgx := HD.out.got x (List.mem_of_getElem? hx)
          have hgz := HD.out.got z (List.mem_of_getElem? hz)
          have hl1 := Sk.puts_len L j hj
          have hl2 := Sk.puts_len L.reverse j (by rw [List.length_reverse]; exact hj)
          have CA := Lib.hid (H2.out.put HTB.out hgx (by rw [List.length_map]; have := HLL.out; omega))
          rw [Sk.pd_map, ← Sk.puts_step hx] at CA
          have CB : Hid (∀ X M, Sk.Duo wb X p q M ((Sk.puts (L.reverse.take j)).map Sk.E.d) → Calls Tryd.prog 12 #[.pointer (some ⟨q, 0, none⟩), .agg #[.bool z.gone, z.rv]] X fun e w' => e = .returned (.bool (!z.row.isEmpty)) ∧ Sk.Duo wb w' p q M ((Sk.puts (L.reverse.take (j + 1))).map Sk.E.d) ∧ Below wb.heap.size X w') := Lib.hid fun X M h => by
            have h1 := h.swap.put HTB.out hgz (by rw [List.length_map]; have := HLL.out; omega)
            rw [Sk.pd_map, ← Sk.puts_step hzr] at h1
            refine h1.mono ?_
            rintro e w' ⟨he, h2, g⟩
            exact ⟨he, h2.swap, g⟩
          obtain ⟨b, o, rfl, x0, x1⟩ := HD.out.at_ wr H2.out.below j x hx
          obtain ⟨xra, xrc, hxv⟩ := hgx.slice
          obtain ⟨zra, zrc, hzv⟩ := hgz.slice
          have HZC : Hid (∀ X, Below wb.heap.size wb X → X.cell? ⟨b, o + m * 2, none⟩ = some (.bool z.gone) ∧ X.cell? ⟨b, o + m * 2 + 1, none⟩ = some (.slice zra z.row.length zrc)) := Lib.hid fun X gX => by
            obtain ⟨b2, o2, e2, y1, y2⟩ := HD.out.at_ X gX m z hz
            simp only [Option.some.injEq, Addr.mk.injEq, and_true] at e2
            obtain ⟨rfl, rfl⟩ := e2
            exact ⟨y1, by rw [← hzv]; exact y2⟩
          rw [hxv] at x1 CA
          rw [hzv] at CB
          have HLJ : Hid (j < 400) := Lib.hid (by have := HLL.out; omega)
          obtain ⟨M1, hM1⟩ : ∃ M, M = (Sk.puts (L.take (j + 1))).map Sk.E.d := ⟨_, rfl⟩
          obtain ⟨M2, hM2⟩ : ∃ M, M = (Sk.puts (L.reverse.take (j + 1))).map Sk.E.d := ⟨_, rfl⟩
          rw [← hM1] at CA
          rw [← hM2] at CB
          have HM12 := Lib.hid (And.intro hM1 hM2)
          clear hM1 hM2
          clear hx hz hzr hgx hgz hl1 hl2 hxv hzv HLL hm ha1
          gi_wp2_with (first
            | (refine ⟨trivial, ?_⟩; gi_at_call 12; refine (callsIn_wide.2 CA.out).mono ?_; rintro e w5 ⟨rfl, h5, g5⟩
               have H5 := Lib.hid h5
               obtain ⟨z0, z1⟩ := HZC.out w5 h5.below
               clear h5 g5 CA)
            | (refine ⟨trivial, ?_⟩; gi_at_call 12; refine (callsIn_wide.2 (CB.out w5 _ H5.out)).mono ?_; rintro e w6 ⟨rfl, h6, g6⟩
               have H6 := Lib.hid h6
               clear h6 g6))
          have hw : wrap64 ((j : Int) + 1) = ((j + 1 : Nat) : Int) := by have := HLJ.out; unfold wrap64; omega
          rw [hw]
          exact ⟨⟨j + 1, by omega, rfl, by rw [← HM12.out.1, ← HM12.out.2]; exact H6.out⟩, by simp [intOf]; omega⟩
        · obtain rfl : j = L.length := by omega
          have hji : ¬ (L.length : Int) < (L.length : Int) := by omega
          have hT2 := H2.out
          rw [List.take_length, show L.reverse.take L.length = L.reverse by rw [← List.length_reverse]; exact List.take_length, Sk.puts_reverse HUN.out] at hT2
          have hml := Sk.puts_len L L.length (Nat.le_refl _)
          rw [List.take_length] at hml
          obtain ⟨M, hM⟩ : ∃ M, M = (Sk.puts L).map Sk.E.d := ⟨_, rfl⟩
          rw [← hM] at hT2
          have HM4 : Hid (M.length ≤ 400) := Lib.hid (by rw [hM, List.length_map]; have := HLL.out; omega)
          have HT := Lib.hid hT2
          clear hT2 hml hM H2 HUN hj hjl HLL HD
          obtain ⟨S, S', h1, h2, _, h4⟩ := HT.out
          have HP := Lib.hid h1
          have HQ := Lib.hid h2
          have HB4 := Lib.hid h4
          clear h1 h2 h4
          gi_wp2_with (first
            | (obtain ⟨w8n, hw8n⟩ : ∃ X, X = wr.alloc (.cells #[.slice none 0 0] 23) := ⟨_, rfl⟩
               have HX8 : Hid (Below wr.heap.size wr w8n ∧ w8n.heap.size = wr.heap.size + 1 ∧ w8n.heap[wr.heap.size]? = some (.cells #[.slice none 0 0] 23 (0, 0))) := Lib.hid ⟨by rw [hw8n]; exact (Below.refl _ wr).alloc (Nat.le_refl _) _, by rw [hw8n]; simp, by rw [hw8n]; exact heap_alloc_new wr _⟩
               rw [← hw8n]; clear hw8n
               refine ⟨trivial, ?_⟩; gi_at_call 20; refine (callsIn_wide.2 (Sk.all_c (some ⟨p, 0, none⟩) w8n.heap.size rfl)).mono ?_; rintro e w9 ⟨rfl, c9, g9⟩))
          have HX9 : Hid (Below wr.heap.size wr w9 ∧ wr.heap.size < w9.heap.size ∧ w9.heap[wr.heap.size]? = some (.cells #[.slice none 0 0] 23 (0, 0))) := Lib.hid (by
            have hs9 := g9.size
            have s1 := HX8.out.2.1
            exact ⟨HX8.out.1.trans (g9.mono HX8.out.1.size), by omega, (g9.block _ (by omega)).trans HX8.out.2.2⟩)
          have HSEQ := Lib.hid ((HP.out.later HX9.out.1).all HP.out.lt HX9.out.1.size c9)
          have HSB2 : Hid (w.heap.size < wr.heap.size) := Lib.hid (by have := HSB.out; have := HB4.out.size; omega)
          obtain ⟨na, hna⟩ : ∃ m, m = wr.heap.size := ⟨_, rfl⟩
          have HX9 : Hid (Below wr.heap.size wr w9 ∧ na < w9.heap.size ∧ wr.heap.size ≤ na ∧ w9.heap[na]? = some (.cells #[.slice none 0 0] 23 (0, 0))) := Lib.hid (by
            rw [hna]
            obtain ⟨h1, h2, h3⟩ := HX9.out
            exact ⟨h1, by omega, by omega, h3⟩)
          have HNA : Hid (w.heap.size < na) := Lib.hid (by rw [hna]; exact HSB2.out)
          rw [← hna]
          clear hna c9 g9 HX8 HP HTB HSB2
          refine Sk.range_wa (gf := 34) rfl (enters_of Tryd.func34 (by kernel_rfl) rfl)
            HSEQ.out (Below.refl _ _) HX9.out.1.size (fun x args W he => by obtain ⟨u, rfl, _⟩ := he; rfl)
            (fun s W => Sk.Acc wr.heap.size w9.heap.size w9 na s.2 s.1 W)
            (fun c s W => False)
            (Sk.Acc.own HX9.out.1.size HX9.out.1.size) ?ownx ⟨Below.refl _ _, .slice none 0 0, [], HX9.out.2.2.2, Dk.Own.nil _ _, rfl, (fun b hb => by cases hb), fun y hy => by cases hy⟩
            (fun T s x a' W => ∃ (bx : Nat) (ua : Option Addr) (cu : Nat), a' = { tmps := (T.setIfInBounds 93 (.agg #[.bool x.gone, .slice ua x.row.length cu])).setIfInBounds 13 (.pointer (some ⟨bx, 0, none⟩)), defers := [] } ∧ w9.heap.size ≤ bx ∧ W.heap[bx]? = some (.cells #[.bool x.gone, .slice ua x.row.length cu] 37 (0, 0)) ∧
              Sk.Rw wr.heap.size W (.slice ua x.row.length cu) x.row ∧ Sk.Acc wr.heap.size w9.heap.size w9 na s.2 s.1 W)
            ?ownA ?assign ?body ?done ?stop
          case ownx =>
            rintro c s A' B' row h0 hg hr
            exact h0
          case ownA =>
            rintro s x a' u A' B' row ⟨bx, ua, cu, h0, hbx, hb, he, h1⟩ hg hr
            exact ⟨bx, ua, cu, h0, hbx, Sk.blk_kept hb hg fun r e => (hr r e).2, Sk.Rw.own _ _ _ _ () _ _ row he hg hr, Sk.Acc.own (C := w9.heap.size) HX9.out.1.size HX9.out.1.size s A' B' row h1 hg hr⟩
          case assign =>
            rintro l pre O x args W hI ⟨u, rfl, hu, hne, hz, hl⟩ hpx hbW
            obtain ⟨ua, cu, rfl⟩ : ∃ ua cu, u = .slice ua x.row.length cu := by
              rcases hu.form with ⟨e, e0⟩ | ⟨g, c, e, _⟩
              · exact absurd e0 hne
              · exact ⟨_, c, e⟩
            have HI := Lib.hid hI
            have HU := Lib.hid hu
            have HW8 : Hid (w9.heap.size ≤ W.heap.size) := Lib.hid hbW.size
            clear hI hu hne hz hl hpx hbW
            gi_wp2
            have ha : Below W.heap.size W (W.alloc (.cells #[.bool x.gone, .slice ua x.row.length cu] 37)) := (Below.refl _ W).alloc (Nat.le_refl _) _
            refine ⟨ha, W.heap.size, ua, cu, ⟨rfl, rfl, rfl⟩, HW8.out, heap_alloc_new W _, HU.out.kept ha, HI.out.later HX9.out.1.size ha⟩
          case body =>
            rintro l pre O x a' W hl hlr ⟨bx, ua, cu, rfl, hbx, hbk, hu, h1, v, LE, h2, h3, h4, h5, h6⟩ hpx hbW
            simp only [List.setIfInBounds_toArray, List.set_cons_succ, List.set_cons_zero]
            obtain ⟨va, vc, rfl⟩ : ∃ va vc, v = .slice va LE.length vc := by
              rcases h3.form with ⟨e, e0⟩ | ⟨g, c, e, _⟩
              · exact ⟨none, 0, by rw [e, e0]; rfl⟩
              · exact ⟨_, c, e⟩
            have hlen : LE.length < 400 := by
              obtain ⟨t, ht⟩ := hpx
              have h9 : (pre ++ [x] ++ t).length = M.length := by rw [ht]
              simp only [List.length_append, List.length_cons, List.length_nil] at h9
              have h8 : LE.length = pre.length := by have := congrArg List.length h4; rwa [List.length_map] at this
              have := HM4.out
              omega
            have n0 := Sk.cell_blk h2
            have f0 := frozen_of_row _ _ 0 _ _ h2
            have b0 := cell_of_row _ _ 0 _ _ _ hbk
            have b1 := cell_of_row _ _ 1 _ _ _ hbk
            simp only [List.getElem?_toArray, List.getElem?_cons_zero, List.getElem?_cons_succ] at b0 b1
            have HST : Hid (∀ v' w2 w3, Dk.Own 37 2 Sk.E.enc w9.heap.size w2 v' (LE ++ [⟨x.gone, .slice ua x.row.length cu, x.row⟩]) → Ty.Grew W w2 (.slice va LE.length vc) v' → w3 = w2.setCell ⟨na, 0, none⟩ v' → ∃ O', Sk.Kp w9.heap.size O O' W w3 ∧ Below wr.heap.size W w3 ∧ Sk.Acc wr.heap.size w9.heap.size w9 na O' (pre ++ [x]) w3) := Lib.hid fun v' w2 w3 ho hg hw3 =>
              Sk.Acc.step (x := ⟨x.gone, .slice ua x.row.length cu, x.row⟩) rfl HX9.out.2.2.1 HX9.out.2.1 h1 h2 h3 h4 h5 h6 hu ho hg hw3
            have HNB : Hid (∀ v' w2, Ty.Grew W w2 (.slice va LE.length vc) v' → w2.heap[na]? = some (.cells #[.slice va LE.length vc] 23 (0, 0))) := Lib.hid fun v' w2 hg => (hg.by_.block na (Array.getElem?_eq_some_iff.1 h2).1 fun e => by have := (World.ownsRow.lt h3 na e.symm).1; have := HX9.out.2.1; omega).trans h2
            have HOW := Lib.hid h3
            have HHL := Lib.hid hlen
            have HW8 : Hid (w9.heap.size ≤ W.heap.size) := Lib.hid (Nat.le_trans hbx (Nat.le_of_lt (Array.getElem?_eq_some_iff.1 hbk).1))
            clear hl hlr hbx hbk hu h1 h2 h3 h4 h5 h6 hpx hbW hlen
            gi_upto_region 21 with (fail)
            refine Sk.regionL_round (by kernel_rfl) ?_
            go_wp2_with (at_builtin; refine Sk.wpList_app [⟨x.gone, .slice ua x.row.length cu, x.row⟩] (fun y hy => by rw [List.mem_singleton] at hy; subst hy; exact ⟨_, _, _, rfl⟩) (by rw [World.size_alloc]; have := HW8.out; omega) (World.ownsRow.alloc HOW.out _) (by have := HHL.out; simp only [List.length_cons, List.length_nil]; omega) (Dk.src_one W _ _ rfl 37) (.tmp 94) (.tmp 96) (by rfl) (by rfl) (by rfl) (by rfl) ?_; intro v2 w2 ho2 hg2; obtain ⟨gg, cg, hv2, _⟩ := ho2.form1; subst hv2; have hg3 := hg2.behind _; have hnb2 := HNB.out _ _ hg3; have n2 := Sk.cell_blk hnb2; have f2 := frozen_of_row _ _ 0 _ _ hnb2; obtain ⟨w3, hw3⟩ : ∃ X, X = w2.setCell ⟨na, 0, none⟩ (.slice (some ⟨gg, 0, none⟩) (LE.length + 1) cg) := ⟨_, rfl⟩; have HE := Lib.hid (HST.out _ _ _ ho2 hg3 hw3); clear ho2 hg2 hg3 hnb2)
            rw [← hw3]
            clear n0 f0 b0 b1 n2 f2 hw3 HST HNB HOW
            refine Sk.Calm.normal ?_
            gi_wp2
            exact HE.out
          case done =>
            rintro D O W hD ⟨h1, v, LE, h2, h3, h4, _, h6⟩ hK
            obtain ⟨va, vc, rfl⟩ : ∃ va vc, v = .slice va LE.length vc := by
              rcases h3.form with ⟨e, e0⟩ | ⟨g, c, e, _⟩
              · exact ⟨none, 0, by rw [e, e0]; rfl⟩
              · exact ⟨_, c, e⟩
            have h4 : LE.map Sk.E.d = M := h4
            have hlen : LE.length = M.length := by have := congrArg List.length h4; rwa [List.length_map] at this
            have hW : Below wr.heap.size wr W := HX9.out.1.trans h1
            have hWw := (HC.out W (HB4.out.trans (hW.mono HB4.out.size)))
            have HNA2 : Hid (∀ X, Below W.heap.size W X → X.heap[na]? = some (.cells #[.slice va LE.length vc] 23 (0, 0)) ∧ X.heap[D]? = some (.deferred (some [])) ∧ X.heap[w.heap.size]? = some (.cells #[.bool false] 4 (0, 0)) ∧ Below w.heap.size w X) := Lib.hid fun X g =>
              ⟨(g.block _ (Array.getElem?_eq_some_iff.1 h2).1).trans h2, (g.block _ (Array.getElem?_eq_some_iff.1 hK).1).trans hK, (g.block _ (Array.getElem?_eq_some_iff.1 hWw.1).1).trans hWw.1, hWw.2.trans (g.mono hWw.2.size)⟩
            have HIT : Hid (∀ X, Below W.heap.size W X → ∀ i y, LE[i]? = some y → ∃ b ra rc, va = some ⟨b, 0, none⟩ ∧ (X.cell? ⟨b, i * 2, none⟩ = some (.bool y.gone) ∧ X.cell? ⟨b, i * 2 + 1, none⟩ = some (.slice ra y.row.length rc)) ∧ Kn.Vals X (.slice ra y.row.length rc) y.row) := Lib.hid fun X g i y hy => by
              obtain ⟨b, c', ra, rc, hv, e0, e1, e2⟩ := Sk.Acc.item h3 h6 g hy
              simp only [Value.slice.injEq] at hv
              exact ⟨b, ra, rc, hv.1, ⟨e0, e1⟩, e2⟩
            have HDX : Hid (∀ X, Below W.heap.size W X → Sk.Duo wb X p q M M) := Lib.hid fun X g => HT.out.later (hW.trans (g.mono hW.size))
            have HQW : Hid (∀ X, Below W.heap.size W X → Sk.PD wb.heap.size S' X q M) := Lib.hid fun X g => HQ.out.later (hW.trans (g.mono hW.size))
            have HQL : Hid (∀ b, S' b → b < W.heap.size) := Lib.hid fun b hb => Nat.lt_of_lt_of_le (HQ.out.lt b hb) hW.size
            have HLM := Lib.hid (And.intro h4 hlen)
            have HDL : Hid (D < W.heap.size ∧ w.heap.size ≤ D) := Lib.hid ⟨(Array.getElem?_eq_some_iff.1 hK).1, by have := HX9.out.2.1; have := HNA.out; omega⟩
            have HNL : Hid (na < W.heap.size) := Lib.hid (Array.getElem?_eq_some_iff.1 h2).1
            clear h1 h2 h3 h4 h6 hK hD hlen hW hWw HT HQ HB4 HX9 HSEQ HC HNA HSB
            gi_wp2_with (first
              | (obtain ⟨w8m, hw8m⟩ : ∃ X, X = W.alloc (.cells #[.int .i64 0] 3) := ⟨_, rfl⟩
                 have HX8 : Hid (Below W.heap.size W w8m ∧ w8m.heap.size = W.heap.size + 1 ∧ w8m.heap[W.heap.size]? = some (.cells #[.int .i64 0] 3 (0, 0))) := Lib.hid ⟨by rw [hw8m]; exact (Below.refl _ W).alloc (Nat.le_refl _) _, by rw [hw8m]; simp, by rw [hw8m]; exact heap_alloc_new W _⟩
                 rw [← hw8m]; clear hw8m
                 refine ⟨trivial, ?_⟩; gi_at_call 20; refine (callsIn_wide.2 (Sk.all_c (some ⟨q, 0, none⟩) w8m.heap.size rfl)).mono ?_; rintro e w10 ⟨rfl, c10, g10⟩))
            have HX10 : Hid (Below W.heap.size W w10 ∧ W.heap.size < w10.heap.size ∧ w10.heap[W.heap.size]? = some (.cells #[.int .i64 0] 3 (0, 0))) := Lib.hid (by
              have hs9 := g10.size
              have s1 := HX8.out.2.1
              exact ⟨HX8.out.1.trans (g10.mono HX8.out.1.size), by omega, (g10.block _ (by omega)).trans HX8.out.2.2⟩)
            have HSEQ := Lib.hid ((HQW.out w10 HX10.out.1).all HQL.out HX10.out.1.size c10)
            obtain ⟨n6, hn6⟩ : ∃ m, m = W.heap.size := ⟨_, rfl⟩
            have HX10 : Hid (Below W.heap.size W w10 ∧ n6 < w10.heap.size ∧ W.heap.size ≤ n6 ∧ w10.heap[n6]? = some (.cells #[.int .i64 0] 3 (0, 0))) := Lib.hid (by
              rw [hn6]
              obtain ⟨h1, h2, h3⟩ := HX10.out
              exact ⟨h1, by omega, by omega, h3⟩)
            rw [← hn6]
            clear hn6 c10 g10 HX8 HQW HQL
            refine Sk.range_wa (gf := 34) rfl (enters_of Tryd.func34 (by kernel_rfl) rfl)
              HSEQ.out (Below.refl _ _) HX10.out.1.size (fun x args W he => by obtain ⟨u, rfl, _⟩ := he; rfl)
              (fun s X => Below W.heap.size w10 X ∧ X.heap[n6]? = some (.cells #[.int .i64 (s.1.length : Int)] 3 (0, 0)))
              (fun c s W => False)
              ?own2 ?ownx2 ⟨Below.refl _ _, HX10.out.2.2.2⟩
              (fun T s x a' X => ∃ (bx : Nat) (ua : Option Addr) (cu : Nat), a' = { tmps := (T.setIfInBounds 100 (.agg #[.bool x.gone, .slice ua x.row.length cu])).setIfInBounds 15 (.pointer (some ⟨bx, 0, none⟩)), defers := [] } ∧ w10.heap.size ≤ bx ∧ X.heap[bx]? = some (.cells #[.bool x.gone, .slice ua x.row.length cu] 37 (0, 0)) ∧
                Sk.Rw W.heap.size X (.slice ua x.row.length cu) x.row ∧ Below W.heap.size w10 X ∧ X.heap[n6]? = some (.cells #[.int .i64 (s.1.length : Int)] 3 (0, 0)))
              ?ownA2 ?assign2 ?body2 ?done2 ?stop2
            case own2 =>
              rintro s A' B' row ⟨h1, h3⟩ hg hr
              exact ⟨h1.grown hg (by have := h1.size; have := HX10.out.1.size; omega) fun k e => by have := (hr k e).1; have := HX10.out.1.size; omega, Sk.blk_kept h3 hg fun r e => (hr r e).2⟩
            case ownx2 =>
              rintro c s A' B' row h0 hg hr
              exact h0
            case ownA2 =>
              rintro s x a' u A' B' row ⟨bx, ua, cu, h0, hbx, hb, he, h1, h3⟩ hg hr
              exact ⟨bx, ua, cu, h0, hbx, Sk.blk_kept hb hg fun r e => (hr r e).2, Sk.Rw.own _ _ _ _ () _ _ row he hg hr, h1.grown hg (by have := h1.size; have := HX10.out.1.size; omega) fun k e => by have := (hr k e).1; have := HX10.out.1.size; omega, Sk.blk_kept h3 hg fun r e => (hr r e).2⟩
            case assign2 =>
              rintro l pre O x args X hI ⟨u, rfl, hu, hne, hz, hl⟩ hpx hbW
              obtain ⟨ua, cu, rfl⟩ : ∃ ua cu, u = .slice ua x.row.length cu := by
                rcases hu.form with ⟨e, e0⟩ | ⟨g, c, e, _⟩
                · exact absurd e0 hne
                · exact ⟨_, c, e⟩
              have HI := Lib.hid hI
              have HU := Lib.hid hu
              have HW8 : Hid (w10.heap.size ≤ X.heap.size) := Lib.hid hbW.size
              clear hI hu hne hz hl hpx hbW
              gi_wp2
              have ha : Below X.heap.size X (X.alloc (.cells #[.bool x.gone, .slice ua x.row.length cu] 37)) := (Below.refl _ X).alloc (Nat.le_refl _) _
              have hlt : ∀ b o, X.heap[b]? = some o → b < X.heap.size := fun b o h => (Array.getElem?_eq_some_iff.1 h).1
              refine ⟨ha, X.heap.size, ua, cu, ⟨rfl, rfl, rfl⟩, HW8.out, heap_alloc_new X _, HU.out.kept ha, HI.out.1.trans (ha.mono (Nat.le_trans HX10.out.1.size HW8.out)), (ha.block _ (hlt _ _ HI.out.2)).trans HI.out.2⟩
            case body2 =>
              rintro l pre O x a' X hl hlr ⟨bx, ua, cu, rfl, hbx, hbk, hu, h1, h3⟩ hpx hbW
              simp only [List.setIfInBounds_toArray, List.set_cons_succ, List.set_cons_zero]
              obtain ⟨y, hy, rfl⟩ : ∃ y, LE[pre.length]? = some y ∧ y.d = x := by
                obtain ⟨t, ht⟩ := hpx
                have h9 : (LE.map Sk.E.d)[pre.length]? = some x := by rw [HLM.out.1, ← ht]; simp
                rw [List.getElem?_map, Option.map_eq_some_iff] at h9
                exact h9
              have hpl : pre.length < LE.length := (List.getElem?_eq_some_iff.1 hy).1
              have hni : ¬ (LE.length : Int) ≤ (pre.length : Int) := by omega
              have hn0 : (0 : Int) ≤ (pre.length : Int) := by omega
              have hnl : (pre.length : Int) < (LE.length : Int) := by omega
              have hw1 : IntKind.i64.wrap ((pre.length : Int) + 1) = (pre.length : Int) + 1 := by rw [IntKind.wrap_i64]; have := HM4.out; have := HLM.out.2; omega
              have hWX : Below W.heap.size W X.drew := HX10.out.1.trans h1.drew
              obtain ⟨fb, ra, rc, rfl, ⟨f0, f1⟩, hv⟩ := HIT.out X.drew hWX pre.length y hy
              have q0 : X.drew.cell? ⟨na, 0, none⟩ = some (.slice (some ⟨fb, 0, none⟩) LE.length vc) := Sk.cell_blk (HNA2.out X.drew hWX).1
              have hu2 : Sk.Rw W.heap.size X.drew (.slice ua y.row.length cu) y.row := Dk.Own.kept hu (Below.refl _ X).drew
              have CS := Lib.hid (Dd.rsame_c (.slice ua y.row.length cu) (.slice ra y.row.length rc) y.d y.d X.drew hu2.vals hv)
              rw [Sk.same_self] at CS
              have CS : Hid (Calls Tryd.prog 19 #[.agg #[.bool y.gone, .slice ua y.row.length cu], .agg #[.bool y.gone, .slice ra y.row.length rc]] X.drew fun e w' => e = .returned (.bool true) ∧ Below X.drew.heap.size X.drew w') := CS
              have n0 : X.drew.cell? ⟨n6, 0, none⟩ = some (.int .i64 (pre.length : Int)) := Sk.cell_blk (W := X.drew) h3
              have b0 : X.drew.cell? ⟨bx, 0, none⟩ = some (.bool y.gone) := by rw [show X.drew.cell? ⟨bx, 0, none⟩ = X.cell? ⟨bx, 0, none⟩ from rfl, cell_of_row _ _ _ _ _ _ hbk]; rfl
              have b1 : X.drew.cell? ⟨bx, 1, none⟩ = some (.slice ua y.row.length cu) := by rw [show X.drew.cell? ⟨bx, 1, none⟩ = X.cell? ⟨bx, 1, none⟩ from rfl, cell_of_row _ _ _ _ _ _ hbk]; rfl
              have HI := Lib.hid (And.intro h1 h3)
              generalize y.gone = yg at CS b0 f0
              generalize y.row.length = yl at CS b1 f1
              have HKP : Hid (∀ X', Below X.drew.heap.size X.drew X' → (fun wx : World => wx.cell? ⟨n6, 0, none⟩ = some (.int .i64 (pre.length : Int)) ∧ wx.cell? ⟨na, 0, none⟩ = some (.slice (some ⟨fb, 0, none⟩) LE.length vc) ∧ wx.cell? ⟨bx, 0, none⟩ = some (.bool yg) ∧ wx.cell? ⟨bx, 1, none⟩ = some (.slice ua yl cu) ∧ wx.cell? ⟨fb, pre.length * 2, none⟩ = some (.bool yg) ∧ wx.cell? ⟨fb, pre.length * 2 + 1, none⟩ = some (.slice ra yl rc)) X') := Lib.hid fun W' g =>
                ⟨(g.cell (World.block_lt_of_cell? _ _ n0)).trans n0, (g.cell (World.block_lt_of_cell? _ _ q0)).trans q0, (g.cell (World.block_lt_of_cell? _ _ b0)).trans b0, (g.cell (World.block_lt_of_cell? _ _ b1)).trans b1, (g.cell (World.block_lt_of_cell? _ _ f0)).trans f0, (g.cell (World.block_lt_of_cell? _ _ f1)).trans f1⟩
              clear hl hlr hbx hbk hu hu2 h1 h3 hpx hbW hv HIT hWX n0 q0 b0 b1 f0 f1
              gi_upto_region 25 with (fail)
              refine Sk.region_round (S := fun wx => wx.cell? ⟨n6, 0, none⟩ = some (.int .i64 (pre.length : Int)) ∧ wx.cell? ⟨na, 0, none⟩ = some (.slice (some ⟨fb, 0, none⟩) LE.length vc) ∧ wx.cell? ⟨bx, 0, none⟩ = some (.bool yg) ∧ wx.cell? ⟨bx, 1, none⟩ = some (.slice ua yl cu) ∧ wx.cell? ⟨fb, pre.length * 2, none⟩ = some (.bool yg) ∧ wx.cell? ⟨fb, pre.length * 2 + 1, none⟩ = some (.slice ra yl rc)) (by kernel_rfl) (by kernel_rfl) (HKP.out _ (Below.refl _ _)) (fun hHeld => ?_)
              refine wpAnyH_take (i := 0) (v := ?_) rfl (by kernel_rfl) (by kernel_rfl) (by kernel_rfl) (fun _ _ _ h => h) (Or.inl ⟨by rfl, ?_⟩) (by assumption) ?_
              rotate_left
              · (intro wx hSw; (try dsimp only at hSw); go_simp; (try with_reducible rfl))
              try simp only [Act.put, List.getElem_toArray, List.getElem_cons_zero, List.getElem_cons_succ, List.setIfInBounds_toArray, List.set_cons_zero, List.set_cons_succ]
              refine wpAnyH_take (i := 1) (v := ?_) rfl (by kernel_rfl) (by kernel_rfl) (by kernel_rfl) (fun _ _ _ h => h) (Or.inl ⟨by rfl, ?_⟩) (by assumption) ?_
              rotate_left
              · (intro wx hSw; (try dsimp only at hSw); go_simp; (try with_reducible rfl))
              try simp only [Act.put, List.getElem_toArray, List.getElem_cons_zero, List.getElem_cons_succ, List.setIfInBounds_toArray, List.set_cons_zero, List.set_cons_succ]
              refine wpAnyH_take (i := 2) (v := ?_) rfl (by kernel_rfl) (by kernel_rfl) (by kernel_rfl) (fun _ _ _ h => h) (Or.inl ⟨by rfl, ?_⟩) (by assumption) ?_
              rotate_left
              · (intro wx hSw; (try dsimp only at hSw); go_simp; (try with_reducible rfl))
              try simp only [Act.put, List.getElem_toArray, List.getElem_cons_zero, List.getElem_cons_succ, List.setIfInBounds_toArray, List.set_cons_zero, List.set_cons_succ]
              refine wpAnyH_take (i := 3) (v := ?_) rfl (by kernel_rfl) (by kernel_rfl) (by kernel_rfl) (fun _ _ _ h => h) (Or.inl ⟨by rfl, ?_⟩) (by assumption) ?_
              rotate_left
              · (intro wx hSw; (try dsimp only at hSw); go_simp; (try with_reducible rfl))
              try simp only [Act.put, List.getElem_toArray, List.getElem_cons_zero, List.getElem_cons_succ, List.setIfInBounds_toArray, List.set_cons_zero, List.set_cons_succ]
              refine wpAnyH_take (i := 4) (v := ?_) rfl (by kernel_rfl) (by kernel_rfl) (by kernel_rfl) (fun _ _ _ h => h) (Or.inl ⟨by rfl, ?_⟩) (by assumption) ?_
              rotate_left
              · (intro wx hSw; (try dsimp only at hSw); go_simp; (try with_reducible rfl))
              try simp only [Act.put, List.getElem_toArray, List.getElem_cons_zero, List.getElem_cons_succ, List.setIfInBounds_toArray, List.set_cons_zero, List.set_cons_succ]
              refine wpAnyH_take (i := 5) (v := ?_) rfl (by kernel_rfl) (by kernel_rfl) (by kernel_rfl) (fun _ _ _ h => h) (Or.inl ⟨by rfl, ?_⟩) (by assumption) ?_
              rotate_left
              · (intro wx hSw; (try dsimp only at hSw); go_simp; (try with_reducible rfl))
              try simp only [Act.put, List.getElem_toArray, List.getElem_cons_zero, List.getElem_cons_succ, List.setIfInBounds_toArray, List.set_cons_zero, List.set_cons_succ]
              refine wpAnyH_take (i := 6) (v := ?_) rfl (by kernel_rfl) (by kernel_rfl) (by kernel_rfl) (fun _ _ _ h => h) (Or.inl ⟨by rfl, ?_⟩) (by assumption) ?_
              rotate_left
              · (intro wx hSw; (try dsimp only at hSw); go_simp; (try with_reducible rfl))
              try simp only [Act.put, List.getElem_toArray, List.getElem_cons_zero, List.getElem_cons_succ, List.setIfInBounds_toArray, List.set_cons_zero, List.set_cons_succ]
              refine wpAnyH_take (i := 7) (v := ?_) rfl (by kernel_rfl) (by kernel_rfl) (by kernel_rfl) (fun _ _ _ h => h) (Or.inl ⟨by rfl, ?_⟩) (by assumption) ?_
              rotate_left
              · (intro wx hSw; (try dsimp only at hSw); go_simp; (try with_reducible rfl))
              try simp only [Act.put, List.getElem_toArray, List.getElem_cons_zero, List.getElem_cons_succ, List.setIfInBounds_toArray, List.set_cons_zero, List.set_cons_succ]
              refine wpAnyH_take (i := 8) (v := ?_) rfl (by kernel_rfl) (by kernel_rfl) (by kernel_rfl) (fun _ _ _ h => h) (Or.inl ⟨by rfl, ?_⟩) (by assumption) ?_
              rotate_left
              · (intro wx hSw; (try dsimp only at hSw); go_simp; (try with_reducible rfl))
              try simp only [Act.put, List.getElem_toArray, List.getElem_cons_zero, List.getElem_cons_succ, List.setIfInBounds_toArray, List.set_cons_zero, List.set_cons_succ]
              refine wpAnyH_take (i := 9) (v := ?_) rfl (by kernel_rfl) (by kernel_rfl) (by kernel_rfl) (fun _ _ _ h => h) (Or.inl ⟨by rfl, ?_⟩) (by assumption) ?_
              rotate_left
              · (intro wx hSw; (try dsimp only at hSw); go_simp; (try with_reducible rfl))
              try simp only [Act.put, List.getElem_toArray, List.getElem_cons_zero, List.getElem_cons_succ, List.setIfInBounds_toArray, List.set_cons_zero, List.set_cons_succ]
              refine Sk.held_one (i := 10) (o := ({ dst := some 111, op := Op.call { callee := Callee.value (Operand.func 19), args := #[Operand.tmp 106, Operand.tmp 110], argTypes := #[37, 37] }, type := 4, pos := "law.go:138", after := #[{ on := 5, ground := Ground.data }, { on := 9, ground := Ground.data }, { on := 4, ground := Ground.chain }, { on := 4, ground := Ground.guard }], guard := some (4, false) } : Oper)) (by kernel_rfl) rfl (fun K hK => ?_)
              go_simp
              go_at_call 19
              (with_reducible refine (CS.out).mono ?_); rintro e w11 ⟨rfl, g11⟩
              go_wp2_with fail
              refine hK.out _ _ (HKP.out _ g11) (fun hHeld => ?_)
              clear hK K
              try simp only [Act.put, List.getElem_toArray, List.getElem_cons_zero, List.getElem_cons_succ, List.setIfInBounds_toArray, List.set_cons_zero, List.set_cons_succ]
              refine wpAnyH_take (i := 11) (v := ?_) rfl (by kernel_rfl) (by kernel_rfl) (by kernel_rfl) (fun _ _ _ h => h) (Or.inl ⟨by rfl, ?_⟩) (by assumption) ?_
              rotate_left
              · (intro wx hSw; (try dsimp only at hSw); go_simp; (try with_reducible rfl))
              try simp only [Act.put, List.getElem_toArray, List.getElem_cons_zero, List.getElem_cons_succ, List.setIfInBounds_toArray, List.set_cons_zero, List.set_cons_succ]
              refine wpAnyH_take (i := 12) (v := ?_) rfl (by kernel_rfl) (by kernel_rfl) (by kernel_rfl) (fun _ _ _ h => h) (Or.inl ⟨by rfl, ?_⟩) (by assumption) ?_
              rotate_left
              · (intro wx hSw; (try dsimp only at hSw); go_simp; (try with_reducible rfl))
              try simp only [Act.put, List.getElem_toArray, List.getElem_cons_zero, List.getElem_cons_succ, List.setIfInBounds_toArray, List.set_cons_zero, List.set_cons_succ]
              refine wpAnyH_done (by kernel_rfl) ?_ _
              refine Sk.Calm.normal ?_
              have hlt : ∀ b o, X.heap[b]? = some o → b < X.heap.size := fun b o h => (Array.getElem?_eq_some_iff.1 h).1
              have g11 : Below X.heap.size X w11 := ⟨g11.os, g11.tape, g11.output, g11.size, g11.block⟩
              have hi1 : Below W.heap.size w10 w11 := HI.out.1.trans (g11.mono (Nat.le_trans HX10.out.1.size HI.out.1.size))
              have hi3 := (g11.block _ (hlt _ _ HI.out.2)).trans HI.out.2
              have n1 := Sk.cell_blk hi3
              have f3 := frozen_of_row _ _ 0 _ _ hi3
              obtain ⟨w12, hw12⟩ : ∃ W, W = w11.setCell ⟨n6, 0, none⟩ (.int .i64 ((pre.length : Int) + 1)) := ⟨_, rfl⟩
              have hb12 : Below W.heap.size w11 w12 := by rw [hw12]; exact (Below.refl _ w11).setCell (p := ⟨n6, 0, none⟩) (by show W.heap.size ≤ n6; exact HX10.out.2.2.1) _
              have HR : Hid (Sk.Kp w10.heap.size O O X w12 ∧ Below W.heap.size X w12 ∧ Below W.heap.size w10 w12 ∧ w12.heap[n6]? = some (.cells #[.int .i64 (((pre ++ [y.d]).length : Nat) : Int)] 3 (0, 0))) := Lib.hid (by
                refine ⟨?_, (g11.mono (Nat.le_trans HX10.out.1.size HI.out.1.size)).trans hb12, hi1.trans hb12, ?_⟩
                · rw [hw12]
                  exact (Sk.Kp.below g11).trans (Sk.Kp.set O w11 (.inl HX10.out.2.1) _)
                · rw [hw12, List.length_append, List.length_cons, List.length_nil]
                  exact Sk.one_set _ hi3)
              clear hlt hi1 hi3 hb12 g11 HI CS hHeld hy HKP
              gi_wp2
              rw [← hw12]
              exact ⟨O, HR.out⟩
            case done2 =>
              rintro E O' X hE ⟨h1, h3⟩ hK
              have hWX : Below W.heap.size W X := HX10.out.1.trans h1
              obtain ⟨hr7, hrD, hr6, hb6⟩ := HNA2.out X hWX
              have n1 : X.cell? ⟨n6, 0, none⟩ = some (.int .i64 (M.length : Int)) := Sk.cell_blk h3
              have q0 := Sk.cell_blk hr7
              rw [HLM.out.2] at q0
              have r1 := Sk.cell_blk hr6
              have f1 := frozen_of_row _ _ 0 _ _ hr6
              have HDU := Lib.hid (HDX.out X hWX)
              have HFIN : Hid (E ≠ D ∧ (X.setCell ⟨w.heap.size, 0, none⟩ (.bool true)).heap[E]? = some (.deferred (some [])) ∧ (X.setCell ⟨w.heap.size, 0, none⟩ (.bool true)).heap[D]? = some (.deferred (some [])) ∧ (X.setCell ⟨w.heap.size, 0, none⟩ (.bool true)).heap[w.heap.size]? = some (.cells #[.bool true] 4 (0, 0)) ∧ Below w.heap.size w (((X.setCell ⟨w.heap.size, 0, none⟩ (.bool true)).putObj E (.deferred none)).putObj D (.deferred none))) := Lib.hid (by
                have hne : E ≠ w.heap.size := fun e => by rw [e] at hK; rw [hr6] at hK; cases hK
                have hne2 : D ≠ w.heap.size := fun e => by rw [e] at hrD; rw [hr6] at hrD; cases hrD
                have hED : E ≠ D := by have := HDL.out.1; have := HX10.out.1.size; omega
                have hk2 : (X.setCell ⟨w.heap.size, 0, none⟩ (.bool true)).heap[E]? = some (.deferred (some [])) := (Below.heap_setCell _ _ _ _ (by first | exact hne | exact hne.symm)).trans hK
                have hk3 : (X.setCell ⟨w.heap.size, 0, none⟩ (.bool true)).heap[D]? = some (.deferred (some [])) := (Below.heap_setCell _ _ _ _ (by first | exact hne2 | exact hne2.symm)).trans hrD
                have hk4 : ((X.setCell ⟨w.heap.size, 0, none⟩ (.bool true)).putObj E (.deferred none)).heap[D]? = some (.deferred (some [])) := (World.putObj_heap_other (by first | exact hED | exact hED.symm)).trans hk3
                have hle : w.heap.size ≤ E := by have := HDL.out; have := HX10.out.1.size; omega
                exact ⟨hED, hk2, hk3, Sk.one_set _ hr6, ((hb6.setCell (p := ⟨w.heap.size, 0, none⟩) (Nat.le_refl _) _).trans (belowK_b (Nat.le_refl _) _ E _ _ hle hk2 rfl rfl)).trans (belowK_b (Nat.le_refl _) _ D _ _ HDL.out.2 hk4 rfl rfl)⟩)
              have htt : ((M.length : Int) == (M.length : Int)) = true := by simp
              have CB1 := Lib.hid HDU.out.bytes
              have CB2 := Lib.hid HDU.out.swap.bytes
              have CL1 := Lib.hid HDU.out.len
              have CL2 := Lib.hid HDU.out.swap.len
              generalize wrap64 (Sk.bytes M : Int) = nb at CB1 CB2
              have hbb : (nb == nb) = true := by simp
              clear h1 h3 hK hr7 hrD hr6 hb6 hE hWX HX10 HIT HNA2 HDX HSEQ HDU
              gi_wp2_with (first
                | (refine ⟨trivial, ?_⟩; gi_at_call 15; with_reducible refine (callsIn_wide.2 CB1.out).mono ?_; rintro e w11 ⟨rfl, h9⟩; obtain rfl := h9.symm)
                | (refine ⟨trivial, ?_⟩; gi_at_call 15; with_reducible refine (callsIn_wide.2 CB2.out).mono ?_; rintro e w11 ⟨rfl, h9⟩; obtain rfl := h9.symm)
                | (refine ⟨trivial, ?_⟩; gi_at_call 14; with_reducible refine (callsIn_wide.2 CL1.out).mono ?_; rintro e w11 ⟨rfl, h9⟩; obtain rfl := h9.symm)
                | (refine ⟨trivial, ?_⟩; gi_at_call 14; with_reducible refine (callsIn_wide.2 CL2.out).mono ?_; rintro e w11 ⟨rfl, h9⟩; obtain rfl := h9.symm))
              exact Sk.done_cell2 rfl rfl HFIN.out.1 HFIN.out.2.1 HFIN.out.2.2.1 HFIN.out.2.2.2.1 ⟨rfl, HFIN.out.2.2.2.2⟩
            case stop2 =>
              rintro D c pre O W hD hpre hne h0 hK
              exact h0.elim
          case stop =>
            rintro D c pre O W hD hpre hne h0 hK
            exact h0.elim
end Go.Proofs.YtfjhffldhpcdmaaDoor
