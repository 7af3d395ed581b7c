import Derived.Test.YtodeodndjkkkbaaZAN
namespace Go.Proofs.Ytodeodndjkkkbaa
open Go Go.RowKit
structure Su.Two (base : Nat) (W : World) (va vb : Value) (Ka Kb : List (Option Addr × Nat × Nat)) (Qa Qb : List (List Kn.V)) : Prop where
 oa : Dk.Own 58 1 Bk.e1 base W va Ka
 ob : Dk.Own 58 1 Bk.e1 base W vb Kb
 ra : Su.Rb base W Ka Qa
 rb : Su.Rb base W Kb Qb
 ap : ∀ q, va.ownBlock = some q → vb.ownBlock ≠ some q
theorem Su.Two.kept {base : Nat} {W W' : World} {va vb : Value} {Ka Kb : List (Option Addr × Nat × Nat)} {Qa Qb : List (List Kn.V)} (h : Su.Two base W va vb Ka Kb Qa Qb) (g : Below W.heap.size W W') : Su.Two base W' va vb Ka Kb Qa Qb :=
 ⟨h.oa.kept g, h.ob.kept g, h.ra.kept g, h.rb.kept g, h.ap⟩
theorem Su.Two.growA {base : Nat} {W W' : World} {va vb va' : Value} {Ka Kb : List (Option Addr × Nat × Nat)} {Qa Qb : List (List Kn.V)} (h : Su.Two base W va vb Ka Kb Qa Qb) {y : Option Addr × Nat × Nat} {r : List Kn.V} (hy : Dk.Own 36 3 Sk.ve base W (Bk.sv y) r)
 (o : Dk.Own 58 1 Bk.e1 base W' va' (Ka ++ [y])) (g : Ty.Grew W W' va va') : Su.Two base W' va' vb (Ka ++ [y]) Kb (Qa ++ [r]) Qb := by
 refine ⟨o, h.ob.same fun q hq => g.by_.block q (h.ob.lt q hq) fun e => h.ap q e.symm hq, (h.ra.snoc hy).grew h.oa g, h.rb.grew h.oa g, fun q hq hb => ?_⟩
 rcases g.own with e | ⟨k, e, hk⟩
 ·exact h.ap q (e ▸ hq) hb
 ·rw [e] at hq
  have := h.ob.lt q hb
  have := Option.some.inj hq
  omega
theorem Su.Two.growB {base : Nat} {W W' : World} {va vb vb' : Value} {Ka Kb : List (Option Addr × Nat × Nat)} {Qa Qb : List (List Kn.V)} (h : Su.Two base W va vb Ka Kb Qa Qb) {y : Option Addr × Nat × Nat} {r : List Kn.V} (hy : Dk.Own 36 3 Sk.ve base W (Bk.sv y) r)
 (o : Dk.Own 58 1 Bk.e1 base W' vb' (Kb ++ [y])) (g : Ty.Grew W W' vb vb') : Su.Two base W' va vb' Ka (Kb ++ [y]) Qa (Qb ++ [r]) := by
 refine ⟨h.oa.same fun q hq => g.by_.block q (h.oa.lt q hq) fun e => h.ap q hq e.symm, o, h.ra.grew h.ob g, (h.rb.snoc hy).grew h.ob g, fun q hq hb => ?_⟩
 rcases g.own with e | ⟨k, e, hk⟩
 ·exact h.ap q hq (e ▸ hb)
 ·rw [e] at hb
  have := h.oa.lt q hq
  have := Option.some.inj hb
  omega
theorem Su.row_lit {base : Nat} {w : World} (hb : base ≤ w.heap.size) (x : Kn.V) : Dk.Own 36 3 Sk.ve base (w.alloc (.cells #[.bool x.null, .int .i64 x.n, .string x.s] 36)) (Bk.sv (some ⟨w.heap.size, 0, none⟩, 1, 1)) [x] :=
 World.ownsRow_lit w #[.bool x.null, .int .i64 x.n, .string x.s] 1 hb (by decide) rfl
def Su.ra_ (L : List Int) : List (List Kn.V) := L.map fun n => [Su.n1 n]
def Su.sh (more n : Int) : Int := wrap64 (IntKind.u64.wrap (IntKind.u64.wrap n + IntKind.u64.wrap more))
theorem Su.ra_len (L : List Int) : (Su.ra_ L).length = L.length := by unfold Su.ra_; rw [List.length_map]
theorem Su.ra_step {L : List Int} {k : Nat} {x : Int} (h : L[k]? = some x) : Su.ra_ (L.take (k + 1)) = Su.ra_ (L.take k) ++ [[Su.n1 x]] := by
 obtain ⟨hk, rfl⟩ := List.getElem?_eq_some_iff.1 h
 unfold Su.ra_
 rw [List.take_succ_eq_append_getElem hk, List.map_append]
 rfl
theorem Su.sh_step {L : List Int} {k : Nat} {x : Int} (more : Int) (h : L[k]? = some x) : Su.ra_ ((L.take (k + 1)).map (Su.sh more)) = Su.ra_ ((L.take k).map (Su.sh more)) ++ [[Su.n1 (Su.sh more x)]] := by
 obtain ⟨hk, rfl⟩ := List.getElem?_eq_some_iff.1 h
 unfold Su.ra_
 rw [List.take_succ_eq_append_getElem hk, List.map_append, List.map_append]
 rfl
def Su.nu (m : Nat) : List (List Kn.V) := List.replicate m [Su.nul]
theorem Su.nu_step (m : Nat) : Su.nu (m + 1) = Su.nu m ++ [[Su.nul]] := List.replicate_succ'
theorem Su.all_z (L : List Int) (m : Nat) : ∀ r ∈ Su.ra_ L ++ Su.nu m, ∀ x ∈ r, Kn.Z x := fun r hr x hx => by
 rcases List.mem_append.1 hr with h | h
 ·unfold Su.ra_ at h
  obtain ⟨n, _, rfl⟩ := List.mem_map.1 h
  obtain rfl := List.mem_singleton.1 hx
  exact (show (0 : Nat) ≤ 140737488351232 by decide)
 ·unfold Su.nu at h
  obtain rfl := (List.mem_replicate.1 h).2
  obtain rfl := List.mem_singleton.1 hx
  exact (show (0 : Nat) ≤ 140737488351232 by decide)
theorem Su.col_sh (L : List Int) (m : Nat) : Su.col 0 (Su.ra_ L ++ Su.nu m) = L.map Su.n1 ++ List.replicate m Su.nul := by
 unfold Su.col Su.ra_ Su.nu
 rw [List.map_append, List.map_map, List.map_replicate]
 rfl
theorem Su.cnt_sh (L : List Int) (m : Nat) : Su.cnt (L.map Su.n1 ++ List.replicate m Su.nul) = L.length := by
 have h1 : ∀ L : List Int, Su.cnt (L.map Su.n1) = L.length := fun L => by
  induction L with
  | nil => rfl
  | cons x L ih => rw [List.map_cons, Su.cnt, ih, List.length_cons]; simp [Su.n1]; omega
 have h2 : ∀ m, Su.cnt (List.replicate m Su.nul) = 0 := fun m => by
  induction m with
  | zero => rfl
  | succ m ih => rw [List.replicate_succ, Su.cnt, ih]; rfl
 rw [Su.cnt_app, h1, h2, Nat.add_zero]
theorem Su.tot_sh (L : List Int) (m : Nat) : Su.tot (L.map Su.n1 ++ List.replicate m Su.nul) = L.sum := by
 have h1 : ∀ L : List Int, Su.tot (L.map Su.n1) = L.sum := fun L => by
  induction L with
  | nil => rfl
  | cons x L ih => rw [List.map_cons, Su.tot, ih, List.sum_cons]; simp [Su.n1]
 have h2 : ∀ m, Su.tot (List.replicate m Su.nul) = 0 := fun m => by
  induction m with
  | zero => rfl
  | succ m ih => rw [List.replicate_succ, Su.tot, ih]; rfl
 rw [Su.tot_app, h1, h2, Int.add_zero]
theorem Su.fold_sh (L : List Int) (m : Nat) : ∃ lo hi, Su.fold 0 (Su.ra_ L ++ Su.nu m) = (⟨((L.length + m : Nat) : Int), wrap64 L.sum, (L.length : Nat), lo, hi⟩, 0) := by
 have h : (Su.ra_ L ++ Su.nu m).all (Su.hasC 0) = true := by
  rw [List.all_append, Bool.and_eq_true, List.all_eq_true, List.all_eq_true]
  constructor
  ·intro r hr
   unfold Su.ra_ at hr
   obtain ⟨n, _, rfl⟩ := List.mem_map.1 hr
   rfl
  ·intro r hr
   unfold Su.nu at hr
   obtain rfl := (List.mem_replicate.1 hr).2
   rfl
 refine ⟨(Zn.of (L.map Su.n1 ++ List.replicate m Su.nul)).lo, (Zn.of (L.map Su.n1 ++ List.replicate m Su.nul)).hi, ?_⟩
 rw [Su.fold_all h, Su.col_sh]
 unfold Su.of
 rw [Su.cnt_sh, Su.tot_sh, List.length_append, Su.ra_len, show (Su.nu m).length = m from List.length_replicate]
theorem Su.sum_sh (more : Int) : ∀ L : List Int, ∃ q : Int, (L.map (Su.sh more)).sum = L.sum + more * (L.length : Nat) + q * 18446744073709551616
 | [] => ⟨0, by simp⟩
 | x :: L => by
   obtain ⟨q, hq⟩ := Su.sum_sh more L
   have h1 : ∃ p : Int, Su.sh more x = x + more + p * 18446744073709551616 := by
    unfold Su.sh
    rw [Ig.add_wrap]
    unfold wrap64
    refine ⟨-((x + more + 9223372036854775808) / 18446744073709551616), ?_⟩
    omega
   obtain ⟨p, hp⟩ := h1
   refine ⟨p + q, ?_⟩
   rw [List.map_cons, List.sum_cons, List.sum_cons, hq, hp, List.length_cons, Int.natCast_add, Int.mul_add, Int.add_mul]
   simp only [Int.natCast_one, Int.mul_one]
   omega
theorem Su.fin_sh (more : Int) (L : List Int) : (IntKind.u64.wrap (wrap64 (L.map (Su.sh more)).sum) == IntKind.u64.wrap (IntKind.u64.wrap (wrap64 L.sum) + IntKind.u64.wrap (IntKind.u64.wrap more * IntKind.u64.wrap (L.length : Nat)))) = true := by
 obtain ⟨q, hq⟩ := Su.sum_sh more L
 rw [hq, beq_iff_eq]
 have hm : IntKind.u64.wrap (IntKind.u64.wrap more * IntKind.u64.wrap (L.length : Nat)) = IntKind.u64.wrap (more * (L.length : Nat)) := by
  rw [IntKind.wrap_u64, IntKind.wrap_u64, IntKind.wrap_u64, IntKind.wrap_u64]
  exact (Int.mul_emod _ _ _).symm
 rw [hm]
 generalize more * (L.length : Nat) = y
 generalize L.sum = x
 rw [IntKind.wrap_u64, IntKind.wrap_u64, IntKind.wrap_u64, IntKind.wrap_u64]
 unfold wrap64
 omega
theorem Su.nat20 (n : Int) : ∃ m : Nat, m < 20 ∧ wrap64 ((IntKind.u64.wrap n).tmod 20) = (m : Int) := by
 rw [IntKind.wrap_u64, Int.tmod_eq_emod_of_nonneg (by omega)]
 refine ⟨((n % 18446744073709551616) % 20).toNat, by omega, ?_⟩
 unfold wrap64
 omega
set_option maxHeartbeats 1000000 in
set_option maxRecDepth 100000 in
theorem Su.lawShift_w (v : Value) (L : List Int) (nulls more : Int) (w : World) (hv : Mf.Is w v L) (hl : L.length ≤ 1048576) :
 Calls Try.prog 12 #[v, .int .i64 nulls, .int .i64 more] w fun e w' => e = .returned (.bool true) ∧ Below w.heap.size w w' := by
 have CL := Lib.hid (Su.lives_c w)
 have HV := Lib.hid hv
 have HL := Lib.hid hl
 obtain ⟨m, hm20, hm⟩ := Su.nat20 nulls
 have HM20 := Lib.hid hm20
 obtain ⟨a, ac, rfl, -⟩ := hv
 clear hl hm20
 go_enter Try.func12, Try.ntmps12
 go_wp2_with fail
 refine (CL.out).mono ?_
 rintro e w1 ⟨rfl, g1⟩
 have HG1 := Lib.hid g1
 clear g1
 go_wp2
 go_loopw [7, 8, 9] (fun va vb i wr => ∃ (k : Nat) (Ka Kb : List (Option Addr × Nat × Nat)), k ≤ L.length ∧ i = .int .i64 k ∧ Su.Two w1.heap.size wr va vb Ka Kb (Su.ra_ (L.take k)) (Su.ra_ ((L.take k).map (Su.sh more))) ∧ Below w1.heap.size w1 wr) (fun _ _ i _ => L.length - (intOf i).toNat)
 case atStart => exact ⟨0, [], [], Nat.zero_le _, rfl, ⟨Dk.Own.nil _ _, Dk.Own.nil _ _, ⟨rfl, fun i x hx => by cases hx⟩, ⟨rfl, fun i x hx => by cases hx⟩, fun q hq => by cases hq⟩, Below.refl _ _⟩
 case round =>
  obtain ⟨k, Ka, Kb, hk, rfl, hT, hB⟩ := hrel
  have HT := Lib.hid hT
  have HB := Lib.hid hB
  obtain ⟨a1, a2, a3, rfl⟩ : ∃ a n c, u7 = .slice a n c := by
   rcases hT.oa.form with ⟨e, _⟩ | ⟨g, c, e, _⟩
   ·exact ⟨none, 0, 0, e⟩
   ·exact ⟨_, _, c, e⟩
  obtain ⟨b1, b2, b3, rfl⟩ : ∃ a n c, u8 = .slice a n c := by
   rcases hT.ob.form with ⟨e, _⟩ | ⟨g, c, e, _⟩
   ·exact ⟨none, 0, 0, e⟩
   ·exact ⟨_, _, c, e⟩
  have HKK : Hid (Ka.length ≤ 1048576 ∧ Kb.length ≤ 1048576) := Lib.hid (by
   have h1 := hT.ra.1
   have h2 := hT.rb.1
   rw [Su.ra_len, List.length_take] at h1
   rw [Su.ra_len, List.length_map, List.length_take] at h2
   have := HL.out
   omega)
  clear hT hB
  have HGR := Lib.hid (HG1.out.trans (HB.out.mono HG1.out.size))
  by_cases hkl : k < L.length
  ·obtain ⟨a4, a5, ea, -, hcc⟩ := HV.out
   simp only [Value.slice.injEq] at ea
   obtain ⟨rfl, -, rfl⟩ := ea
   rcases hcc with ⟨rfl, _⟩ | ⟨b, o, cls, fr, rfl, _, hb, hcl⟩
   ·simp at hkl
   have hx := List.getElem?_eq_getElem hkl
   generalize L[k] = x at hx
   have HC0 := Lib.hid (Mf.Is.num hcl hx)
   have HCB := Lib.hid (lt_of_block hb)
   have c0 := (HGR.out.cell (p := ⟨b, o + k, none⟩) HCB.out).trans HC0.out
   have HS1 := Lib.hid (Su.ra_step hx)
   have HS2 := Lib.hid (Su.sh_step more hx)
   have dk : (k : Int) < (L.length : Int) := by omega
   have dk0 : (0 : Int) ≤ (k : Int) := by omega
   have dk7 : (k : Int) ≤ 1048576 := by have := HL.out; omega
   have HK := Lib.hid hkl
   clear hcl hb hx hkl hk
   have g2 : Below wr.heap.size wr (wr.alloc (.cells #[.bool false, .int .i64 x, .string ⟨#[]⟩] 36)) := (Below.refl _ _).alloc (Nat.le_refl _) _
   have HT2 := Lib.hid (HT.out.kept g2)
   have HB2 := Lib.hid (HB.out.trans (g2.mono HB.out.size))
   have HR2 := Lib.hid (Su.row_lit (base := w1.heap.size) HB.out.size (Su.n1 x))
   simp only [Su.n1] at HR2
   have ho := HT2.out.oa
   have hbs := HB2.out.size
   have hlk := HKK.out.1
   clear g2
   go_wp2_with (first
    | (at_builtin
       refine Dk.wpList_append1 45 _ 24 Try.underlying45 Su.infoR rfl (by decide) Bk.e1_len Bk.e1_one (some ⟨wr.heap.size, 0, none⟩, 1, 1) ho hbs (by omega) (by omega) (wr.heap.size + 1) (World.size_alloc _ _).symm _ rfl (.tmp 23) (.tmp 30) (by rfl) (by rfl) (by rfl) (by rfl) ?_
       intro v6 w6 h6 g6
       have HT6 := Lib.hid (HT2.out.growA HR2.out h6 g6)
       have HB6 := Lib.hid (HB2.out.trans (g6.below HB2.out.size ho.base_le))
       obtain ⟨e1, e2, e3, rfl⟩ : ∃ a n c, v6 = .slice a n c := by
        rcases h6.form with ⟨e, _⟩ | ⟨g, c, e, _⟩
        ·exact ⟨none, 0, 0, e⟩
        ·exact ⟨_, _, c, e⟩
       have c6 := ((HG1.out.trans (HB6.out.mono HG1.out.size)).cell (p := ⟨b, o + k, none⟩) HCB.out).trans HC0.out
       have g7 : Below w6.heap.size w6 (w6.alloc (.cells #[.bool false, .int .i64 (Su.sh more x), .string ⟨#[]⟩] 36)) := (Below.refl _ _).alloc (Nat.le_refl _) _
       have HT7 := Lib.hid (HT6.out.kept g7)
       have HB7 := Lib.hid (HB6.out.trans (g7.mono HB6.out.size))
       have HR7 := Lib.hid (Su.row_lit (base := w1.heap.size) HB6.out.size (Su.n1 (Su.sh more x)))
       simp only [Su.n1] at HR7
       simp only [Su.sh] at HT7 HB7 HR7
       have ho7 := HT7.out.ob
       have hbs7 := HB7.out.size
       have hlk7 := HKK.out.2
       clear ho hbs hlk h6 g6 g7 c0)
    | (at_builtin
       refine Dk.wpList_append1 45 _ 24 Try.underlying45 Su.infoR rfl (by decide) Bk.e1_len Bk.e1_one (some ⟨w6.heap.size, 0, none⟩, 1, 1) ho7 hbs7 (by omega) (by omega) (w6.heap.size + 1) (World.size_alloc _ _).symm _ rfl (.tmp 32) (.tmp 44) (by rfl) (by rfl) (by rfl) (by rfl) ?_
       intro v8 w8 h8 g8
       have HT8 := Lib.hid (HT7.out.growB HR7.out h8 g8)
       have HB8 := Lib.hid (HB7.out.trans (g8.below HB7.out.size ho7.base_le))
       clear ho7 hbs7 hlk7 h8 g8 c6)
    | fail)
   go_roundw
   case rel => exact ⟨k + 1, _, _, HK.out, by simp, by rw [HS1.out, HS2.out]; exact HT8.out, HB8.out⟩
   case measure => (have := HK.out; simp [intOf]; omega)
  ·obtain rfl : k = L.length := by omega
   have dk : ¬ (L.length : Int) < (L.length : Int) := by omega
   rw [List.take_length] at HT
   obtain ⟨Ka0, Kb0, HT0⟩ : ∃ Ka Kb, Hid (Su.Two w1.heap.size wr (.slice a1 a2 a3) (.slice b1 b2 b3) Ka Kb (Su.ra_ L ++ Su.nu 0) (Su.ra_ (L.map (Su.sh more)) ++ Su.nu 0)) := ⟨Ka, Kb, Lib.hid (by rw [show Su.nu 0 = [] from rfl, List.append_nil, List.append_nil]; exact HT.out)⟩
   clear hkl hk HT HGR
   obtain ⟨wo, hwo⟩ : ∃ wo, wo = wr := ⟨_, rfl⟩
   subst hwo
   go_wp2
   go_loopw [7, 8, 10] (fun va vb i wr => ∃ (k : Nat) (Ka Kb : List (Option Addr × Nat × Nat)), k ≤ m ∧ i = .int .i64 k ∧ Su.Two w1.heap.size wr va vb Ka Kb (Su.ra_ L ++ Su.nu k) (Su.ra_ (L.map (Su.sh more)) ++ Su.nu k) ∧ Below w1.heap.size w1 wr) (fun _ _ i _ => m - (intOf i).toNat)
   case atStart => exact ⟨0, Ka0, Kb0, Nat.zero_le _, rfl, HT0.out, HB.out⟩
   case round =>
    clear HB HT0 HKK
    obtain ⟨k, Ka, Kb, hk, rfl, hT, hB⟩ := hrel
    have HT := Lib.hid hT
    have HB := Lib.hid hB
    obtain ⟨a1, a2, a3, rfl⟩ : ∃ a n c, u7 = .slice a n c := by
     rcases hT.oa.form with ⟨e, _⟩ | ⟨g, c, e, _⟩
     ·exact ⟨none, 0, 0, e⟩
     ·exact ⟨_, _, c, e⟩
    obtain ⟨b1, b2, b3, rfl⟩ : ∃ a n c, u8 = .slice a n c := by
     rcases hT.ob.form with ⟨e, _⟩ | ⟨g, c, e, _⟩
     ·exact ⟨none, 0, 0, e⟩
     ·exact ⟨_, _, c, e⟩
    have HKK : Hid (Ka.length ≤ 1048596 ∧ Kb.length ≤ 1048596) := Lib.hid (by
     have h1 := hT.ra.1
     have h2 := hT.rb.1
     rw [List.length_append, Su.ra_len, show (Su.nu k).length = k from List.length_replicate] at h1
     rw [List.length_append, Su.ra_len, List.length_map, show (Su.nu k).length = k from List.length_replicate] at h2
     have := HL.out
     have := HM20.out
     omega)
    clear hT hB
    have dm0 : (0 : Int) ≤ (m : Int) := by omega
    have dm7 : (m : Int) ≤ 20 := by have := HM20.out; omega
    by_cases hkl : k < m
    ·have dk : (k : Int) < (m : Int) := by omega
     have dk0 : (0 : Int) ≤ (k : Int) := by omega
     have dk7 : (k : Int) ≤ 1048576 := by have := HM20.out; omega
     have HK := Lib.hid hkl
     clear hkl hk
     have g2 : Below wr.heap.size wr (wr.alloc (.cells #[.bool true, .int .i64 0, .string ⟨#[]⟩] 36)) := (Below.refl _ _).alloc (Nat.le_refl _) _
     have HT2 := Lib.hid (HT.out.kept g2)
     have HB2 := Lib.hid (HB.out.trans (g2.mono HB.out.size))
     have HR2 := Lib.hid (Su.row_lit (base := w1.heap.size) HB.out.size Su.nul)
     simp only [Su.nul] at HR2
     have ho := HT2.out.oa
     have hbs := HB2.out.size
     have hlk := HKK.out.1
     clear g2
     go_wp2_with (first
      | (at_builtin
         refine Dk.wpList_append1 45 _ 24 Try.underlying45 Su.infoR rfl (by decide) Bk.e1_len Bk.e1_one (some ⟨wr.heap.size, 0, none⟩, 1, 1) ho hbs (by omega) (by omega) (wr.heap.size + 1) (World.size_alloc _ _).symm _ rfl (.tmp 54) (.tmp 57) (by rfl) (by rfl) (by rfl) (by rfl) ?_
         intro v6 w6 h6 g6
         have HT6 := Lib.hid (HT2.out.growA HR2.out h6 g6)
         have HB6 := Lib.hid (HB2.out.trans (g6.below HB2.out.size ho.base_le))
         obtain ⟨e1, e2, e3, rfl⟩ : ∃ a n c, v6 = .slice a n c := by
          rcases h6.form with ⟨e, _⟩ | ⟨g, c, e, _⟩
          ·exact ⟨none, 0, 0, e⟩
          ·exact ⟨_, _, c, e⟩
         have g7 : Below w6.heap.size w6 (w6.alloc (.cells #[.bool true, .int .i64 0, .string ⟨#[]⟩] 36)) := (Below.refl _ _).alloc (Nat.le_refl _) _
         have HT7 := Lib.hid (HT6.out.kept g7)
         have HB7 := Lib.hid (HB6.out.trans (g7.mono HB6.out.size))
         have HR7 := Lib.hid (Su.row_lit (base := w1.heap.size) HB6.out.size Su.nul)
         simp only [Su.nul] at HR7
         have ho7 := HT7.out.ob
         have hbs7 := HB7.out.size
         have hlk7 := HKK.out.2
         clear ho hbs hlk h6 g6 g7)
      | (at_builtin
         refine Dk.wpList_append1 45 _ 24 Try.underlying45 Su.infoR rfl (by decide) Bk.e1_len Bk.e1_one (some ⟨w6.heap.size, 0, none⟩, 1, 1) ho7 hbs7 (by omega) (by omega) (w6.heap.size + 1) (World.size_alloc _ _).symm _ rfl (.tmp 59) (.tmp 62) (by rfl) (by rfl) (by rfl) (by rfl) ?_
         intro v8 w8 h8 g8
         have HT8 := Lib.hid (HT7.out.growB HR7.out h8 g8)
         have HB8 := Lib.hid (HB7.out.trans (g8.below HB7.out.size ho7.base_le))
         clear ho7 hbs7 hlk7 h8 g8)
      | fail)
     go_roundw
     case rel => exact ⟨k + 1, _, _, HK.out, by simp, by rw [Su.nu_step, ← List.append_assoc, ← List.append_assoc]; exact HT8.out, HB8.out⟩
     case measure => (have := HK.out; simp [intOf]; omega)
    ·have dk : ¬ (k : Int) < (m : Int) := by omega
     have dk0 : (0 : Int) ≤ (k : Int) := by omega
     have HKM : Hid (k = m) := Lib.hid (by omega)
     clear hkl hk
     have hfin := Su.fin_sh more L
     obtain ⟨xlo, xhi, hfa⟩ := Su.fold_sh L k
     obtain ⟨ylo, yhi, hfb⟩ := Su.fold_sh (L.map (Su.sh more)) k
     rw [List.length_map] at hfb
     have ca := fun (z : Value) (w' : World) (h : Rn.Rws w' z (Su.ra_ L ++ Su.nu k)) => Su.fold_c z _ 0 w' h (Su.all_z L k) (by rw [List.length_append, Su.ra_len, show (Su.nu k).length = k from List.length_replicate]; have := HL.out; have := HM20.out; have := HKM.out; omega)
     have cb := fun (z : Value) (w' : World) (h : Rn.Rws w' z (Su.ra_ (L.map (Su.sh more)) ++ Su.nu k)) => Su.fold_c z _ 0 w' h (Su.all_z (L.map (Su.sh more)) k) (by rw [List.length_append, Su.ra_len, List.length_map, show (Su.nu k).length = k from List.length_replicate]; have := HL.out; have := HM20.out; have := HKM.out; omega)
     rw [hfa] at ca
     rw [hfb] at cb
     obtain ⟨xln, xli, xls⟩ := xlo
     obtain ⟨xhn, xhi, xhs⟩ := xhi
     obtain ⟨yln, yli, yls⟩ := ylo
     obtain ⟨yhn, yhi, yhs⟩ := yhi
     simp only [Su.S.val, Su.cs] at ca cb
     generalize wrap64 L.sum = xq at ca hfin
     generalize wrap64 (L.map (Su.sh more)).sum = yq at cb hfin
     have CA := Lib.hid ca
     have CB := Lib.hid cb
     have HRA := Lib.hid (Su.rows_of HT.out.oa HT.out.ra)
     have HRB := Lib.hid (Su.rows_of HT.out.ob HT.out.rb)
     have HG2 := Lib.hid (HG1.out.trans (HB.out.mono HG1.out.size))
     have HFIN := Lib.hid hfin
     obtain ⟨xc, hxc⟩ : ∃ n : Int, n = ((L.length + k : Nat) : Int) := ⟨_, rfl⟩
     obtain ⟨xv, hxv⟩ : ∃ n : Int, n = ((L.length : Nat) : Int) := ⟨_, rfl⟩
     rw [← hxc, ← hxv] at CA CB
     have HXV := Lib.hid hxv
     clear ca cb hfa hfb HT hxc hxv hfin
     go_wp2_with fail
     refine (CA.out _ _ HRA.out).mono ?_
     rintro e w2 ⟨rfl, g2⟩
     have HG3 := Lib.hid (HG2.out.trans (g2.mono HG2.out.size))
     have HRB2 := Lib.hid (HRB.out.later g2)
     clear g2 HG2 HRB HRA
     go_upto_region 15 with (fail)
     obtain ⟨qx, hq⟩ : ∃ b, b = w2.heap.size := ⟨_, rfl⟩
     have HN := Lib.hid (Su.Blk.new w2 ⟨xc, xq, xv, ⟨xln, xli, xls⟩, ⟨xhn, xhi, xhs⟩⟩)
     have gn : Below w2.heap.size w2 (w2.alloc (.cells (Su.cs ⟨xc, xq, xv, ⟨xln, xli, xls⟩, ⟨xhn, xhi, xhs⟩⟩) 52)) := (Below.refl _ _).alloc (Nat.le_refl _) _
     have HG4 := Lib.hid (HG3.out.trans (gn.mono HG3.out.size))
     have HRB3 := Lib.hid (HRB2.out.later gn)
     clear gn HG3 HRB2
     simp only [Su.cs] at HG4 HN HRB3
     rw [← hq] at HN ⊢
     generalize World.alloc _ _ = w3 at HG4 HN HRB3 ⊢
     clear hq
     have HX3 := HN
     clear HN
     go_wp2_with fail
     refine (CB.out _ _ HRB3.out).mono ?_
     rintro e w4 ⟨rfl, g4⟩
     have HG5 := Lib.hid (HG4.out.trans (g4.mono HG4.out.size))
     have HX5 := Lib.hid (HX3.out.kept g4)
     clear g4 HG4 HX3 HRB3
     go_upto_region 16 with (fail)
     obtain ⟨qy, hq⟩ : ∃ b, b = w4.heap.size := ⟨_, rfl⟩
     have HN := Lib.hid (Su.Blk.new w4 ⟨xc, yq, xv, ⟨yln, yli, yls⟩, ⟨yhn, yhi, yhs⟩⟩)
     have gn : Below w4.heap.size w4 (w4.alloc (.cells (Su.cs ⟨xc, yq, xv, ⟨yln, yli, yls⟩, ⟨yhn, yhi, yhs⟩⟩) 52)) := (Below.refl _ _).alloc (Nat.le_refl _) _
     have HG6 := Lib.hid (HG5.out.trans (gn.mono HG5.out.size))
     have HX6 := Lib.hid (HX5.out.kept gn)
     clear gn HG5 HX5
     simp only [Su.cs] at HG6 HN HX6
     rw [← hq] at HN ⊢
     generalize World.alloc _ _ = w5 at HG6 HN HX6 ⊢
     clear hq
     have HN5 := HN
     clear HN
     obtain ⟨x0, x1, x2, x3, x4, x5, x6, x7, x8⟩ := HX6.out.cells
     obtain ⟨y0, y1, y2, y3, y4, y5, y6, y7, y8⟩ := HN5.out.cells
     simp only at x0 x1 x2 x3 x4 x5 x6 x7 x8 y0 y1 y2 y3 y4 y5 y6 y7 y8
     have hfin := HFIN.out
     have hxv := HXV.out
     subst hxv
     go_wp2
     go_ret
     exact ⟨rfl, HG6.out⟩
end Go.Proofs.Ytodeodndjkkkbaa
