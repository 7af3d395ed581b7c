import Derived.Test.YtodeodndjkkkbaaZAJ
import Derived.Test.YtodeodndjkkkbaaZAK
import Derived.BigQuiet
namespace Go.Proofs.Ytodeodndjkkkbaa
section
open Go Go.RowKit
theorem Su.infoR : (Try.prog.info? 58).map (fun i => (i.zero, i.size, i.bytes)) = some (some (.slice none 0 0), 1, 24) := by kernel_rfl
theorem Su.make_row (w : World) (m : Nat) (hm : m ≤ 4398046511104) : ∃ w2, (Instr.makeSlice 58 (.int .i64 0) (.int .i64 (m : Int))).run Try.prog w = .ok (.slice (some ⟨w.heap.size, 0, none⟩) 0 m) w2 ∧ Dk.Own 36 3 Sk.ve w.heap.size w2 (.slice (some ⟨w.heap.size, 0, none⟩) 0 m) [] ∧ Below w.heap.size w w2 := by
 obtain ⟨i0, hi0, hz0, hz1, hz2⟩ := info_parts Cl.infoV
 obtain ⟨w2, h1, h2, h3⟩ := run_make_own (P := Try.prog) w w.heap.size 58 36 i0 _ 3 Try.underlying58 hi0 hz0 hz1 .i64 .i64 m (by rw [hz2]; omega) (by unfold maxLen; omega) (Nat.le_refl _)
 exact ⟨w2, h1, h2, Ty.below_none h3 (Nat.le_refl _)⟩
theorem Su.make_rows (w : World) (m : Nat) (hm : m ≤ 4398046511104) : ∃ w2, (Instr.makeSlice 45 (.int .i64 0) (.int .i64 (m : Int))).run Try.prog w = .ok (.slice (some ⟨w.heap.size, 0, none⟩) 0 m) w2 ∧ Dk.Own 58 1 Bk.e1 w.heap.size w2 (.slice (some ⟨w.heap.size, 0, none⟩) 0 m) [] ∧ Below w.heap.size w w2 := by
 obtain ⟨i0, hi0, hz0, hz1, hz2⟩ := info_parts Su.infoR
 obtain ⟨w2, h1, h2, h3⟩ := run_make_own (P := Try.prog) w w.heap.size 45 58 i0 _ 1 Try.underlying45 hi0 hz0 hz1 .i64 .i64 m (by rw [hz2]; omega) (by unfold maxLen; omega) (Nat.le_refl _)
 exact ⟨w2, h1, h2, Ty.below_none h3 (Nat.le_refl _)⟩
def Su.allC (cs : List Int) (r : List Kn.V) : Bool := cs.all fun c => Su.hasC c r
def Su.cells (cs : List Int) (r : List Kn.V) : List Kn.V := cs.map fun c => Su.cell c r
theorem Su.cells_len (cs : List Int) (r : List Kn.V) : (Su.cells cs r).length = cs.length := by unfold Su.cells; rw [List.length_map]
theorem Su.all_step {cs : List Int} {r : List Kn.V} {k : Nat} {c : Int} (hc : cs[k]? = some c) (ha : Su.allC (cs.take k) r = true) (h : Su.hasC c r = true) : Su.allC (cs.take (k + 1)) r = true := by
 obtain ⟨hk, rfl⟩ := List.getElem?_eq_some_iff.1 hc
 unfold Su.allC at *
 rw [List.take_succ_eq_append_getElem hk, List.all_append, ha]
 simp [h]
theorem Su.cells_step {cs : List Int} {r : List Kn.V} {k : Nat} {c : Int} (hc : cs[k]? = some c) : Su.cells (cs.take (k + 1)) r = Su.cells (cs.take k) r ++ [Su.cell c r] := by
 obtain ⟨hk, rfl⟩ := List.getElem?_eq_some_iff.1 hc
 unfold Su.cells
 rw [List.take_succ_eq_append_getElem hk, List.map_append]
 rfl
theorem Su.all_no {cs : List Int} {r : List Kn.V} {k : Nat} {c : Int} (hc : cs[k]? = some c) (h : Su.hasC c r = false) : Su.allC cs r = false := by
 cases ha : Su.allC cs r
 ·rfl
 ·unfold Su.allC at ha
  have := List.all_eq_true.1 ha c (List.mem_of_getElem? hc)
  rw [h] at this
  cases this
def Su.PickD (w : World) (cs : List Int) (r : List Kn.V) (e : Ending) (w' : World) : Prop :=
 ∃ p : Option Addr × Nat × Nat, e = .returned (.tuple #[Bk.sv p, .bool (Su.allC cs r)]) ∧ (Su.allC cs r = true → Dk.Own 36 3 Sk.ve w.heap.size w' (Bk.sv p) (Su.cells cs r)) ∧ Below w.heap.size w w'
set_option maxHeartbeats 4000000 in
set_option maxRecDepth 100000 in
theorem Su.pick_c (u cv : Value) (r : List Kn.V) (cs : List Int) (w : World) (hu : Kn.Vals w u r) (hc : Mf.Is w cv cs) (hz : ∀ x ∈ r, Kn.Z x) (hl : cs.length ≤ 4194304) :
 Calls Try.prog 57 #[u, cv] w (Su.PickD w cs r) := by
 have HU := Lib.hid hu
 have HZ := Lib.hid hz
 have HL := Lib.hid hl
 obtain ⟨w2, hmk, hown, hbl⟩ := Su.make_row w cs.length (by omega)
 have HO0 := Lib.hid hown
 have HB0 := Lib.hid hbl
 obtain ⟨ra, rc, rfl, -⟩ := hu
 obtain ⟨ca, cc, rfl, -, hcc⟩ := hc
 have HC := Lib.hid hcc
 clear hown hbl hz hl hcc
 go_enter Try.func57, Try.ntmps57
 go_wp2_with fail
 go_loopw [6, 14] (fun p i wr => ∃ k : Nat, k ≤ cs.length ∧ i = .int .i64 k ∧ Su.allC (cs.take k) r = true ∧ Dk.Own 36 3 Sk.ve w.heap.size wr p (Su.cells (cs.take k) r) ∧ Below w.heap.size w wr) (fun _ i _ => cs.length - (intOf i).toNat)
 case atStart => exact ⟨0, Nat.zero_le _, rfl, rfl, HO0.out, HB0.out⟩
 case round =>
  clear hmk HO0 HB0
  obtain ⟨k, hk, rfl, ha, hO, hB⟩ := hrel
  have HA := Lib.hid ha
  have HO := Lib.hid hO
  have HB := Lib.hid hB
  obtain ⟨oa, on, oc, rfl⟩ : ∃ a n c, u6 = .slice a n c := by
   rcases hO.form with ⟨e, _⟩ | ⟨g, c, e, _⟩
   ·exact ⟨none, 0, 0, e⟩
   ·exact ⟨_, _, c, e⟩
  clear ha hO hB
  by_cases hkl : k < cs.length
  ·rcases HC.out with ⟨rfl, _⟩ | ⟨cb, co, cls, fr, rfl, _, hb, hcl⟩
   ·simp at hkl
   have hx := List.getElem?_eq_getElem hkl
   generalize cs[k] = c at hx
   have HX := Lib.hid hx
   have c0 := (HB.out.cell (p := ⟨cb, co + k, none⟩) (lt_of_block hb)).trans (Mf.Is.num hcl hx)
   have HU1 := Lib.hid (HU.out.later HB.out)
   clear hcl hb hx
   have HHas : Hid (∀ w', Kn.Vals w' (.slice ra r.length rc) r → _) := Lib.hid fun w' h => Su.has_c (.slice ra r.length rc) r c w' h
   have dk : (k : Int) < (cs.length : Int) := by omega
   have dk0 : (0 : Int) ≤ (k : Int) := by omega
   have dk7 : (k : Int) ≤ 4194304 := by have := HL.out; omega
   have HK := Lib.hid hkl
   clear hkl hk
   cases hh : Su.hasC c r
   ·have HH := Lib.hid hh
    rw [hh] at HHas
    clear hh
    go_wp2_with fail
    refine (HHas.out _ HU1.out).mono ?_
    rintro e w1 ⟨rfl, rfl⟩
    go_wp2
    go_ret2
    exact ⟨(none, 0, 0), by rw [Su.all_no HX.out HH.out]; rfl, (fun h => by rw [Su.all_no HX.out HH.out] at h; cases h), HB.out⟩
   ·have HH := Lib.hid hh
    rw [hh] at HHas
    obtain ⟨x, hxc, hcell⟩ := Su.cell_at hh
    obtain ⟨cn, rfl⟩ : ∃ cn : Nat, c = (cn : Int) := by
     unfold Su.hasC at hh
     simp only [Bool.and_eq_true, decide_eq_true_eq] at hh
     exact ⟨c.toNat, by omega⟩
    have dc0 : (0 : Int) ≤ (cn : Int) := by omega
    have dc : (cn : Int) < (r.length : Int) := by
     unfold Su.hasC at hh
     simp only [Bool.and_eq_true, decide_eq_true_eq] at hh
     exact hh.2
    rw [Int.toNat_natCast] at hxc
    have hzx := HZ.out x (List.mem_of_getElem? hxc)
    clear hh
    have HUU := HU1.out
    obtain ⟨ra1, rc1, e1, hrr⟩ := HUU
    simp only [Value.slice.injEq] at e1
    obtain ⟨rfl, -, rfl⟩ := e1
    rcases hrr with rfl | ⟨rb, ro, rfl, rlt, rm, rcs⟩
    ·cases hxc
    obtain ⟨x0, x1, x2⟩ := rcs cn x hxc
    clear rcs
    have CK : Hid (∀ w, _) := Lib.hid fun w => Su.kept_c x hzx w
    have HCS := Lib.hid (Su.cells_step (r := r) HX.out)
    rw [hcell] at HCS
    have HA1 := Lib.hid (Su.all_step HX.out HA.out HH.out)
    have HM : Hid ((Su.cells (cs.take k) r).length + 1 ≤ 4194304) := Lib.hid (by rw [Su.cells_len, List.length_take]; have := HL.out; have := HK.out; omega)
    generalize Su.cells (cs.take k) r = M at HO HCS HM
    obtain ⟨xn, xi, xs⟩ := x
    simp only at x0 x1 x2
    unfold Kn.V.val at CK
    simp only at CK
    clear hxc hcell rm hzx rlt
    go_wp2_with fail
    refine (HHas.out _ HU1.out).mono ?_
    rintro e w1 ⟨rfl, rfl⟩
    go_wp2_with fail
    with_reducible refine (CK.out _).mono ?_
    rintro e w4 ⟨rfl, g4⟩
    have HB4 := Lib.hid (HB.out.trans (g4.mono HB.out.size))
    have HO4 := Lib.hid (HO.out.kept g4)
    have ho := HO4.out
    have hb := HB4.out.size
    have hm := HM.out
    clear g4 x0 x1 x2 c0
    go_wp2_with (at_builtin; refine Dk.wpList_append1 58 _ 32 Try.underlying58 Cl.infoV rfl (by decide) Sk.ve_len Sk.ve_one ⟨xn, xi, xs⟩ ho hb (by omega) (by omega) _ rfl _ rfl (.tmp 22) (.tmp 28) (by rfl) (by rfl) (by rfl) (by rfl) ?_; intro v6 w6 h6 g6)
    have H6 := Lib.hid h6
    have HB6 := Lib.hid (Dk.own_below HB4.out ho g6)
    clear h6 g6 ho hb hm
    go_roundw
    case rel => exact ⟨k + 1, HK.out, by simp, HA1.out, by rw [HCS.out]; exact H6.out, HB6.out⟩
    case measure => (have := HK.out; simp [intOf]; omega)
  ·obtain rfl : k = cs.length := by omega
   have dk : ¬ (cs.length : Int) < (cs.length : Int) := by omega
   have HA1 : Hid (Su.allC cs r = true) := Lib.hid (by have := HA.out; rw [List.take_length] at this; exact this)
   have HO1 : Hid (Dk.Own 36 3 Sk.ve w.heap.size wr (.slice oa on oc) (Su.cells cs r)) := Lib.hid (by have := HO.out; rw [List.take_length] at this; exact this)
   clear hk hkl
   go_wp2
   go_ret2
   exact ⟨(oa, on, oc), by rw [HA1.out]; rfl, fun _ => HO1.out, HB.out⟩
end
section
open Go Go.RowKit
def Su.Rb (base : Nat) (W : World) (Es : List (Option Addr × Nat × Nat)) (Q : List (List Kn.V)) : Prop := Es.length = Q.length ∧ ∀ (i : Nat) (x : List Kn.V), Q[i]? = some x → ∃ y, Es[i]? = some y ∧ Dk.Own 36 3 Sk.ve base W (Bk.sv y) x
theorem Su.Rb.kept {base : Nat} {W W' : World} {Es : List (Option Addr × Nat × Nat)} {Q : List (List Kn.V)} (h : Su.Rb base W Es Q) (g : Below W.heap.size W W') : Su.Rb base W' Es Q :=
 ⟨h.1, fun i x hx => by
  obtain ⟨y, e1, e3⟩ := h.2 i x hx
  exact ⟨y, e1, e3.kept g⟩⟩
theorem Su.Rb.grew {B base : Nat} {W W' : World} {u u' : Value} {K Es : List (Option Addr × Nat × Nat)} {Q : List (List Kn.V)} (h : Su.Rb base W Es Q) (o : Dk.Own 58 1 Bk.e1 B W u K) (g : Ty.Grew W W' u u') : Su.Rb base W' Es Q :=
 ⟨h.1, fun i x hx => by
  obtain ⟨y, e1, e3⟩ := h.2 i x hx
  refine ⟨y, e1, e3.same fun b hb => g.by_.block b (e3.lt b hb) fun e' => ?_⟩
  obtain ⟨cs, h1⟩ := e3.typed b hb
  obtain ⟨cs2, h2⟩ := o.typed b e'.symm
  rw [h1] at h2
  simp only [Option.some.injEq, Obj.cells.injEq] at h2
  exact absurd h2.2.1 (by decide)⟩
theorem Su.Rb.snoc {base : Nat} {W : World} {Es : List (Option Addr × Nat × Nat)} {Q : List (List Kn.V)} (h : Su.Rb base W Es Q) {y : Option Addr × Nat × Nat} {r : List Kn.V} (h2 : Dk.Own 36 3 Sk.ve base W (Bk.sv y) r) : Su.Rb base W (Es ++ [y]) (Q ++ [r]) := by
 refine ⟨by rw [List.length_append, List.length_append, h.1]; rfl, fun i x hx => ?_⟩
 rcases Nat.lt_or_ge i Q.length with hi | hi
 ·rw [List.getElem?_append_left hi] at hx
  obtain ⟨z, e1, e2⟩ := h.2 i x hx
  exact ⟨z, by rw [List.getElem?_append_left (by rw [h.1]; exact hi)]; exact e1, e2⟩
 ·rw [List.getElem?_append_right hi] at hx
  cases hq : i - Q.length with
  | zero =>
    rw [hq] at hx
    obtain rfl : r = x := by simpa using hx
    refine ⟨y, ?_, h2⟩
    rw [List.getElem?_append_right (by rw [h.1]; exact hi), h.1, hq]
    rfl
  | succ q => rw [hq] at hx; simp at hx
theorem Su.rows_of {base : Nat} {W : World} {v : Value} {Es : List (Option Addr × Nat × Nat)} {Q : List (List Kn.V)} (o : Dk.Own 58 1 Bk.e1 base W v Es) (h : Su.Rb base W Es Q) : Rn.Rws W v Q := by
 have hl := h.1
 rcases o.form with ⟨rfl, h0⟩ | ⟨g, c, rfl, h1, h2, _, h4⟩
 ·rw [h0] at hl
  obtain rfl : Q = [] := List.eq_nil_of_length_eq_zero hl.symm
  exact ⟨none, 0, rfl, .inl rfl⟩
 ·refine ⟨_, c, by rw [hl], .inr ⟨g, 0, rfl, h4, fun i x hx => ?_⟩⟩
  obtain ⟨y, e1, e2⟩ := h.2 i x hx
  have c0 := o.cell Bk.e1_len rfl e1 (j := 0) (by decide)
  rw [Nat.mul_one, Nat.add_zero] at c0
  rw [Nat.zero_add]
  exact ⟨Bk.sv y, c0, Mg.ve_vals e2⟩
theorem Su.ok_step {cs : List Int} {Q : List (List Kn.V)} {k : Nat} {r : List Kn.V} (hr : Q[k]? = some r) (ha : Su.okP cs (Q.take k) = true) (h : Su.allC cs r = true) : Su.okP cs (Q.take (k + 1)) = true := by
 obtain ⟨hk, rfl⟩ := List.getElem?_eq_some_iff.1 hr
 unfold Su.okP at *
 rw [List.take_succ_eq_append_getElem hk, List.all_append, ha]
 unfold Su.allC at h
 simp only [List.all_cons, List.all_nil, Bool.and_true, Bool.true_and]
 exact h
theorem Su.ok_no {cs : List Int} {Q : List (List Kn.V)} {k : Nat} {r : List Kn.V} (hr : Q[k]? = some r) (h : Su.allC cs r = false) : Su.okP cs Q = false := by
 cases ha : Su.okP cs Q
 ·rfl
 ·unfold Su.okP at ha
  have := List.all_eq_true.1 ha r (List.mem_of_getElem? hr)
  unfold Su.allC at h
  rw [h] at this
  cases this
theorem Su.proj_step {cs : List Int} {Q : List (List Kn.V)} {k : Nat} {r : List Kn.V} (hr : Q[k]? = some r) : Su.proj cs (Q.take (k + 1)) = Su.proj cs (Q.take k) ++ [Su.cells cs r] := by
 obtain ⟨hk, rfl⟩ := List.getElem?_eq_some_iff.1 hr
 unfold Su.proj
 rw [List.take_succ_eq_append_getElem hk, List.map_append]
 rfl
theorem Su.proj_len (cs : List Int) (Q : List (List Kn.V)) : (Su.proj cs Q).length = Q.length := by unfold Su.proj; rw [List.length_map]
def Su.ProjD (w : World) (cs : List Int) (Q : List (List Kn.V)) (e : Ending) (w' : World) : Prop :=
 ∃ v, e = .returned (.tuple #[v, .int .i64 (if Su.okP cs Q = true then 0 else 7)]) ∧ Rn.Rws w' v (if Su.okP cs Q = true then Su.proj cs Q else []) ∧ Below w.heap.size w w'
set_option maxHeartbeats 4000000 in
set_option maxRecDepth 100000 in
theorem Su.project_c (u cv : Value) (Q : List (List Kn.V)) (cs : List Int) (w : World) (hu : Rn.Rws w u Q) (hc : Mf.Is w cv cs) (hz : ∀ r ∈ Q, ∀ x ∈ r, Kn.Z x) (hl : cs.length ≤ 4194304) (hq : Q.length ≤ 4194304) :
 Calls Try.prog 30 #[u, cv] w (Su.ProjD w cs Q) := by
 have HRW := Lib.hid hu
 have HZ := Lib.hid hz
 have HL := Lib.hid hl
 have HQ := Lib.hid hq
 have HC := Lib.hid hc
 obtain ⟨w2, hmk, hown, hbl⟩ := Su.make_rows w Q.length (by omega)
 have HO0 := Lib.hid hown
 have HB0 := Lib.hid hbl
 obtain ⟨ra, rc, rfl, -⟩ := hu
 clear hown hbl hz hl hq hc
 go_enter Try.func30, Try.ntmps30
 go_wp2_with fail
 go_loopw [6, 16] (fun p i wr => ∃ (k : Nat) (Es : List (Option Addr × Nat × Nat)), k ≤ Q.length ∧ i = .int .i64 k ∧ Su.okP cs (Q.take k) = true ∧ Dk.Own 58 1 Bk.e1 w.heap.size wr p Es ∧ Su.Rb w.heap.size wr Es (Su.proj cs (Q.take k)) ∧ Below w.heap.size w wr) (fun _ i _ => Q.length - (intOf i).toNat)
 case atStart => exact ⟨0, [], Nat.zero_le _, rfl, rfl, HO0.out, ⟨rfl, fun i x hx => by simp [Su.proj] at hx⟩, HB0.out⟩
 case round =>
  clear hmk HO0 HB0
  obtain ⟨k, Es, hk, rfl, ha, hO, hRb, hB⟩ := hrel
  have HA := Lib.hid ha
  have HO := Lib.hid hO
  have HRB := Lib.hid hRb
  have HB := Lib.hid hB
  obtain ⟨oa, on, oc, rfl⟩ : ∃ a n c, u6 = .slice a n c := by
   rcases hO.form with ⟨e, _⟩ | ⟨g, c, e, _⟩
   ·exact ⟨none, 0, 0, e⟩
   ·exact ⟨_, _, c, e⟩
  clear ha hO hRb hB
  by_cases hkl : k < Q.length
  ·obtain ⟨a1, c1, e1, hrw⟩ := HRW.out
   simp only [Value.slice.injEq] at e1
   obtain ⟨rfl, -, rfl⟩ := e1
   rcases hrw with rfl | ⟨b, o, rfl, hlt, hcs⟩
   ·simp at hkl
   have hx := List.getElem?_eq_getElem hkl
   generalize Q[k] = r at hx
   have HX := Lib.hid hx
   obtain ⟨u, c0, hu⟩ := hcs k r hx
   have c0 := (HB.out.cell (p := ⟨b, o + k, none⟩) hlt).trans c0
   have CP := Lib.hid (Su.pick_c u cv r cs wr (hu.later HB.out) (HC.out.kept HB.out) (HZ.out r (List.mem_of_getElem? hx)) HL.out)
   have dk : (k : Int) < (Q.length : Int) := by omega
   have dk0 : (0 : Int) ≤ (k : Int) := by omega
   have dk7 : (k : Int) ≤ 4194304 := by have := HQ.out; omega
   have HK := Lib.hid hkl
   obtain ⟨a9, c9, rfl, -⟩ := hu
   clear hkl hk hcs hx hlt
   go_wp2_with fail
   refine (CP.out).mono ?_
   rintro e w4 ⟨p, rfl, hp, g4⟩
   have HP := Lib.hid hp
   have HB4 := Lib.hid (HB.out.trans (g4.mono HB.out.size))
   have HO4 := Lib.hid (HO.out.kept g4)
   have HRB4 := Lib.hid (HRB.out.kept g4)
   obtain ⟨pa, pn, pc⟩ := p
   unfold Bk.sv
   simp only
   clear hp g4 c0
   cases hh : Su.allC cs r
   ·have HH := Lib.hid hh
    clear hh
    go_wp2
    go_ret2
    exact ⟨.slice none 0 0, by rw [Su.ok_no HX.out HH.out]; rfl, by rw [Su.ok_no HX.out HH.out]; exact ⟨none, 0, rfl, .inl rfl⟩, HB4.out⟩
   ·have HH := Lib.hid hh
    have HRB5 := Lib.hid (HRB4.out.snoc (y := (pa, pn, pc)) (Mg.own_mono (HP.out hh) HB.out.size))
    rw [← Su.proj_step HX.out] at HRB5
    have HA1 := Lib.hid (Su.ok_step HX.out HA.out hh)
    have hm : Es.length + 1 ≤ 4194304 := by have := HRB.out.1; rw [Su.proj_len, List.length_take] at this; have := HQ.out; have := HK.out; omega
    have ho := HO4.out
    have hb := HB4.out.size
    clear hh
    go_wp2_with (at_builtin; refine Dk.wpList_append1 45 _ 24 Try.underlying45 Su.infoR rfl (by decide) Bk.e1_len Bk.e1_one (pa, pn, pc) ho hb (by omega) (by omega) _ rfl _ rfl (.tmp 28) (.tmp 30) (by rfl) (by rfl) (by rfl) (by rfl) ?_; intro v6 w6 h6 g6)
    have H6 := Lib.hid h6
    have HB6 := Lib.hid (Dk.own_below HB4.out ho g6)
    have HRB6 := Lib.hid (HRB5.out.grew ho g6)
    clear h6 g6 ho hb hm
    go_roundw
    case rel => exact ⟨k + 1, _, HK.out, by simp, HA1.out, H6.out, HRB6.out, HB6.out⟩
    case measure => (have := HK.out; simp [intOf]; omega)
  ·obtain rfl : k = Q.length := by omega
   have dk : ¬ (Q.length : Int) < (Q.length : Int) := by omega
   have HA1 : Hid (Su.okP cs Q = true) := Lib.hid (by have := HA.out; rw [List.take_length] at this; exact this)
   have HR1 : Hid (Rn.Rws wr (.slice oa on oc) (Su.proj cs Q)) := Lib.hid (by have := Su.rows_of HO.out HRB.out; rw [List.take_length] at this; exact this)
   clear hk hkl
   go_wp2
   go_ret2
   exact ⟨.slice oa on oc, by rw [if_pos HA1.out]; rfl, by rw [if_pos HA1.out]; exact HR1.out, HB.out⟩
end
section
open Go Go.RowKit
set_option maxHeartbeats 4000000 in
set_option maxRecDepth 100000 in
theorem Su.rproject_c (u cv : Value) (Q : List (List Kn.V)) (cs : List Int) (w : World) (hu : Rn.Rws w u Q) (hc : Mf.Is w cv cs) (hl : cs.length ≤ 4194304) (hq : Q.length ≤ 4194304) :
 Calls Try.prog 31 #[u, cv] w (Su.ProjD w cs Q) := by
 have HRW := Lib.hid hu
 have HL := Lib.hid hl
 have HQ := Lib.hid hq
 have HC := Lib.hid hc
 obtain ⟨ra, rc, rfl, -⟩ := hu
 obtain ⟨ca, cc, rfl, -, -⟩ := hc
 clear hl hq
 go_enter Try.func31, Try.ntmps31
 go_wp2_with fail
 go_loopw [6, 7] (fun p i wr => ∃ (k : Nat) (Es : List (Option Addr × Nat × Nat)), k ≤ Q.length ∧ i = .int .i64 k ∧ Su.okP cs (Q.take k) = true ∧ Dk.Own 58 1 Bk.e1 w.heap.size wr p Es ∧ Su.Rb w.heap.size wr Es (Su.proj cs (Q.take k)) ∧ Below w.heap.size w wr) (fun _ i _ => Q.length - (intOf i).toNat)
 case atStart => exact ⟨0, [], Nat.zero_le _, rfl, rfl, Dk.Own.nil _ _, ⟨rfl, fun i x hx => by simp [Su.proj] at hx⟩, Below.refl _ _⟩
 case round =>
  obtain ⟨wo, hwo⟩ : ∃ wo, wo = wr := ⟨_, rfl⟩
  subst hwo
  obtain ⟨k, Es, hk, rfl, ha, hO, hRb, hB⟩ := hrel
  have HA := Lib.hid ha
  have HO := Lib.hid hO
  have HRB := Lib.hid hRb
  have HB := Lib.hid hB
  obtain ⟨oa, on, oc, rfl⟩ : ∃ a n c, u6 = .slice a n c := by
   rcases hO.form with ⟨e, _⟩ | ⟨g, c, e, _⟩
   ·exact ⟨none, 0, 0, e⟩
   ·exact ⟨_, _, c, e⟩
  clear ha hO hRb hB
  by_cases hkl : k < Q.length
  ·obtain ⟨a1, c1, e1, hrw⟩ := HRW.out
   simp only [Value.slice.injEq] at e1
   obtain ⟨rfl, -, rfl⟩ := e1
   rcases hrw with rfl | ⟨b, o, rfl, hlt, hcs⟩
   ·simp at hkl
   have hx := List.getElem?_eq_getElem hkl
   generalize Q[k] = r at hx
   have HX := Lib.hid hx
   obtain ⟨u, c0, hu⟩ := hcs k r hx
   have C0 := Lib.hid ((HB.out.cell (p := ⟨b, o + k, none⟩) hlt).trans c0)
   have C0l := Lib.hid (Nat.lt_of_lt_of_le hlt HB.out.size)
   have HU := Lib.hid (hu.later HB.out)
   have HU0 := Lib.hid hu
   have C00 := Lib.hid c0
   have HLT := Lib.hid hlt
   have dk : (k : Int) < (Q.length : Int) := by omega
   have dk0 : (0 : Int) ≤ (k : Int) := by omega
   have dk7 : (k : Int) ≤ 4194304 := by have := HQ.out; omega
   have HK := Lib.hid hkl
   obtain ⟨a9, c9, rfl, -⟩ := hu
   clear hkl hk hcs hx hlt c0
   go_wp2
   go_loopw [8, 9] (fun p i W => ∃ m : Nat, m ≤ cs.length ∧ i = .int .i64 m ∧ Su.allC (cs.take m) r = true ∧ Dk.Own 36 3 Sk.ve wo.heap.size W p (Su.cells (cs.take m) r) ∧ Below wo.heap.size wo W) (fun _ i _ => cs.length - (intOf i).toNat)
   case atStart => exact ⟨0, Nat.zero_le _, rfl, rfl, Dk.Own.nil _ _, Below.refl _ _⟩
   case round =>
    obtain ⟨m, hm, rfl, ha, hO, hB⟩ := hrel
    have HA2 := Lib.hid ha
    have HO2 := Lib.hid hO
    have HB2 := Lib.hid hB
    obtain ⟨pa, pn, pc, rfl⟩ : ∃ a n c, u8 = .slice a n c := by
     rcases hO.form with ⟨e, _⟩ | ⟨g, c, e, _⟩
     ·exact ⟨none, 0, 0, e⟩
     ·exact ⟨_, _, c, e⟩
    clear ha hO hB
    by_cases hml : m < cs.length
    ·obtain ⟨ca1, cc1, ec, -, hcc⟩ := HC.out
     simp only [Value.slice.injEq] at ec
     obtain ⟨rfl, -, rfl⟩ := ec
     rcases hcc with ⟨rfl, _⟩ | ⟨cb, co, cls, fr, rfl, _, hb, hcl⟩
     ·simp at hml
     have hx := List.getElem?_eq_getElem hml
     generalize cs[m] = c at hx
     have HXC := Lib.hid hx
     have cc0 := ((HB.out.trans (HB2.out.mono HB.out.size)).cell (p := ⟨cb, co + m, none⟩) (lt_of_block hb)).trans (Mf.Is.num hcl hx)
     have r0 := (HB2.out.cell (p := ⟨b, o + k, none⟩) C0l.out).trans C0.out
     have HC0 := Lib.hid (Mf.Is.num hcl hx)
     have HCB := Lib.hid (lt_of_block hb)
     have dm : (m : Int) < (cs.length : Int) := by omega
     have dm0 : (0 : Int) ≤ (m : Int) := by omega
     have dm7 : (m : Int) ≤ 4194304 := by have := HL.out; omega
     have HM := Lib.hid hml
     have HBW := Lib.hid (HB.out.trans (HB2.out.mono HB.out.size))
     clear hcl hb hx hml hm
     cases hh : Su.hasC c r
     ·have HH := Lib.hid hh
      have hno : Su.okP cs Q = false := Su.ok_no HX.out (Su.all_no HXC.out hh)
      have HN := Lib.hid hno
      unfold Su.hasC at hh
      by_cases h0 : c < 0
      ·have d0 : decide (c < 0) = true := decide_eq_true h0
       clear hh hno h0
       go_upto_region 9 with (fail)
       go_quiet (fail)
       go_wp2
       go_ret2
       exact ⟨.slice none 0 0, by rw [HN.out]; rfl, by rw [HN.out]; exact ⟨none, 0, rfl, .inl rfl⟩, Kn.below_drewN HBW.out _⟩
      ·have d0 : decide (c < 0) = false := decide_eq_false h0
       have d1 : decide ((r.length : Int) ≤ c) = true := by
        simp only [Bool.and_eq_false_iff, decide_eq_false_iff_not] at hh
        exact decide_eq_true (by omega)
       clear hh hno h0
       go_upto_region 9 with (fail)
       go_quiet (fail)
       go_wp2
       go_ret2
       exact ⟨.slice none 0 0, by rw [HN.out]; rfl, by rw [HN.out]; exact ⟨none, 0, rfl, .inl rfl⟩, Kn.below_drewN HBW.out _⟩
     ·have HH := Lib.hid hh
      obtain ⟨x, hxc, hcell⟩ := Su.cell_at hh
      obtain ⟨cn, rfl⟩ : ∃ cn : Nat, c = (cn : Int) := by
       unfold Su.hasC at hh
       simp only [Bool.and_eq_true, decide_eq_true_eq] at hh
       exact ⟨c.toNat, by omega⟩
      have dc0 : (0 : Int) ≤ (cn : Int) := by omega
      have dc : (cn : Int) < (r.length : Int) := by
       unfold Su.hasC at hh
       simp only [Bool.and_eq_true, decide_eq_true_eq] at hh
       exact hh.2
      rw [Int.toNat_natCast] at hxc
      have d0 : decide ((cn : Int) < 0) = false := decide_eq_false (by omega)
      have d1 : decide ((r.length : Int) ≤ (cn : Int)) = false := decide_eq_false (by omega)
      obtain ⟨ra1, rc1, e1, hrr⟩ := HU0.out
      simp only [Value.slice.injEq] at e1
      obtain ⟨rfl, -, rfl⟩ := e1
      rcases hrr with rfl | ⟨rb, ro, rfl, rlt, rm, rcs⟩
      ·cases hxc
      have hat := rcs cn x hxc
      have HS : Hid (∀ W, Below w.heap.size w W → W.cell? ⟨b, o + k, none⟩ = some (.slice (some ⟨rb, ro, none⟩) r.length c9) ∧ W.cell? ⟨cb, co + m, none⟩ = some (.int .i64 cn) ∧ W.cell? ⟨rb, ro + cn * 3, none⟩ = some (.bool x.null) ∧ W.cell? ⟨rb, ro + cn * 3 + 1, none⟩ = some (.int .i64 x.n) ∧ W.cell? ⟨rb, ro + cn * 3 + 2, none⟩ = some (.string x.s)) := Lib.hid fun W g =>
       ⟨(g.cell (p := ⟨b, o + k, none⟩) HLT.out).trans C00.out, (g.cell (p := ⟨cb, co + m, none⟩) HCB.out).trans HC0.out, (hat.later g).c0, (hat.later g).c1, (hat.later g).c2⟩
      obtain ⟨x0, x1, x2⟩ := hat.later HBW.out
      clear rcs hat
      have HCS := Lib.hid (Su.cells_step (r := r) HXC.out)
      rw [hcell] at HCS
      have HA1 := Lib.hid (Su.all_step HXC.out HA2.out HH.out)
      have HMM : Hid ((Su.cells (cs.take m) r).length + 1 ≤ 4194304) := Lib.hid (by rw [Su.cells_len, List.length_take]; have := HL.out; have := HM.out; omega)
      generalize Su.cells (cs.take m) r = M at HO2 HCS HMM
      obtain ⟨xn, xi, xs⟩ := x
      simp only at x0 x1 x2 HS
      clear hxc hcell rm rlt hh
      go_upto_region 9 with (fail)
      go_quiet (fail)
      go_upto_region 11 with (fail)
      clear d0 d1
      have HBD := Lib.hid (Kn.below_drewN HBW.out nq).drew
      have HBO := Lib.hid (Kn.below_drewN HB2.out nq).drew
      have hO4 := HO2.out.kept (Kn.below_drewN (Below.refl _ wr) nq).drew
      have H8 := HBD
      have hmm := HMM.out
      have hle := HBO.out.size
      clear x0 x1 x2 cc0 r0
      go_region_held3 (fun W => W.cell? ⟨b, o + k, none⟩ = some (.slice (some ⟨rb, ro, none⟩) r.length c9) ∧ W.cell? ⟨cb, co + m, none⟩ = some (.int .i64 cn) ∧ W.cell? ⟨rb, ro + cn * 3, none⟩ = some (.bool xn) ∧ W.cell? ⟨rb, ro + cn * 3 + 1, none⟩ = some (.int .i64 xi) ∧ W.cell? ⟨rb, ro + cn * 3 + 2, none⟩ = some (.string xs))
       (first
        | with_reducible exact HS.out _ HBD.out
        | with_reducible exact HS.out _ H8.out
        | exact HS.out _ (HBD.out.alloc HBD.out.size _))
       (first
        | (refine Dk.step_appendB (enc := Sk.ve) 58 _ 32 Try.underlying58 Cl.infoV rfl (by decide) Sk.ve_len Sk.ve_one [(⟨xn, xi, xs⟩ : Kn.V)] (base := wo.heap.size) (Nat.le_trans hle (by rw [World.size_alloc]; omega)) (World.ownsRow.alloc hO4 _) (by simp only [List.length_singleton]; omega) (by simp only [List.length_singleton]; omega) _ _ _ (by rfl) (by rfl) (by rfl) (by rfl) (Dk.src_cell (Dk.cell_new rfl)) ?_; intro v7 w7 o7 g7; have H7 := Lib.hid (And.intro o7 (Dk.own_below HBO.out hO4 (g7.behind _))); have H8 := Lib.hid (HB.out.trans (H7.out.2.mono HB.out.size)); clear o7 g7))
      have H6 := Lib.hid H7.out.1
      have HB6 := Lib.hid H7.out.2
      clear hO4 hmm hle
      go_wp2
      go_roundw
      case rel => exact ⟨m + 1, HM.out, by simp, HA1.out, by rw [HCS.out]; exact H6.out, HB6.out⟩
      case measure => (have := HM.out; simp [intOf]; omega)
    ·obtain rfl : m = cs.length := by omega
     have dm : ¬ (cs.length : Int) < (cs.length : Int) := by omega
     have hA1 : Su.allC cs r = true := by have := HA2.out; rw [List.take_length] at this; exact this
     have hO1 : Dk.Own 36 3 Sk.ve wo.heap.size wr (Bk.sv (pa, pn, pc)) (Su.cells cs r) := by have := HO2.out; rw [List.take_length] at this; exact this
     have HRB5 := Lib.hid ((HRB.out.kept HB2.out).snoc (y := (pa, pn, pc)) (Mg.own_mono hO1 HB.out.size))
     rw [← Su.proj_step HX.out] at HRB5
     have HA1 := Lib.hid (Su.ok_step HX.out HA.out hA1)
     have HB4 := Lib.hid (HB.out.trans (HB2.out.mono HB.out.size))
     have ho := HO.out.kept HB2.out
     have hb := HB4.out.size
     have hmm : Es.length + 1 ≤ 4194304 := by have := HRB.out.1; rw [Su.proj_len, List.length_take] at this; have := HQ.out; have := HK.out; omega
     clear hA1 hO1 hm hml
     go_wp2_with (at_builtin; refine Dk.wpList_append1 45 _ 24 Try.underlying45 Su.infoR rfl (by decide) Bk.e1_len Bk.e1_one (pa, pn, pc) ho hb (by omega) (by omega) _ rfl _ rfl (.tmp 52) (.tmp 54) (by rfl) (by rfl) (by rfl) (by rfl) ?_; intro v6 w6 h6 g6)
     have H6 := Lib.hid h6
     have HB6 := Lib.hid (Dk.own_below HB4.out ho g6)
     have HRB6 := Lib.hid (HRB5.out.grew ho g6)
     clear h6 g6 ho hb hmm
     go_roundw
     case rel => exact ⟨k + 1, _, HK.out, by simp, HA1.out, H6.out, HRB6.out, HB6.out⟩
     case measure => (have := HK.out; simp [intOf]; omega)
  ·obtain rfl : k = Q.length := by omega
   have dk : ¬ (Q.length : Int) < (Q.length : Int) := by omega
   have HA1 : Hid (Su.okP cs Q = true) := Lib.hid (by have := HA.out; rw [List.take_length] at this; exact this)
   have HR1 : Hid (Rn.Rws wo (.slice oa on oc) (Su.proj cs Q)) := Lib.hid (by have := Su.rows_of HO.out HRB.out; rw [List.take_length] at this; exact this)
   clear hk hkl
   go_wp2
   go_ret2
   exact ⟨.slice oa on oc, by rw [if_pos HA1.out]; rfl, by rw [if_pos HA1.out]; exact HR1.out, HB.out⟩
end
section
open Go Go.RowKit
def Su.n1 (n : Int) : Kn.V := ⟨false, n, ⟨#[]⟩⟩
def Su.nul : Kn.V := ⟨true, 0, ⟨#[]⟩⟩
def Su.ex : List (List Kn.V) := [[Su.n1 1], [Su.nul], [Su.n1 5]]
theorem Su.ex_fold : Su.fold 0 Su.ex = (⟨3, 6, 2, Su.n1 1, Su.n1 5⟩, 0) := by kernel_rfl
theorem Su.ex_ok : Su.okP [0, 0] Su.ex = true := by kernel_rfl
theorem Su.ex_proj : Su.proj [0, 0] Su.ex = [[Su.n1 1, Su.n1 1], [Su.nul, Su.nul], [Su.n1 5, Su.n1 5]] := by kernel_rfl
theorem Su.vals1 {w : World} {b : Nat} {x : Kn.V} (h : Kn.At w b 0 x) : Kn.Vals w (.slice (some ⟨b, 0, none⟩) 1 1) [x] := by
 refine ⟨_, 1, rfl, .inr ⟨b, 0, rfl, h.lt, by simp, fun i y hy => ?_⟩⟩
 have h0 : i = 0 := by
  have := (List.getElem?_eq_some_iff.1 hy).1
  simp at this
  omega
 subst h0
 obtain rfl : x = y := by simpa using hy
 exact h
abbrev Su.vc (x : Kn.V) : Obj := .cells #[.bool x.null, .int .i64 x.n, .string x.s] 36
theorem Su.ex_lit (w : World) : Rn.Rws ((((w.alloc (Su.vc (Su.n1 1))).alloc (Su.vc Su.nul)).alloc (Su.vc (Su.n1 5))).alloc (.cells #[.slice (some ⟨w.heap.size, 0, none⟩) 1 1, .slice (some ⟨w.heap.size + 1, 0, none⟩) 1 1, .slice (some ⟨w.heap.size + 1 + 1, 0, none⟩) 1 1] 58)) (.slice (some ⟨w.heap.size + 1 + 1 + 1, 0, none⟩) 3 3) Su.ex := by
 have e1 : (w.alloc (Su.vc (Su.n1 1))).heap.size = w.heap.size + 1 := World.size_alloc _ _
 have e2 : ((w.alloc (Su.vc (Su.n1 1))).alloc (Su.vc Su.nul)).heap.size = w.heap.size + 1 + 1 := by rw [World.size_alloc, e1]
 have e3 : (((w.alloc (Su.vc (Su.n1 1))).alloc (Su.vc Su.nul)).alloc (Su.vc (Su.n1 5))).heap.size = w.heap.size + 1 + 1 + 1 := by rw [World.size_alloc, e2]
 have a1 := Kn.At.new w (Su.n1 1) 36
 have a2 := Kn.At.new (w.alloc (Su.vc (Su.n1 1))) Su.nul 36
 have a3 := Kn.At.new ((w.alloc (Su.vc (Su.n1 1))).alloc (Su.vc Su.nul)) (Su.n1 5) 36
 rw [e1] at a2
 rw [e2] at a3
 have v1 := Su.vals1 (((a1.alloc (Su.vc Su.nul)).alloc (Su.vc (Su.n1 5))).alloc (.cells #[.slice (some ⟨w.heap.size, 0, none⟩) 1 1, .slice (some ⟨w.heap.size + 1, 0, none⟩) 1 1, .slice (some ⟨w.heap.size + 1 + 1, 0, none⟩) 1 1] 58))
 have v2 := Su.vals1 ((a2.alloc (Su.vc (Su.n1 5))).alloc (.cells #[.slice (some ⟨w.heap.size, 0, none⟩) 1 1, .slice (some ⟨w.heap.size + 1, 0, none⟩) 1 1, .slice (some ⟨w.heap.size + 1 + 1, 0, none⟩) 1 1] 58))
 have v3 := Su.vals1 (a3.alloc (.cells #[.slice (some ⟨w.heap.size, 0, none⟩) 1 1, .slice (some ⟨w.heap.size + 1, 0, none⟩) 1 1, .slice (some ⟨w.heap.size + 1 + 1, 0, none⟩) 1 1] 58))
 have c := fun i v => Kn.cell_new (((w.alloc (Su.vc (Su.n1 1))).alloc (Su.vc Su.nul)).alloc (Su.vc (Su.n1 5))) #[.slice (some ⟨w.heap.size, 0, none⟩) 1 1, .slice (some ⟨w.heap.size + 1, 0, none⟩) 1 1, .slice (some ⟨w.heap.size + 1 + 1, 0, none⟩) 1 1] 58 i v
 rw [e3] at c
 refine ⟨_, 3, rfl, .inr ⟨w.heap.size + 1 + 1 + 1, 0, rfl, by rw [World.size_alloc, e3]; omega, fun i y hy => ?_⟩⟩
 have hi : i < 3 := (List.getElem?_eq_some_iff.1 hy).1
 rcases (by omega : i = 0 ∨ i = 1 ∨ i = 2) with rfl | rfl | rfl
 ·obtain rfl : [Su.n1 1] = y := by simpa [Su.ex] using hy
  exact ⟨_, c 0 _ rfl, v1⟩
 ·obtain rfl : [Su.nul] = y := by simpa [Su.ex] using hy
  exact ⟨_, c 1 _ rfl, v2⟩
 ·obtain rfl : [Su.n1 5] = y := by simpa [Su.ex] using hy
  exact ⟨_, c 2 _ rfl, v3⟩
theorem Su.ex_z : ∀ r ∈ Su.ex, ∀ x ∈ r, Kn.Z x := by
 intro r hr x hx
 simp only [Su.ex, List.mem_cons, List.not_mem_nil, or_false] at hr
 rcases hr with rfl | rfl | rfl <;> (simp only [List.mem_cons, List.not_mem_nil, or_false] at hx; subst hx; exact (show (0 : Nat) ≤ 140737488351232 by decide))
theorem Su.ex_is (w : World) (t : TypeId) : Mf.Is (w.alloc (.cells #[.int .i64 0, .int .i64 0] t)) (.slice (some ⟨w.heap.size, 0, none⟩) 2 2) [0, 0] := by
 refine ⟨_, 2, rfl, Nat.le_refl _, .inr ⟨w.heap.size, 0, _, (t, (0, 0)), rfl, trivial, heap_alloc_new w _, fun i j x hi hj => ?_⟩⟩
 obtain rfl : j = 0 := by omega
 have h2 : i < 2 := (List.getElem?_eq_some_iff.1 hi).1
 rcases (by omega : i = 0 ∨ i = 1) with rfl | rfl
 ·obtain rfl : (0 : Int) = x := by simpa using hi
  exact Kn.cell_new w _ t 0 _ rfl
 ·obtain rfl : (0 : Int) = x := by simpa using hi
  exact Kn.cell_new w _ t 1 _ rfl
set_option maxHeartbeats 4000000 in
set_option maxRecDepth 100000 in
theorem Su.lives_c (w : World) : Calls Try.prog 29 #[] w fun e w' => e = .returned (.bool true) ∧ Below w.heap.size w w' := by
 have HX := Lib.hid (Su.ex_lit w)
 have HG : Hid (Below w.heap.size w _) := Lib.hid (((((Below.refl _ w).alloc (Nat.le_refl _) (Su.vc (Su.n1 1))).alloc (by simp) (Su.vc Su.nul)).alloc (by simp; omega) (Su.vc (Su.n1 5))).alloc (by simp; omega) (.cells #[.slice (some ⟨w.heap.size, 0, none⟩) 1 1, .slice (some ⟨w.heap.size + 1, 0, none⟩) 1 1, .slice (some ⟨w.heap.size + 1 + 1, 0, none⟩) 1 1] 58))
 have CF : Hid (∀ (v : Value) (w : World), Rn.Rws w v Su.ex → _) := Lib.hid fun v w h => Su.fold_c v Su.ex 0 w h Su.ex_z (by decide)
 have CP : Hid (∀ (v cv : Value) (w : World), Rn.Rws w v Su.ex → Mf.Is w cv [0, 0] → _) := Lib.hid fun v cv w h hc => Su.project_c v cv Su.ex [0, 0] w h hc Su.ex_z (by decide) (by decide)
 rw [Su.ex_fold] at CF
 simp only [Su.n1, Su.nul, Su.vc] at HX HG CF
 go_enter Try.func29, Try.ntmps29
 go_upto_region 2 with (fail)
 obtain ⟨q, hq⟩ : ∃ q, q = w.heap.size + 1 + 1 + 1 := ⟨_, rfl⟩
 rw [← hq] at HX ⊢
 generalize World.alloc _ _ = wl at HX HG ⊢
 clear hq
 go_wp2_with fail
 refine (CF.out _ _ HX.out).mono ?_
 rintro e w1 ⟨rfl, g1⟩
 have HX1 := Lib.hid (HX.out.later g1)
 have HG1 := Lib.hid (HG.out.trans (g1.mono HG.out.size))
 clear HX HG g1 CF
 go_upto_region 3 with (fail)
 obtain ⟨b, hb⟩ : ∃ b, b = w1.heap.size := ⟨_, rfl⟩
 have HBK := Lib.hid (Su.Blk.new w1 ⟨3, 6, 2, ⟨false, 1, ⟨#[]⟩⟩, ⟨false, 5, ⟨#[]⟩⟩⟩)
 have g2 : Below w1.heap.size w1 (w1.alloc (.cells (Su.cs ⟨3, 6, 2, ⟨false, 1, ⟨#[]⟩⟩, ⟨false, 5, ⟨#[]⟩⟩⟩) 52)) := (Below.refl _ w1).alloc (Nat.le_refl _) _
 have HX2 := Lib.hid (HX1.out.later g2)
 have HG2 := Lib.hid (HG1.out.trans (g2.mono HG1.out.size))
 clear g2 HX1
 simp only [Su.cs] at HX2 HG2 HBK
 rw [← hb] at HBK ⊢
 generalize World.alloc _ _ = w2 at HX2 HG2 HBK ⊢
 clear hb HG1
 obtain ⟨w3, hw3⟩ : ∃ w3, w3 = w2.alloc (.cells #[.int .i64 0, .int .i64 0] 3) := ⟨_, rfl⟩
 have g3 : Below w2.heap.size w2 w3 := by rw [hw3]; exact (Below.refl _ w2).alloc (Nat.le_refl _) _
 have HI : Hid (Mf.Is w3 (.slice (some ⟨w2.heap.size, 0, none⟩) 2 2) [0, 0]) := Lib.hid (by rw [hw3]; exact Su.ex_is w2 3)
 have HX3 := Lib.hid (HX2.out.later g3)
 have HG3 := Lib.hid (HG2.out.trans (g3.mono HG2.out.size))
 have HB3 := Lib.hid (HBK.out.kept g3)
 clear g3 HX2 HG2 HBK
 go_wp2_with fail
 rw [← hw3]
 clear hw3
 refine (CP.out _ _ _ HX3.out HI.out).mono ?_
 rintro e w4 ⟨v, rfl, hv, g4⟩
 rw [if_pos Su.ex_ok, Su.ex_proj] at hv
 rw [if_pos Su.ex_ok]
 have HB4 := Lib.hid (HB3.out.kept g4)
 have HG4 := Lib.hid (HG3.out.trans (g4.mono HG3.out.size))
 clear HX3 HI HG3 HB3 g4 CP
 obtain ⟨z0, z1, z2, z3, z4, z5, z6, z7, z8⟩ := HB4.out.cells
 simp only at z0 z1 z2 z3 z4 z5 z6 z7 z8
 obtain ⟨a, c, rfl, hv⟩ := hv
 rcases hv with hv | ⟨rb, ro, rfl, rlt, hv⟩
 ·cases hv
 obtain ⟨u, y0, hu⟩ := hv 2 [Su.n1 5, Su.n1 5] rfl
 obtain ⟨ua, uc, rfl, -⟩ := hu
 simp only [List.length_cons, List.length_nil] at y0 ⊢
 clear hv rlt
 go_wp2
 go_ret
 exact ⟨rfl, HG4.out⟩
end
section
open Go Go.RowKit
structure Su.SJ (w : World) (a b s : Su.S) (W : World) : Prop where
 one : Su.Blk W w.heap.size a
 two : Su.Blk W (w.heap.size + 1) b
 res : Su.Blk W (w.heap.size + 1 + 1) Su.zero
 blk : Su.Blk W (w.heap.size + 1 + 1 + 1) s
 bel : Below w.heap.size w W
theorem Su.SJ.start (w : World) (a b s : Su.S) : Su.SJ w a b s ((((w.alloc (.cells (Su.cs a) 52)).alloc (.cells (Su.cs b) 52)).alloc (.cells (Su.cs Su.zero) 52)).alloc (.cells (Su.cs s) 52)) := by
 refine ⟨(((Su.Blk.new w a).alloc _).alloc _).alloc _, ?_, ?_, ?_, ((((Below.refl _ w).alloc (Nat.le_refl _) _).alloc (by simp) _).alloc (by simp; omega) _).alloc (by simp; omega) _⟩
 ·have := ((Su.Blk.new (w.alloc (.cells (Su.cs a) 52)) b).alloc (.cells (Su.cs Su.zero) 52)).alloc (.cells (Su.cs s) 52)
  rwa [World.size_alloc] at this
 ·have := (Su.Blk.new ((w.alloc (.cells (Su.cs a) 52)).alloc (.cells (Su.cs b) 52)) Su.zero).alloc (.cells (Su.cs s) 52)
  rwa [World.size_alloc, World.size_alloc] at this
 ·have := Su.Blk.new (((w.alloc (.cells (Su.cs a) 52)).alloc (.cells (Su.cs b) 52)).alloc (.cells (Su.cs Su.zero) 52)) s
  rwa [World.size_alloc, World.size_alloc, World.size_alloc] at this
theorem Su.SJ.kept {w W W' : World} {a b s : Su.S} (h : Su.SJ w a b s W) (g : Below W.heap.size W W') : Su.SJ w a b s W' := ⟨h.one.kept g, h.two.kept g, h.res.kept g, h.blk.kept g, h.bel.trans (g.mono h.bel.size)⟩
theorem Su.SJ.setLo {w W : World} {a b s : Su.S} (h : Su.SJ w a b s W) (u : Kn.V) : Su.SJ w a b ⟨s.cnt, s.sum, s.vals, u, s.hi⟩ (((W.setCell ⟨w.heap.size + 1 + 1 + 1, 3, none⟩ (.bool u.null)).setCell ⟨w.heap.size + 1 + 1 + 1, 4, none⟩ (.int .i64 u.n)).setCell ⟨w.heap.size + 1 + 1 + 1, 5, none⟩ (.string u.s)) :=
 ⟨((h.one.other (by omega) _ _).other (by omega) _ _).other (by omega) _ _, ((h.two.other (by omega) _ _).other (by omega) _ _).other (by omega) _ _, ((h.res.other (by omega) _ _).other (by omega) _ _).other (by omega) _ _, h.blk.setLo u, Zn.below_set3 h.bel (by omega) _ _ _ _ _ _⟩
theorem Su.SJ.setHi {w W : World} {a b s : Su.S} (h : Su.SJ w a b s W) (u : Kn.V) : Su.SJ w a b ⟨s.cnt, s.sum, s.vals, s.lo, u⟩ (((W.setCell ⟨w.heap.size + 1 + 1 + 1, 6, none⟩ (.bool u.null)).setCell ⟨w.heap.size + 1 + 1 + 1, 7, none⟩ (.int .i64 u.n)).setCell ⟨w.heap.size + 1 + 1 + 1, 8, none⟩ (.string u.s)) :=
 ⟨((h.one.other (by omega) _ _).other (by omega) _ _).other (by omega) _ _, ((h.two.other (by omega) _ _).other (by omega) _ _).other (by omega) _ _, ((h.res.other (by omega) _ _).other (by omega) _ _).other (by omega) _ _, h.blk.setHi u, Zn.below_set3 h.bel (by omega) _ _ _ _ _ _⟩
set_option maxHeartbeats 400000 in
set_option maxRecDepth 100000 in
theorem Su.join_c (a b : Su.S) (ha1 : Kn.Z a.lo) (ha2 : Kn.Z a.hi) (hb1 : Kn.Z b.lo) (hb2 : Kn.Z b.hi) (w : World) : Calls Try.prog 34 #[a.val, b.val] w fun e w' => e = .returned (Su.join a b).val ∧ Below w.heap.size w w' := by
 have HST := Lib.hid (Su.SJ.start w a b ⟨wrap64 (a.cnt + b.cnt), wrap64 (a.sum + b.sum), wrap64 (a.vals + b.vals), Zn.zv, Zn.zv⟩)
 have cL := fun w => Kn.compare_c b.lo a.lo w
 have cU := fun w => Kn.compare_c b.hi a.hi w
 have HZZ : Hid (Kn.Z (Su.join a b).lo ∧ Kn.Z (Su.join a b).hi) := Lib.hid (by
  have hz : Kn.Z Zn.zv := by unfold Kn.Z Zn.zv; decide
  unfold Su.join
  constructor
  ·simp only
   repeat' split
   all_goals assumption
  ·simp only
   repeat' split
   all_goals assumption)
 have HO : Hid (∀ (s : Su.S) (w : World), s = Su.join a b → Calls Try.prog 61 #[s.val] w fun e w' => e = .returned s.val ∧ Below w.heap.size w w') := Lib.hid fun s w h => by subst h; exact Su.own_c _ HZZ.out.1 HZZ.out.2 w
 have HJ : Hid (Su.join a b = Su.join a b) := Lib.hid rfl
 clear ha1 ha2 hb1 hb2
 obtain ⟨ac, aq, av, ⟨aln, ali, als⟩, ⟨ahn, ahi, ahs⟩⟩ := a
 obtain ⟨bc, bq, bv, ⟨bln, bli, bls⟩, ⟨bhn, bhi, bhs⟩⟩ := b
 unfold Kn.V.val at cL cU
 simp only at cL cU
 simp only [Su.cs, Su.zero, Zn.zv] at HST
 have HCL : Hid (∀ w, _) := Lib.hid cL
 have HCU : Hid (∀ w, _) := Lib.hid cU
 clear cL cU HZZ
 generalize hX : Kn.cmp ⟨bln, bli, bls⟩ ⟨aln, ali, als⟩ = Xx at HCL
 generalize hY : Kn.cmp ⟨bhn, bhi, bhs⟩ ⟨ahn, ahi, ahs⟩ = Y at HCU
 have HXE := Lib.hid hX
 have HYE := Lib.hid hY
 clear hX hY
 go_enter Try.func34, Try.ntmps34
 go_upto_region 2 with (fail)
 generalize hwo : World.alloc _ _ = wo at HST ⊢
 clear hwo
 obtain ⟨x0, x1, x2, x3, x4, x5, x6, x7, x8⟩ := HST.out.one.cells
 obtain ⟨y0, y1, y2, y3, y4, y5, y6, y7, y8⟩ := HST.out.two.cells
 obtain ⟨f0, f1, f2, f3, f4, f5, f6, f7, f8⟩ := HST.out.blk.frozens
 obtain ⟨z0, z1, z2, z3, z4, z5, z6, z7, z8⟩ := HST.out.blk.cells
 simp only at x0 x1 x2 x3 x4 x5 x6 x7 x8 y0 y1 y2 y3 y4 y5 y6 y7 y8 z0 z1 z2 z3 z4 z5 z6 z7 z8
 by_cases ha : 0 < av
 ·have da : decide (0 < av) = true := decide_eq_true ha
  have HA := Lib.hid ha
  clear ha
  by_cases hb : 0 < bv
  ·have db : decide (0 < bv) = true := decide_eq_true hb
   have HB := Lib.hid hb
   clear hb
   go_upto_region 3 with (fail)
   go_region
   have HS1 : Hid (Su.SJ w ⟨ac, aq, av, ⟨aln, ali, als⟩, ⟨ahn, ahi, ahs⟩⟩ ⟨bc, bq, bv, ⟨bln, bli, bls⟩, ⟨bhn, bhi, bhs⟩⟩ ⟨wrap64 (ac + bc), wrap64 (aq + bq), wrap64 (av + bv), ⟨aln, ali, als⟩, ⟨ahn, ahi, ahs⟩⟩ _) := Lib.hid (((HST.out.setLo ⟨aln, ali, als⟩).setHi ⟨ahn, ahi, ahs⟩).kept (Below.refl _ _).drew)
   clear x0 x1 x2 x3 x4 x5 x6 x7 x8 y0 y1 y2 y3 y4 y5 y6 y7 y8 f0 f1 f2 f3 f4 f5 f6 f7 f8 z0 z1 z2 z3 z4 z5 z6 z7 z8
   generalize hw2 : World.drew _ = w1 at HS1 ⊢
   clear hw2
   obtain ⟨x0, x1, x2, x3, x4, x5, x6, x7, x8⟩ := HS1.out.one.cells
   obtain ⟨y0, y1, y2, y3, y4, y5, y6, y7, y8⟩ := HS1.out.two.cells
   obtain ⟨f0, f1, f2, f3, f4, f5, f6, f7, f8⟩ := HS1.out.blk.frozens
   obtain ⟨z0, z1, z2, z3, z4, z5, z6, z7, z8⟩ := HS1.out.blk.cells
   simp only at x0 x1 x2 x3 x4 x5 x6 x7 x8 y0 y1 y2 y3 y4 y5 y6 y7 y8 z0 z1 z2 z3 z4 z5 z6 z7 z8
   go_wp2_with fail
   with_reducible refine (HCL.out _).mono ?_
   rintro e w2 ⟨rfl, g1⟩
   have HS2 := Lib.hid (HS1.out.kept g1)
   clear x0 x1 x2 x3 x4 x5 x6 x7 x8 y0 y1 y2 y3 y4 y5 y6 y7 y8 f0 f1 f2 f3 f4 f5 f6 f7 f8 z0 z1 z2 z3 z4 z5 z6 z7 z8
   clear g1
   obtain ⟨x0, x1, x2, x3, x4, x5, x6, x7, x8⟩ := HS2.out.one.cells
   obtain ⟨y0, y1, y2, y3, y4, y5, y6, y7, y8⟩ := HS2.out.two.cells
   obtain ⟨f0, f1, f2, f3, f4, f5, f6, f7, f8⟩ := HS2.out.blk.frozens
   obtain ⟨z0, z1, z2, z3, z4, z5, z6, z7, z8⟩ := HS2.out.blk.cells
   simp only at x0 x1 x2 x3 x4 x5 x6 x7 x8 y0 y1 y2 y3 y4 y5 y6 y7 y8 z0 z1 z2 z3 z4 z5 z6 z7 z8
   by_cases hX : Xx < 0
   ·have HXX := Lib.hid hX
    go_upto_region 6 with (fail)
    have HS3 : Hid (Su.SJ w ⟨ac, aq, av, ⟨aln, ali, als⟩, ⟨ahn, ahi, ahs⟩⟩ ⟨bc, bq, bv, ⟨bln, bli, bls⟩, ⟨bhn, bhi, bhs⟩⟩ ⟨wrap64 (ac + bc), wrap64 (aq + bq), wrap64 (av + bv), ⟨bln, bli, bls⟩, ⟨ahn, ahi, ahs⟩⟩ _) := Lib.hid (HS2.out.setLo ⟨bln, bli, bls⟩)
    clear x0 x1 x2 x3 x4 x5 x6 x7 x8 y0 y1 y2 y3 y4 y5 y6 y7 y8 f0 f1 f2 f3 f4 f5 f6 f7 f8 z0 z1 z2 z3 z4 z5 z6 z7 z8
    generalize hw2 : World.setCell _ _ _ = w3 at HS3 ⊢
    clear hw2
    clear hX
    obtain ⟨x0, x1, x2, x3, x4, x5, x6, x7, x8⟩ := HS3.out.one.cells
    obtain ⟨y0, y1, y2, y3, y4, y5, y6, y7, y8⟩ := HS3.out.two.cells
    obtain ⟨f0, f1, f2, f3, f4, f5, f6, f7, f8⟩ := HS3.out.blk.frozens
    obtain ⟨z0, z1, z2, z3, z4, z5, z6, z7, z8⟩ := HS3.out.blk.cells
    simp only at x0 x1 x2 x3 x4 x5 x6 x7 x8 y0 y1 y2 y3 y4 y5 y6 y7 y8 z0 z1 z2 z3 z4 z5 z6 z7 z8
    go_wp2_with fail
    with_reducible refine (HCU.out _).mono ?_
    rintro e w4 ⟨rfl, g1⟩
    have HS4 := Lib.hid (HS3.out.kept g1)
    clear x0 x1 x2 x3 x4 x5 x6 x7 x8 y0 y1 y2 y3 y4 y5 y6 y7 y8 f0 f1 f2 f3 f4 f5 f6 f7 f8 z0 z1 z2 z3 z4 z5 z6 z7 z8
    clear g1
    obtain ⟨x0, x1, x2, x3, x4, x5, x6, x7, x8⟩ := HS4.out.one.cells
    obtain ⟨y0, y1, y2, y3, y4, y5, y6, y7, y8⟩ := HS4.out.two.cells
    obtain ⟨f0, f1, f2, f3, f4, f5, f6, f7, f8⟩ := HS4.out.blk.frozens
    obtain ⟨z0, z1, z2, z3, z4, z5, z6, z7, z8⟩ := HS4.out.blk.cells
    simp only at x0 x1 x2 x3 x4 x5 x6 x7 x8 y0 y1 y2 y3 y4 y5 y6 y7 y8 z0 z1 z2 z3 z4 z5 z6 z7 z8
    by_cases hY : 0 < Y
    ·have HYY := Lib.hid hY
     go_upto_region 12 with (fail)
     have HS5 : Hid (Su.SJ w ⟨ac, aq, av, ⟨aln, ali, als⟩, ⟨ahn, ahi, ahs⟩⟩ ⟨bc, bq, bv, ⟨bln, bli, bls⟩, ⟨bhn, bhi, bhs⟩⟩ ⟨wrap64 (ac + bc), wrap64 (aq + bq), wrap64 (av + bv), ⟨bln, bli, bls⟩, ⟨bhn, bhi, bhs⟩⟩ _) := Lib.hid (HS4.out.setHi ⟨bhn, bhi, bhs⟩)
     clear x0 x1 x2 x3 x4 x5 x6 x7 x8 y0 y1 y2 y3 y4 y5 y6 y7 y8 f0 f1 f2 f3 f4 f5 f6 f7 f8 z0 z1 z2 z3 z4 z5 z6 z7 z8
     generalize hw2 : World.setCell _ _ _ = w5 at HS5 ⊢
     clear hw2
     clear hY
     obtain ⟨x0, x1, x2, x3, x4, x5, x6, x7, x8⟩ := HS5.out.one.cells
     obtain ⟨y0, y1, y2, y3, y4, y5, y6, y7, y8⟩ := HS5.out.two.cells
     obtain ⟨f0, f1, f2, f3, f4, f5, f6, f7, f8⟩ := HS5.out.blk.frozens
     obtain ⟨z0, z1, z2, z3, z4, z5, z6, z7, z8⟩ := HS5.out.blk.cells
     simp only at x0 x1 x2 x3 x4 x5 x6 x7 x8 y0 y1 y2 y3 y4 y5 y6 y7 y8 z0 z1 z2 z3 z4 z5 z6 z7 z8
     have cO := HO.out ⟨wrap64 (ac + bc), wrap64 (aq + bq), wrap64 (av + bv), ⟨bln, bli, bls⟩, ⟨bhn, bhi, bhs⟩⟩
     have hJ : (⟨wrap64 (ac + bc), wrap64 (aq + bq), wrap64 (av + bv), ⟨bln, bli, bls⟩, ⟨bhn, bhi, bhs⟩⟩ : Su.S) = Su.join ⟨ac, aq, av, ⟨aln, ali, als⟩, ⟨ahn, ahi, ahs⟩⟩ ⟨bc, bq, bv, ⟨bln, bli, bls⟩, ⟨bhn, bhi, bhs⟩⟩ := by unfold Su.join; simp only; rw [if_pos HA.out, if_pos HB.out, if_pos (show Kn.cmp ⟨bln, bli, bls⟩ ⟨aln, ali, als⟩ < 0 by rw [HXE.out]; have := HXX.out; omega), if_pos HA.out, if_pos HB.out, if_pos (show 0 < Kn.cmp ⟨bhn, bhi, bhs⟩ ⟨ahn, ahi, ahs⟩ by rw [HYE.out]; have := HYY.out; omega)]
     have CO : Hid (∀ w, _) := Lib.hid fun w => cO w hJ
     have HJJ := Lib.hid hJ
     clear cO hJ
     simp only [Su.S.val, Su.cs] at CO
     go_wp2_with fail
     with_reducible refine (CO.out _).mono ?_
     rintro e w9 ⟨rfl, g9⟩
     have HS9 := Lib.hid (HS5.out.kept g9)
     clear x0 x1 x2 x3 x4 x5 x6 x7 x8 y0 y1 y2 y3 y4 y5 y6 y7 y8 f0 f1 f2 f3 f4 f5 f6 f7 f8 z0 z1 z2 z3 z4 z5 z6 z7 z8
     clear g9
     obtain ⟨r0, r1, r2, r3, r4, r5, r6, r7, r8⟩ := HS9.out.res.cells
     obtain ⟨h0, h1, h2, h3, h4, h5, h6, h7, h8⟩ := HS9.out.res.frozens
     have HP := Lib.hid (Su.put_below (q := w.heap.size + 1 + 1) HS9.out.bel (by omega) ⟨wrap64 (ac + bc), wrap64 (aq + bq), wrap64 (av + bv), ⟨bln, bli, bls⟩, ⟨bhn, bhi, bhs⟩⟩)
     go_wp2
     (try simp only [Exit.inBlock, Exit.then])
     refine bodyPost_ret (v := .agg #[.int .i64 (wrap64 (ac + bc)), .int .i64 (wrap64 (aq + bq)), .int .i64 (wrap64 (av + bv)), .bool bln, .int .i64 bli, .string bls, .bool bhn, .int .i64 bhi, .string bhs]) ?_ rfl ⟨by rw [← HJJ.out], HP.out⟩
     rw [Zn.results_cell rfl]
     go_simp
    ·have HYY := Lib.hid hY
     go_upto_region 12 with (fail)
     clear hY
     have HS5 := HS4
     clear x0 x1 x2 x3 x4 x5 x6 x7 x8 y0 y1 y2 y3 y4 y5 y6 y7 y8 f0 f1 f2 f3 f4 f5 f6 f7 f8 z0 z1 z2 z3 z4 z5 z6 z7 z8
     obtain ⟨x0, x1, x2, x3, x4, x5, x6, x7, x8⟩ := HS5.out.one.cells
     obtain ⟨y0, y1, y2, y3, y4, y5, y6, y7, y8⟩ := HS5.out.two.cells
     obtain ⟨f0, f1, f2, f3, f4, f5, f6, f7, f8⟩ := HS5.out.blk.frozens
     obtain ⟨z0, z1, z2, z3, z4, z5, z6, z7, z8⟩ := HS5.out.blk.cells
     simp only at x0 x1 x2 x3 x4 x5 x6 x7 x8 y0 y1 y2 y3 y4 y5 y6 y7 y8 z0 z1 z2 z3 z4 z5 z6 z7 z8
     have cO := HO.out ⟨wrap64 (ac + bc), wrap64 (aq + bq), wrap64 (av + bv), ⟨bln, bli, bls⟩, ⟨ahn, ahi, ahs⟩⟩
     have hJ : (⟨wrap64 (ac + bc), wrap64 (aq + bq), wrap64 (av + bv), ⟨bln, bli, bls⟩, ⟨ahn, ahi, ahs⟩⟩ : Su.S) = Su.join ⟨ac, aq, av, ⟨aln, ali, als⟩, ⟨ahn, ahi, ahs⟩⟩ ⟨bc, bq, bv, ⟨bln, bli, bls⟩, ⟨bhn, bhi, bhs⟩⟩ := by unfold Su.join; simp only; rw [if_pos HA.out, if_pos HB.out, if_pos (show Kn.cmp ⟨bln, bli, bls⟩ ⟨aln, ali, als⟩ < 0 by rw [HXE.out]; have := HXX.out; omega), if_pos HA.out, if_pos HB.out, if_neg (show ¬ 0 < Kn.cmp ⟨bhn, bhi, bhs⟩ ⟨ahn, ahi, ahs⟩ by rw [HYE.out]; have := HYY.out; omega)]
     have CO : Hid (∀ w, _) := Lib.hid fun w => cO w hJ
     have HJJ := Lib.hid hJ
     clear cO hJ
     simp only [Su.S.val, Su.cs] at CO
     go_wp2_with fail
     with_reducible refine (CO.out _).mono ?_
     rintro e w9 ⟨rfl, g9⟩
     have HS9 := Lib.hid (HS5.out.kept g9)
     clear x0 x1 x2 x3 x4 x5 x6 x7 x8 y0 y1 y2 y3 y4 y5 y6 y7 y8 f0 f1 f2 f3 f4 f5 f6 f7 f8 z0 z1 z2 z3 z4 z5 z6 z7 z8
     clear g9
     obtain ⟨r0, r1, r2, r3, r4, r5, r6, r7, r8⟩ := HS9.out.res.cells
     obtain ⟨h0, h1, h2, h3, h4, h5, h6, h7, h8⟩ := HS9.out.res.frozens
     have HP := Lib.hid (Su.put_below (q := w.heap.size + 1 + 1) HS9.out.bel (by omega) ⟨wrap64 (ac + bc), wrap64 (aq + bq), wrap64 (av + bv), ⟨bln, bli, bls⟩, ⟨ahn, ahi, ahs⟩⟩)
     go_wp2
     (try simp only [Exit.inBlock, Exit.then])
     refine bodyPost_ret (v := .agg #[.int .i64 (wrap64 (ac + bc)), .int .i64 (wrap64 (aq + bq)), .int .i64 (wrap64 (av + bv)), .bool bln, .int .i64 bli, .string bls, .bool ahn, .int .i64 ahi, .string ahs]) ?_ rfl ⟨by rw [← HJJ.out], HP.out⟩
     rw [Zn.results_cell rfl]
     go_simp
   ·have HXX := Lib.hid hX
    go_upto_region 6 with (fail)
    clear hX
    have HS3 := HS2
    clear x0 x1 x2 x3 x4 x5 x6 x7 x8 y0 y1 y2 y3 y4 y5 y6 y7 y8 f0 f1 f2 f3 f4 f5 f6 f7 f8 z0 z1 z2 z3 z4 z5 z6 z7 z8
    obtain ⟨x0, x1, x2, x3, x4, x5, x6, x7, x8⟩ := HS3.out.one.cells
    obtain ⟨y0, y1, y2, y3, y4, y5, y6, y7, y8⟩ := HS3.out.two.cells
    obtain ⟨f0, f1, f2, f3, f4, f5, f6, f7, f8⟩ := HS3.out.blk.frozens
    obtain ⟨z0, z1, z2, z3, z4, z5, z6, z7, z8⟩ := HS3.out.blk.cells
    simp only at x0 x1 x2 x3 x4 x5 x6 x7 x8 y0 y1 y2 y3 y4 y5 y6 y7 y8 z0 z1 z2 z3 z4 z5 z6 z7 z8
    go_wp2_with fail
    with_reducible refine (HCU.out _).mono ?_
    rintro e w4 ⟨rfl, g1⟩
    have HS4 := Lib.hid (HS3.out.kept g1)
    clear x0 x1 x2 x3 x4 x5 x6 x7 x8 y0 y1 y2 y3 y4 y5 y6 y7 y8 f0 f1 f2 f3 f4 f5 f6 f7 f8 z0 z1 z2 z3 z4 z5 z6 z7 z8
    clear g1
    obtain ⟨x0, x1, x2, x3, x4, x5, x6, x7, x8⟩ := HS4.out.one.cells
    obtain ⟨y0, y1, y2, y3, y4, y5, y6, y7, y8⟩ := HS4.out.two.cells
    obtain ⟨f0, f1, f2, f3, f4, f5, f6, f7, f8⟩ := HS4.out.blk.frozens
    obtain ⟨z0, z1, z2, z3, z4, z5, z6, z7, z8⟩ := HS4.out.blk.cells
    simp only at x0 x1 x2 x3 x4 x5 x6 x7 x8 y0 y1 y2 y3 y4 y5 y6 y7 y8 z0 z1 z2 z3 z4 z5 z6 z7 z8
    by_cases hY : 0 < Y
    ·have HYY := Lib.hid hY
     go_upto_region 12 with (fail)
     have HS5 : Hid (Su.SJ w ⟨ac, aq, av, ⟨aln, ali, als⟩, ⟨ahn, ahi, ahs⟩⟩ ⟨bc, bq, bv, ⟨bln, bli, bls⟩, ⟨bhn, bhi, bhs⟩⟩ ⟨wrap64 (ac + bc), wrap64 (aq + bq), wrap64 (av + bv), ⟨aln, ali, als⟩, ⟨bhn, bhi, bhs⟩⟩ _) := Lib.hid (HS4.out.setHi ⟨bhn, bhi, bhs⟩)
     clear x0 x1 x2 x3 x4 x5 x6 x7 x8 y0 y1 y2 y3 y4 y5 y6 y7 y8 f0 f1 f2 f3 f4 f5 f6 f7 f8 z0 z1 z2 z3 z4 z5 z6 z7 z8
     generalize hw2 : World.setCell _ _ _ = w5 at HS5 ⊢
     clear hw2
     clear hY
     obtain ⟨x0, x1, x2, x3, x4, x5, x6, x7, x8⟩ := HS5.out.one.cells
     obtain ⟨y0, y1, y2, y3, y4, y5, y6, y7, y8⟩ := HS5.out.two.cells
     obtain ⟨f0, f1, f2, f3, f4, f5, f6, f7, f8⟩ := HS5.out.blk.frozens
     obtain ⟨z0, z1, z2, z3, z4, z5, z6, z7, z8⟩ := HS5.out.blk.cells
     simp only at x0 x1 x2 x3 x4 x5 x6 x7 x8 y0 y1 y2 y3 y4 y5 y6 y7 y8 z0 z1 z2 z3 z4 z5 z6 z7 z8
     have cO := HO.out ⟨wrap64 (ac + bc), wrap64 (aq + bq), wrap64 (av + bv), ⟨aln, ali, als⟩, ⟨bhn, bhi, bhs⟩⟩
     have hJ : (⟨wrap64 (ac + bc), wrap64 (aq + bq), wrap64 (av + bv), ⟨aln, ali, als⟩, ⟨bhn, bhi, bhs⟩⟩ : Su.S) = Su.join ⟨ac, aq, av, ⟨aln, ali, als⟩, ⟨ahn, ahi, ahs⟩⟩ ⟨bc, bq, bv, ⟨bln, bli, bls⟩, ⟨bhn, bhi, bhs⟩⟩ := by unfold Su.join; simp only; rw [if_pos HA.out, if_pos HB.out, if_neg (show ¬ Kn.cmp ⟨bln, bli, bls⟩ ⟨aln, ali, als⟩ < 0 by rw [HXE.out]; have := HXX.out; omega), if_pos HA.out, if_pos HB.out, if_pos (show 0 < Kn.cmp ⟨bhn, bhi, bhs⟩ ⟨ahn, ahi, ahs⟩ by rw [HYE.out]; have := HYY.out; omega)]
     have CO : Hid (∀ w, _) := Lib.hid fun w => cO w hJ
     have HJJ := Lib.hid hJ
     clear cO hJ
     simp only [Su.S.val, Su.cs] at CO
     go_wp2_with fail
     with_reducible refine (CO.out _).mono ?_
     rintro e w9 ⟨rfl, g9⟩
     have HS9 := Lib.hid (HS5.out.kept g9)
     clear x0 x1 x2 x3 x4 x5 x6 x7 x8 y0 y1 y2 y3 y4 y5 y6 y7 y8 f0 f1 f2 f3 f4 f5 f6 f7 f8 z0 z1 z2 z3 z4 z5 z6 z7 z8
     clear g9
     obtain ⟨r0, r1, r2, r3, r4, r5, r6, r7, r8⟩ := HS9.out.res.cells
     obtain ⟨h0, h1, h2, h3, h4, h5, h6, h7, h8⟩ := HS9.out.res.frozens
     have HP := Lib.hid (Su.put_below (q := w.heap.size + 1 + 1) HS9.out.bel (by omega) ⟨wrap64 (ac + bc), wrap64 (aq + bq), wrap64 (av + bv), ⟨aln, ali, als⟩, ⟨bhn, bhi, bhs⟩⟩)
     go_wp2
     (try simp only [Exit.inBlock, Exit.then])
     refine bodyPost_ret (v := .agg #[.int .i64 (wrap64 (ac + bc)), .int .i64 (wrap64 (aq + bq)), .int .i64 (wrap64 (av + bv)), .bool aln, .int .i64 ali, .string als, .bool bhn, .int .i64 bhi, .string bhs]) ?_ rfl ⟨by rw [← HJJ.out], HP.out⟩
     rw [Zn.results_cell rfl]
     go_simp
    ·have HYY := Lib.hid hY
     go_upto_region 12 with (fail)
     clear hY
     have HS5 := HS4
     clear x0 x1 x2 x3 x4 x5 x6 x7 x8 y0 y1 y2 y3 y4 y5 y6 y7 y8 f0 f1 f2 f3 f4 f5 f6 f7 f8 z0 z1 z2 z3 z4 z5 z6 z7 z8
     obtain ⟨x0, x1, x2, x3, x4, x5, x6, x7, x8⟩ := HS5.out.one.cells
     obtain ⟨y0, y1, y2, y3, y4, y5, y6, y7, y8⟩ := HS5.out.two.cells
     obtain ⟨f0, f1, f2, f3, f4, f5, f6, f7, f8⟩ := HS5.out.blk.frozens
     obtain ⟨z0, z1, z2, z3, z4, z5, z6, z7, z8⟩ := HS5.out.blk.cells
     simp only at x0 x1 x2 x3 x4 x5 x6 x7 x8 y0 y1 y2 y3 y4 y5 y6 y7 y8 z0 z1 z2 z3 z4 z5 z6 z7 z8
     have cO := HO.out ⟨wrap64 (ac + bc), wrap64 (aq + bq), wrap64 (av + bv), ⟨aln, ali, als⟩, ⟨ahn, ahi, ahs⟩⟩
     have hJ : (⟨wrap64 (ac + bc), wrap64 (aq + bq), wrap64 (av + bv), ⟨aln, ali, als⟩, ⟨ahn, ahi, ahs⟩⟩ : Su.S) = Su.join ⟨ac, aq, av, ⟨aln, ali, als⟩, ⟨ahn, ahi, ahs⟩⟩ ⟨bc, bq, bv, ⟨bln, bli, bls⟩, ⟨bhn, bhi, bhs⟩⟩ := by unfold Su.join; simp only; rw [if_pos HA.out, if_pos HB.out, if_neg (show ¬ Kn.cmp ⟨bln, bli, bls⟩ ⟨aln, ali, als⟩ < 0 by rw [HXE.out]; have := HXX.out; omega), if_pos HA.out, if_pos HB.out, if_neg (show ¬ 0 < Kn.cmp ⟨bhn, bhi, bhs⟩ ⟨ahn, ahi, ahs⟩ by rw [HYE.out]; have := HYY.out; omega)]
     have CO : Hid (∀ w, _) := Lib.hid fun w => cO w hJ
     have HJJ := Lib.hid hJ
     clear cO hJ
     simp only [Su.S.val, Su.cs] at CO
     go_wp2_with fail
     with_reducible refine (CO.out _).mono ?_
     rintro e w9 ⟨rfl, g9⟩
     have HS9 := Lib.hid (HS5.out.kept g9)
     clear x0 x1 x2 x3 x4 x5 x6 x7 x8 y0 y1 y2 y3 y4 y5 y6 y7 y8 f0 f1 f2 f3 f4 f5 f6 f7 f8 z0 z1 z2 z3 z4 z5 z6 z7 z8
     clear g9
     obtain ⟨r0, r1, r2, r3, r4, r5, r6, r7, r8⟩ := HS9.out.res.cells
     obtain ⟨h0, h1, h2, h3, h4, h5, h6, h7, h8⟩ := HS9.out.res.frozens
     have HP := Lib.hid (Su.put_below (q := w.heap.size + 1 + 1) HS9.out.bel (by omega) ⟨wrap64 (ac + bc), wrap64 (aq + bq), wrap64 (av + bv), ⟨aln, ali, als⟩, ⟨ahn, ahi, ahs⟩⟩)
     go_wp2
     (try simp only [Exit.inBlock, Exit.then])
     refine bodyPost_ret (v := .agg #[.int .i64 (wrap64 (ac + bc)), .int .i64 (wrap64 (aq + bq)), .int .i64 (wrap64 (av + bv)), .bool aln, .int .i64 ali, .string als, .bool ahn, .int .i64 ahi, .string ahs]) ?_ rfl ⟨by rw [← HJJ.out], HP.out⟩
     rw [Zn.results_cell rfl]
     go_simp
  ·have db : decide (0 < bv) = false := decide_eq_false hb
   have HB := Lib.hid hb
   clear hb
   go_upto_region 9 with (fail)
   go_region
   have HS1 : Hid (Su.SJ w ⟨ac, aq, av, ⟨aln, ali, als⟩, ⟨ahn, ahi, ahs⟩⟩ ⟨bc, bq, bv, ⟨bln, bli, bls⟩, ⟨bhn, bhi, bhs⟩⟩ ⟨wrap64 (ac + bc), wrap64 (aq + bq), wrap64 (av + bv), ⟨aln, ali, als⟩, ⟨ahn, ahi, ahs⟩⟩ _) := Lib.hid (((HST.out.setLo ⟨aln, ali, als⟩).setHi ⟨ahn, ahi, ahs⟩).kept (Below.refl _ _).drew)
   clear x0 x1 x2 x3 x4 x5 x6 x7 x8 y0 y1 y2 y3 y4 y5 y6 y7 y8 f0 f1 f2 f3 f4 f5 f6 f7 f8 z0 z1 z2 z3 z4 z5 z6 z7 z8
   generalize hw2 : World.drew _ = w1 at HS1 ⊢
   clear hw2
   obtain ⟨x0, x1, x2, x3, x4, x5, x6, x7, x8⟩ := HS1.out.one.cells
   obtain ⟨y0, y1, y2, y3, y4, y5, y6, y7, y8⟩ := HS1.out.two.cells
   obtain ⟨f0, f1, f2, f3, f4, f5, f6, f7, f8⟩ := HS1.out.blk.frozens
   obtain ⟨z0, z1, z2, z3, z4, z5, z6, z7, z8⟩ := HS1.out.blk.cells
   simp only at x0 x1 x2 x3 x4 x5 x6 x7 x8 y0 y1 y2 y3 y4 y5 y6 y7 y8 z0 z1 z2 z3 z4 z5 z6 z7 z8
   have cO := HO.out ⟨wrap64 (ac + bc), wrap64 (aq + bq), wrap64 (av + bv), ⟨aln, ali, als⟩, ⟨ahn, ahi, ahs⟩⟩
   have hJ : (⟨wrap64 (ac + bc), wrap64 (aq + bq), wrap64 (av + bv), ⟨aln, ali, als⟩, ⟨ahn, ahi, ahs⟩⟩ : Su.S) = Su.join ⟨ac, aq, av, ⟨aln, ali, als⟩, ⟨ahn, ahi, ahs⟩⟩ ⟨bc, bq, bv, ⟨bln, bli, bls⟩, ⟨bhn, bhi, bhs⟩⟩ := by unfold Su.join; simp only; rw [if_pos HA.out, if_neg HB.out, if_pos HA.out, if_neg HB.out]
   have CO : Hid (∀ w, _) := Lib.hid fun w => cO w hJ
   have HJJ := Lib.hid hJ
   clear cO hJ
   simp only [Su.S.val, Su.cs] at CO
   go_wp2_with fail
   with_reducible refine (CO.out _).mono ?_
   rintro e w9 ⟨rfl, g9⟩
   have HS9 := Lib.hid (HS1.out.kept g9)
   clear x0 x1 x2 x3 x4 x5 x6 x7 x8 y0 y1 y2 y3 y4 y5 y6 y7 y8 f0 f1 f2 f3 f4 f5 f6 f7 f8 z0 z1 z2 z3 z4 z5 z6 z7 z8
   clear g9
   obtain ⟨r0, r1, r2, r3, r4, r5, r6, r7, r8⟩ := HS9.out.res.cells
   obtain ⟨h0, h1, h2, h3, h4, h5, h6, h7, h8⟩ := HS9.out.res.frozens
   have HP := Lib.hid (Su.put_below (q := w.heap.size + 1 + 1) HS9.out.bel (by omega) ⟨wrap64 (ac + bc), wrap64 (aq + bq), wrap64 (av + bv), ⟨aln, ali, als⟩, ⟨ahn, ahi, ahs⟩⟩)
   go_wp2
   (try simp only [Exit.inBlock, Exit.then])
   refine bodyPost_ret (v := .agg #[.int .i64 (wrap64 (ac + bc)), .int .i64 (wrap64 (aq + bq)), .int .i64 (wrap64 (av + bv)), .bool aln, .int .i64 ali, .string als, .bool ahn, .int .i64 ahi, .string ahs]) ?_ rfl ⟨by rw [← HJJ.out], HP.out⟩
   rw [Zn.results_cell rfl]
   go_simp
 ·have da : decide (0 < av) = false := decide_eq_false ha
  have HA := Lib.hid ha
  clear ha
  by_cases hb : 0 < bv
  ·have db : decide (0 < bv) = true := decide_eq_true hb
   have HB := Lib.hid hb
   clear hb
   go_upto_region 11 with (fail)
   go_region
   have HS1 : Hid (Su.SJ w ⟨ac, aq, av, ⟨aln, ali, als⟩, ⟨ahn, ahi, ahs⟩⟩ ⟨bc, bq, bv, ⟨bln, bli, bls⟩, ⟨bhn, bhi, bhs⟩⟩ ⟨wrap64 (ac + bc), wrap64 (aq + bq), wrap64 (av + bv), ⟨bln, bli, bls⟩, ⟨bhn, bhi, bhs⟩⟩ _) := Lib.hid (((HST.out.setLo ⟨bln, bli, bls⟩).setHi ⟨bhn, bhi, bhs⟩).kept (Below.refl _ _).drew)
   clear x0 x1 x2 x3 x4 x5 x6 x7 x8 y0 y1 y2 y3 y4 y5 y6 y7 y8 f0 f1 f2 f3 f4 f5 f6 f7 f8 z0 z1 z2 z3 z4 z5 z6 z7 z8
   generalize hw2 : World.drew _ = w1 at HS1 ⊢
   clear hw2
   obtain ⟨x0, x1, x2, x3, x4, x5, x6, x7, x8⟩ := HS1.out.one.cells
   obtain ⟨y0, y1, y2, y3, y4, y5, y6, y7, y8⟩ := HS1.out.two.cells
   obtain ⟨f0, f1, f2, f3, f4, f5, f6, f7, f8⟩ := HS1.out.blk.frozens
   obtain ⟨z0, z1, z2, z3, z4, z5, z6, z7, z8⟩ := HS1.out.blk.cells
   simp only at x0 x1 x2 x3 x4 x5 x6 x7 x8 y0 y1 y2 y3 y4 y5 y6 y7 y8 z0 z1 z2 z3 z4 z5 z6 z7 z8
   have cO := HO.out ⟨wrap64 (ac + bc), wrap64 (aq + bq), wrap64 (av + bv), ⟨bln, bli, bls⟩, ⟨bhn, bhi, bhs⟩⟩
   have hJ : (⟨wrap64 (ac + bc), wrap64 (aq + bq), wrap64 (av + bv), ⟨bln, bli, bls⟩, ⟨bhn, bhi, bhs⟩⟩ : Su.S) = Su.join ⟨ac, aq, av, ⟨aln, ali, als⟩, ⟨ahn, ahi, ahs⟩⟩ ⟨bc, bq, bv, ⟨bln, bli, bls⟩, ⟨bhn, bhi, bhs⟩⟩ := by unfold Su.join; simp only; rw [if_neg HA.out, if_pos HB.out, if_neg HA.out, if_pos HB.out]
   have CO : Hid (∀ w, _) := Lib.hid fun w => cO w hJ
   have HJJ := Lib.hid hJ
   clear cO hJ
   simp only [Su.S.val, Su.cs] at CO
   go_wp2_with fail
   with_reducible refine (CO.out _).mono ?_
   rintro e w9 ⟨rfl, g9⟩
   have HS9 := Lib.hid (HS1.out.kept g9)
   clear x0 x1 x2 x3 x4 x5 x6 x7 x8 y0 y1 y2 y3 y4 y5 y6 y7 y8 f0 f1 f2 f3 f4 f5 f6 f7 f8 z0 z1 z2 z3 z4 z5 z6 z7 z8
   clear g9
   obtain ⟨r0, r1, r2, r3, r4, r5, r6, r7, r8⟩ := HS9.out.res.cells
   obtain ⟨h0, h1, h2, h3, h4, h5, h6, h7, h8⟩ := HS9.out.res.frozens
   have HP := Lib.hid (Su.put_below (q := w.heap.size + 1 + 1) HS9.out.bel (by omega) ⟨wrap64 (ac + bc), wrap64 (aq + bq), wrap64 (av + bv), ⟨bln, bli, bls⟩, ⟨bhn, bhi, bhs⟩⟩)
   go_wp2
   (try simp only [Exit.inBlock, Exit.then])
   refine bodyPost_ret (v := .agg #[.int .i64 (wrap64 (ac + bc)), .int .i64 (wrap64 (aq + bq)), .int .i64 (wrap64 (av + bv)), .bool bln, .int .i64 bli, .string bls, .bool bhn, .int .i64 bhi, .string bhs]) ?_ rfl ⟨by rw [← HJJ.out], HP.out⟩
   rw [Zn.results_cell rfl]
   go_simp
  ·have db : decide (0 < bv) = false := decide_eq_false hb
   have HB := Lib.hid hb
   clear hb
   go_upto_region 12 with (fail)
   have HS1 := HST
   clear x0 x1 x2 x3 x4 x5 x6 x7 x8 y0 y1 y2 y3 y4 y5 y6 y7 y8 f0 f1 f2 f3 f4 f5 f6 f7 f8 z0 z1 z2 z3 z4 z5 z6 z7 z8
   obtain ⟨x0, x1, x2, x3, x4, x5, x6, x7, x8⟩ := HS1.out.one.cells
   obtain ⟨y0, y1, y2, y3, y4, y5, y6, y7, y8⟩ := HS1.out.two.cells
   obtain ⟨f0, f1, f2, f3, f4, f5, f6, f7, f8⟩ := HS1.out.blk.frozens
   obtain ⟨z0, z1, z2, z3, z4, z5, z6, z7, z8⟩ := HS1.out.blk.cells
   simp only at x0 x1 x2 x3 x4 x5 x6 x7 x8 y0 y1 y2 y3 y4 y5 y6 y7 y8 z0 z1 z2 z3 z4 z5 z6 z7 z8
   have cO := HO.out ⟨wrap64 (ac + bc), wrap64 (aq + bq), wrap64 (av + bv), ⟨false, 0, ⟨#[]⟩⟩, ⟨false, 0, ⟨#[]⟩⟩⟩
   have hJ : (⟨wrap64 (ac + bc), wrap64 (aq + bq), wrap64 (av + bv), ⟨false, 0, ⟨#[]⟩⟩, ⟨false, 0, ⟨#[]⟩⟩⟩ : Su.S) = Su.join ⟨ac, aq, av, ⟨aln, ali, als⟩, ⟨ahn, ahi, ahs⟩⟩ ⟨bc, bq, bv, ⟨bln, bli, bls⟩, ⟨bhn, bhi, bhs⟩⟩ := by unfold Su.join Zn.zv; simp only; rw [if_neg HA.out, if_neg HB.out, if_neg HA.out, if_neg HB.out]
   have CO : Hid (∀ w, _) := Lib.hid fun w => cO w hJ
   have HJJ := Lib.hid hJ
   clear cO hJ
   simp only [Su.S.val, Su.cs] at CO
   go_wp2_with fail
   with_reducible refine (CO.out _).mono ?_
   rintro e w9 ⟨rfl, g9⟩
   have HS9 := Lib.hid (HS1.out.kept g9)
   clear x0 x1 x2 x3 x4 x5 x6 x7 x8 y0 y1 y2 y3 y4 y5 y6 y7 y8 f0 f1 f2 f3 f4 f5 f6 f7 f8 z0 z1 z2 z3 z4 z5 z6 z7 z8
   clear g9
   obtain ⟨r0, r1, r2, r3, r4, r5, r6, r7, r8⟩ := HS9.out.res.cells
   obtain ⟨h0, h1, h2, h3, h4, h5, h6, h7, h8⟩ := HS9.out.res.frozens
   have HP := Lib.hid (Su.put_below (q := w.heap.size + 1 + 1) HS9.out.bel (by omega) ⟨wrap64 (ac + bc), wrap64 (aq + bq), wrap64 (av + bv), ⟨false, 0, ⟨#[]⟩⟩, ⟨false, 0, ⟨#[]⟩⟩⟩)
   go_wp2
   (try simp only [Exit.inBlock, Exit.then])
   refine bodyPost_ret (v := .agg #[.int .i64 (wrap64 (ac + bc)), .int .i64 (wrap64 (aq + bq)), .int .i64 (wrap64 (av + bv)), .bool false, .int .i64 0, .string ⟨#[]⟩, .bool false, .int .i64 0, .string ⟨#[]⟩]) ?_ rfl ⟨by rw [← HJJ.out], HP.out⟩
   rw [Zn.results_cell rfl]
   go_simp
end
end Go.Proofs.Ytodeodndjkkkbaa
