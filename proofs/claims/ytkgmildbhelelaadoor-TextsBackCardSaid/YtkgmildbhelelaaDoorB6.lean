/-
  The document's answers for package bits: a bit of bytes, bits of bytes, bits as bytes, the same lists, which number fits, how wide numbers are.
-/
import Derived.Test.YtkgmildbhelelaaDoorB5
import Derived.Test.YtkgmildbhelelaaDoorOwn
namespace Go.Proofs.YtkgmildbhelelaaDoor
open Go.RowKit
theorem Bt.retb {x y : Bool} (h : x = y) : Ending.returned (.bool x) = Ending.returned (.bool y) := by rw [h]
theorem Bt.testBit_mod (b r : Nat) : (((b : Int) / 2 ^ r).tmod 2 == 1) = b.testBit r := by
  rw [Nat.testBit_eq_decide_div_mod_eq]
  have e : ((b : Int) / 2 ^ r).tmod 2 = ((b / 2 ^ r % 2 : Nat) : Int) := by
    have e0 : (b : Int) / 2 ^ r = ((b / 2 ^ r : Nat) : Int) := by simp
    rw [e0, Int.tmod_eq_emod_of_nonneg (Int.natCast_nonneg _)]
    simp
  rw [e, Bool.eq_iff_iff, beq_iff_eq, decide_eq_true_iff]
  omega
set_option maxHeartbeats 1000000 in
theorem Bt.rbit_c (s : ByteArray) (k : Nat) (w : World) (hk : k / 8 < s.size) (hs : s.size ≤ 140737488355328) :
    Calls Tryd.prog 116 #[.string s, .int .i64 k] w fun e w' => e = .returned (.bool (Bt.bit s k)) ∧ w' = w := by
  obtain ⟨q, eq⟩ : ∃ q, q = k / 8 := ⟨_, rfl⟩
  obtain ⟨r, er⟩ : ∃ r, r = k % 8 := ⟨_, rfl⟩
  have hi : q < s.size := by omega
  have hq : (k : Int) / 8 = (q : Int) := by omega
  have hr : (k : Int) % 8 = (r : Int) := by omega
  have hr8 : r < 8 := by omega
  have HB : Hid (Bt.bit s k = s[q].toNat.testBit r) := Lib.hid (by subst eq er; exact Bt.bit_at s k hk)
  have hq2 : q < 140737488355328 := by omega
  clear eq er hk hs
  go_enter Tryd.func116, Tryd.ntmps116
  go_wp2
  go_ret
  exact ⟨Bt.retb (by rw [HB.out]; exact Bt.testBit_mod _ _), rfl⟩
/-- A slice that a call owns: n values. -/
def Bt.Buf (e : TypeId) (base : Nat) (w : World) (v : Value) (n : Nat) (f : Nat → Value) : Prop := w.ownsRow base e 1 v n ((List.range n).map f)
theorem Bt.Buf.nil (e : TypeId) (base : Nat) (w : World) (f : Nat → Value) : Bt.Buf e base w (.slice none 0 0) 0 f := World.ownsRow_nil w base _ 1
theorem Bt.Buf.sl {e : TypeId} {base : Nat} {w : World} {v : Value} {n : Nat} {f : Nat → Value} (h : Bt.Buf e base w v n f) : Bt.Sl w v n f := by
  have h0 := h
  rcases h.2 with ⟨rfl, rfl⟩ | ⟨g, cap, cur, rfl, _, hg, _⟩
  · exact Bt.Sl.nil _ _
  · refine ⟨_, cap, rfl, .inr ⟨g, 0, rfl, (Array.getElem?_eq_some_iff.1 hg).1, fun i hi => ?_⟩⟩
    have := h0.cells (g := g) rfl i (f i) (by simp [hi])
    have ea : (⟨g, 0, none⟩ : Addr).add i = ⟨g, 0 + i, none⟩ := by unfold Addr.add; split <;> simp_all
    rwa [ea] at this
theorem Bt.Buf.kept {e : TypeId} {base : Nat} {w w' : World} {v : Value} {n : Nat} {f : Nat → Value} (h : Bt.Buf e base w v n f) (g : Below w.heap.size w w') : Bt.Buf e base w' v n f := by
  refine ⟨h.1, ?_⟩
  rcases h.2 with hn | ⟨b, cap, cur, rfl, hbb, hgg, rest⟩
  · exact .inl hn
  · exact .inr ⟨b, cap, cur, rfl, hbb, by rw [g.block b (Array.getElem?_eq_some_iff.1 hgg).1]; exact hgg, rest⟩
theorem Bt.Buf.congr {e : TypeId} {base : Nat} {w : World} {v : Value} {n : Nat} {f g : Nat → Value} (h : Bt.Buf e base w v n f) (hf : ∀ i, i < n → f i = g i) : Bt.Buf e base w v n g := by
  unfold Bt.Buf at h ⊢
  have : (List.range n).map g = (List.range n).map f := List.map_congr_left fun i hi => (hf i (List.mem_range.1 hi)).symm
  rw [this]; exact h
theorem Bt.Buf.base_le {e : TypeId} {base : Nat} {w : World} {v : Value} {n : Nat} {f : Nat → Value} (h : Bt.Buf e base w v n f) : ∀ k, v.ownBlock = some k → base ≤ k := by
  intro k hk
  rcases h.2 with ⟨rfl, _⟩ | ⟨b, cap, cur, rfl, hbb, _⟩
  · cases hk
  · have : b = k := by simpa [Value.ownBlock] using hk
    omega
/-- One more value appended: the walk's law. -/
theorem Bt.wpList_append_one (e t : TypeId) (z : Value) (by_ : Nat) (hu : Tryd.prog.underlying t = some (.slice e)) (hinfo : (Tryd.prog.info? e).map (fun i => (i.zero, i.size, i.bytes)) = some (some z, 1, by_)) (hz : z.cells.size = 1)
    {base : Nat} {w0 : World} {v : Value} {n : Nat} {f : Nat → Value} (hown : Bt.Buf e base w0 v n f) (hb : base ≤ w0.heap.size) (hl : (n + 1) * by_ ≤ 140737488355328) (hl2 : n + 1 ≤ 140737488355328)
    {ops : Array Oper} {rest : List Oper} {o : Oper} {a : Act} {Q : Exit → Act → World → Prop} (s x : Operand) (u : Value) (hu1 : u.oneCell' = true) (hgd : o.guard = none)
    (ho : o.op = .call { callee := .builtin .append, args := #[s, x], argTypes := #[t, t] })
    (hs : a.eval s = v) (hx : a.eval x = .slice (some ⟨w0.heap.size, 0, none⟩) 1 1)
    (h : ∀ v' w', (u = f n → Bt.Buf e base w' v' (n + 1) f) → Ty.Grew w0 w' v v' → wpList Tryd.prog ops Q rest (a.put o.dst v') w') :
    wpList Tryd.prog ops Q (o :: rest) a (w0.alloc (.cells #[u] e)) := by
  obtain ⟨i0, hi, hz0, hz1, hz2⟩ := info_parts hinfo
  refine Ty.wpList_append_tight _ hgd s x t ho base e i0 z 1 by_ hu hi hz0 hz1 hz2 hz (by decide) v n ((List.range n).map f) hs (World.ownsRow.alloc hown _) ⟨w0.heap.size, 0, none⟩ 1 1 [u] hx rfl (cell_one_new _ _ _)
    (fun x hx => by simp at hx; subst hx; exact hu1) (by unfold maxLen; omega) hl (by simp; omega) fun v' w' h1 h2 => h v' w' (fun hu => ?_) (h2.behind _)
  subst hu
  unfold Bt.Buf
  rw [List.range_succ, List.map_append]
  exact h1
theorem Bt.grew_below {w w' : World} {v v' : Value} (h : Ty.Grew w w' v v') {B : Nat} (hB : B ≤ w.heap.size) (hv : ∀ k, v.ownBlock = some k → B ≤ k) : Below B w w' := h.below hB hv
set_option maxHeartbeats 1000000 in
theorem Bt.unbits_c (s : ByteArray) (n : Nat) (w : World) (hn : n ≤ 4194304) (hs : s.size ≤ 140737488355328) :
    Calls Tryd.prog 100 #[.string s, .int .i64 n] w fun e w' => ∃ v, e = .returned (.tuple #[v, .int .i64 (Bt.chk s n : Nat)]) ∧ Bt.Sl w' v (if Bt.chk s n = 0 then n else 0) (Bt.bv (Bt.bit s)) ∧ Below w.heap.size w w' := by
  obtain ⟨d, ed⟩ : ∃ d, d = Bt.need n := ⟨_, rfl⟩
  have hd : ((n : Int) + 7) / 8 = (d : Int) := by rw [ed]; unfold Bt.need; omega
  have hd2 : d ≤ 524289 := by rw [ed]; unfold Bt.need; omega
  generalize hC : Bt.chk s n = C
  have HC := Lib.hid hC
  have ED := Lib.hid ed
  clear hC ed
  by_cases h1 : s.size < d
  · have e : C = 2 := by rw [← HC.out, Bt.chk, ← ED.out, if_pos h1]
    subst e
    go_enter Tryd.func100, Tryd.ntmps100
    go_wp2
    go_ret2
    exact ⟨_, rfl, Bt.Sl.nil _ _, Below.refl _ _⟩
  · by_cases h2 : d < s.size
    · have e : C = 3 := by rw [← HC.out, Bt.chk, ← ED.out, if_neg h1, if_pos h2]
      subst e
      go_enter Tryd.func100, Tryd.ntmps100
      go_wp2
      go_ret2
      exact ⟨_, rfl, Bt.Sl.nil _ _, Below.refl _ _⟩
    · have hsz : s.size = d := by omega
      have HZ := Lib.hid hsz
      have HR := Lib.hid (Bt.need_room n)
      clear hsz
      go_enter Tryd.func100, Tryd.ntmps100
      go_wp2
      rw [hd]
      go_loopw [7, 8] (fun v i wr => ∃ k : Nat, k ≤ 8 * d ∧ i = .int .i64 k ∧ Bt.Buf 4 w.heap.size wr v (min k n) (Bt.bv (Bt.bit s)) ∧ Below w.heap.size w wr ∧ ∀ j, j < k → n ≤ j → Bt.bit s j = false) (fun _ i _ => 8 * d - (intOf i).toNat)
      case atStart => exact ⟨0, by omega, rfl, by rw [Nat.zero_min]; exact Bt.Buf.nil _ _ _ _, Below.refl _ _, fun j hj => by omega⟩
      case round =>
        obtain ⟨k, hk, rfl, hBf, hBl, hcl⟩ := hrel
        have HBf := Lib.hid hBf
        have HCl := Lib.hid hcl
        clear hBf hcl
        by_cases hl : k < 8 * d
        · have hkl : (k : Int) < 8 * (d : Int) := by omega
          have hk0 : (0 : Int) ≤ (k : Int) := by omega
          have cb := fun w => Bt.rbit_c s k w (by have := HZ.out; omega) hs
          by_cases hkn : k < n
          · have e1 : min k n = k := by omega
            have e2 : min (k + 1) n = k + 1 := by omega
            have hB0 := HBf.out
            rw [e1] at hB0
            have hbs := hBl.size
            have hkn2 : ¬ (n : Int) ≤ (k : Int) := by omega
            have hkn3 : (k : Int) < (n : Int) := by omega
            go_wp2_with fail
            refine (cb _).mono ?_
            rintro e w3 ⟨rfl, rfl⟩
            go_wp2_with (at_builtin; refine Bt.wpList_append_one 4 108 (.bool false) 1 Tryd.underlying108 Bt.infoB rfl hB0 hbs (by omega) (by omega) (.tmp 39) (.tmp 41) (.bool (Bt.bit s k)) rfl rfl rfl rfl rfl ?_; intro v1 w1 h1 g1)
            have H1 := Lib.hid (h1 rfl)
            have G1 := Lib.hid (g1.below hbs hB0.base_le)
            clear h1 g1
            go_roundw
            case rel =>
              exact ⟨k + 1, by omega, by simp, by rw [e2]; exact H1.out, hBl.trans G1.out, fun j hj hjn => by omega⟩
            case measure => simp [intOf]; omega
          · have hkn2 : (n : Int) ≤ (k : Int) := by omega
            have hkn3 : ¬ (k : Int) < (n : Int) := by omega
            cases hb : Bt.bit s k
            · rw [hb] at cb
              have HBT := Lib.hid hb
              clear hb
              go_wp2_with fail
              refine (cb _).mono ?_
              rintro e w3 ⟨rfl, rfl⟩
              go_wp2
              go_roundw
              case rel => exact ⟨k + 1, by omega, by simp, by rw [show min (k + 1) n = min k n by omega]; exact HBf.out, hBl, fun j hj hjn => by
                by_cases e : j = k
                · rw [e]; exact HBT.out
                · exact HCl.out j (by omega) hjn⟩
              case measure => simp [intOf]; omega
            · rw [hb] at cb
              have e : C = 5 := by rw [← HC.out, Bt.chk, ← ED.out, if_neg h1, if_neg h2, if_pos ((Bt.dirty_iff s n).2 ⟨k, by rw [← ED.out]; exact hl, by omega, hb⟩)]
              subst e
              clear hb
              go_wp2_with fail
              refine (cb _).mono ?_
              rintro e w3 ⟨rfl, rfl⟩
              go_wp2
              go_ret2
              exact ⟨_, rfl, Bt.Sl.nil _ _, hBl⟩
        · obtain rfl : k = 8 * d := by omega
          have hkl : ¬ ((8 * d : Nat) : Int) < 8 * (d : Int) := by omega
          have e : C = 0 := by
            have hdf : Bt.dirty s n = false := by
              rw [Bool.eq_false_iff]
              intro e
              obtain ⟨j, j1, j2, j3⟩ := (Bt.dirty_iff s n).1 e
              rw [HCl.out j (by rw [ED.out]; exact j1) j2] at j3
              cases j3
            rw [← HC.out, Bt.chk, ← ED.out, if_neg h1, if_neg h2, hdf]
            rfl
          subst e
          have e3 : min (8 * d) n = n := by have := HR.out.1; have := ED.out; omega
          have hB0 := HBf.out
          rw [e3] at hB0
          have HB0 := Lib.hid hB0
          clear hB0 e3
          generalize hkk : 8 * d = kk at hkl hl hk
          have hkk2 : 8 * (d : Int) = (kk : Int) := by omega
          have HKK := Lib.hid hkk
          clear hkk
          go_wp2
          go_ret2
          exact ⟨_, rfl, HB0.out.sl, hBl⟩
end Go.Proofs.YtkgmildbhelelaaDoor
