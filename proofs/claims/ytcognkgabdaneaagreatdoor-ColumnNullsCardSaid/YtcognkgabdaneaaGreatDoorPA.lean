/-
  Package packed: the plain mathematics: numbers as a byte of their width and as many bits each. No program.
  Contracts of package packed: Append; the next bytes; Read.
-/
import Derived.Test.YtcognkgabdaneaaGreatDoorBB
import Derived.Test.YtcognkgabdaneaaGreatDoorTB
import Derived.Test.YtcognkgabdaneaaGreatDoorTC
namespace Go.Proofs.YtcognkgabdaneaaGreatDoor
open Go.RowKit
/-- The bytes of numbers that have as few bits as they need. -/
def Pk.enc (n : Nat) (X : Nat → Nat) : List UInt8 := UInt8.ofNat (Bt.wid n X) :: (Bt.bytes (Bt.need (n * Bt.wid n X)) (Bt.pk n X (Bt.wid n X))).data.toList
/-- The first byte; the bytes of the numbers; what is behind them; the numbers. -/
def Pk.q (l : List UInt8) : Nat := (l.headD 0).toNat
def Pk.str (n : Nat) (l : List UInt8) : ByteArray := Ty.S (l.tail.take (Bt.need (n * Pk.q l)))
def Pk.rest (n : Nat) (l : List UInt8) : List UInt8 := l.tail.drop (Bt.need (n * Pk.q l))
def Pk.X (n : Nat) (l : List UInt8) : Nat → Nat := Bt.nums (Pk.str n l) (Pk.q l)
/-- The first error. -/
def Pk.err (n : Nat) (l : List UInt8) : Nat :=
  if l = [] then 2 else if 64 < Pk.q l then 4 else if l.tail.length < Bt.need (n * Pk.q l) then 2
  else if Bt.chk (Pk.str n l) (n * Pk.q l) ≠ 0 then Bt.chk (Pk.str n l) (n * Pk.q l)
  else if Bt.wid n (Pk.X n l) < Pk.q l then 4 else 0
theorem Pk.X_lt (n : Nat) (l : List UInt8) (h : Pk.q l ≤ 64) : ∀ i, Pk.X n l i < 2 ^ 64 := fun _ => Nat.lt_of_lt_of_le (Bt.num_lt _ _) (Nat.pow_le_pow_right (by decide) h)
theorem Pk.wid_le (n : Nat) (l : List UInt8) : Bt.wid n (Pk.X n l) ≤ Pk.q l := (Bt.wid_le n _ _).2 fun _ _ => Bt.num_lt _ _
section
variable {n : Nat} {r : List UInt8} {x : UInt8}
theorem Pk.err1 : Pk.err n [] = 2 := by unfold Pk.err; rw [if_pos rfl]
theorem Pk.err2 (h : 64 < x.toNat) : Pk.err n (x :: r) = 4 := by
  unfold Pk.err
  rw [if_neg (by simp), if_pos (by exact h)]
theorem Pk.err3 (h : ¬ 64 < x.toNat) (h2 : r.length < Bt.need (n * x.toNat)) : Pk.err n (x :: r) = 2 := by
  unfold Pk.err
  rw [if_neg (by simp), if_neg (by exact h), if_pos (by exact h2)]
theorem Pk.err4 (h : ¬ 64 < x.toNat) (h2 : ¬ r.length < Bt.need (n * x.toNat)) (h3 : Bt.chk (Ty.S (r.take (Bt.need (n * x.toNat)))) (n * x.toNat) ≠ 0) : Pk.err n (x :: r) = Bt.chk (Ty.S (r.take (Bt.need (n * x.toNat)))) (n * x.toNat) := by
  unfold Pk.err
  rw [if_neg (by simp), if_neg (by exact h), if_neg (by exact h2), if_pos (by exact h3)]
  rfl
theorem Pk.err5 (h : ¬ 64 < x.toNat) (h2 : ¬ r.length < Bt.need (n * x.toNat)) (h3 : Bt.chk (Ty.S (r.take (Bt.need (n * x.toNat)))) (n * x.toNat) = 0) (h4 : Bt.wid n (Bt.nums (Ty.S (r.take (Bt.need (n * x.toNat)))) x.toNat) < x.toNat) : Pk.err n (x :: r) = 4 := by
  unfold Pk.err
  rw [if_neg (by simp), if_neg (by exact h), if_neg (by exact h2), if_neg (fun e => e h3), if_pos (by exact h4)]
theorem Pk.err6 (h : ¬ 64 < x.toNat) (h2 : ¬ r.length < Bt.need (n * x.toNat)) (h3 : Bt.chk (Ty.S (r.take (Bt.need (n * x.toNat)))) (n * x.toNat) = 0) (h4 : ¬ Bt.wid n (Bt.nums (Ty.S (r.take (Bt.need (n * x.toNat)))) x.toNat) < x.toNat) : Pk.err n (x :: r) = 0 := by
  unfold Pk.err
  rw [if_neg (by simp), if_neg (by exact h), if_neg (by exact h2), if_neg (fun e => e h3), if_neg (by exact h4)]
end
/-- Of what is without error. -/
theorem Pk.good {n : Nat} {l : List UInt8} (h : Pk.err n l = 0) : ∃ x r, l = x :: r ∧ x.toNat ≤ 64 ∧ Bt.need (n * x.toNat) ≤ r.length ∧ Bt.chk (Ty.S (r.take (Bt.need (n * x.toNat)))) (n * x.toNat) = 0 ∧ Bt.wid n (Pk.X n l) = x.toNat ∧ Pk.q l = x.toNat ∧ Pk.X n l = Bt.nums (Ty.S (r.take (Bt.need (n * x.toNat)))) x.toNat ∧ Pk.rest n l = r.drop (Bt.need (n * x.toNat)) := by
  cases l with
  | nil => rw [Pk.err1] at h; cases h
  | cons x r =>
    by_cases h1 : 64 < x.toNat
    · rw [Pk.err2 h1] at h; cases h
    · by_cases h2 : r.length < Bt.need (n * x.toNat)
      · rw [Pk.err3 h1 h2] at h; cases h
      · by_cases h3 : Bt.chk (Ty.S (r.take (Bt.need (n * x.toNat)))) (n * x.toNat) = 0
        · have hle := Pk.wid_le n (x :: r)
          have hq : Pk.q (x :: r) = x.toNat := rfl
          have hX : Pk.X n (x :: r) = Bt.nums (Ty.S (r.take (Bt.need (n * x.toNat)))) x.toNat := rfl
          by_cases h4 : Bt.wid n (Bt.nums (Ty.S (r.take (Bt.need (n * x.toNat)))) x.toNat) < x.toNat
          · rw [Pk.err5 h1 h2 h3 h4] at h; cases h
          · rw [hX, hq] at hle
            exact ⟨x, r, rfl, by omega, by omega, h3, by rw [hX]; omega, rfl, rfl, rfl⟩
        · rw [Pk.err4 h1 h2 h3] at h; exact absurd h h3
end Go.Proofs.YtcognkgabdaneaaGreatDoor

namespace Go.Proofs.YtcognkgabdaneaaGreatDoor
open Go.RowKit
theorem Pk.len_bytes (n : Nat) (F : Nat → Bool) : (Bt.bytes n F).data.toList.length = n := by
  rw [Bt.length_data, Bt.size_bytes]
theorem Pk.by_some {w w' : World} (h : w.grownBy w' none) (r : Nat) : w.grownBy w' (some r) := ⟨h.os, h.tape, h.output, h.size, fun k hk _ => h.block k hk (by simp)⟩
theorem Pk.grew_below {w w1 w2 : World} {v x : Value} (h : Ty.Grew w w1 v x) (g : Below w1.heap.size w1 w2) : Ty.Grew w w2 v x :=
  h.trans ⟨⟨g.os, g.tape, g.output, g.size, fun k hk _ => g.block k hk⟩, .inl rfl⟩
set_option maxHeartbeats 1000000 in
set_option maxRecDepth 100000 in
theorem Pk.append_c (base : Nat) (v : Value) (bs : List UInt8) (u : Value) (n : Nat) (X : Nat → Nat) (w : World) (hown : Ty.Buf base w v bs) (hb : base ≤ w.heap.size)
    (hl : Bt.Sl w u n (Bt.nv X)) (hX : ∀ i, X i < 2 ^ 64) (hn : n ≤ 65536) (hlen : bs.length ≤ 100000000) :
    Calls Tryz.prog 114 #[v, u] w (Ty.Written base w v (bs ++ Pk.enc n X)) := by
  have hq : Bt.wid n X ≤ 64 := Bt.wid_64 hX
  have cW := Bt.width_c u n X w hl hX (by omega)
  have cP := Bt.pack_ok u n X (Bt.wid n X) w hl hX (by omega) hq (Nat.le_refl _)
  have hE : Pk.enc n X = UInt8.ofNat (Bt.wid n X) :: (Bt.bytes (Bt.need (n * Bt.wid n X)) (Bt.pk n X (Bt.wid n X))).data.toList := rfl
  have hnd : Bt.need (n * Bt.wid n X) ≤ 524288 := by
    have := Bt.mul_le n (Bt.wid n X) hq
    unfold Bt.need; omega
  have hSl : (Bt.bytes (Bt.need (n * Bt.wid n X)) (Bt.pk n X (Bt.wid n X))).data.toList.length ≤ 524288 := by rw [Pk.len_bytes]; exact hnd
  generalize Bt.bytes (Bt.need (n * Bt.wid n X)) (Bt.pk n X (Bt.wid n X)) = S at hE cP hSl
  clear hnd
  generalize Bt.wid n X = q at hE cP cW hq
  rw [hE]
  have HSL : Hid (S.size ≤ 524288) := Lib.hid (by rw [← Bt.length_data]; exact hSl)
  have H0 := Lib.hid hown
  clear hE hSl hown hl hX
  go_enter Tryz.func114, Tryz.ntmps114
  go_wp2_with fail
  refine cW.mono ?_
  rintro e w1 ⟨rfl, rfl⟩
  clear cW
  go_wp2_with fail
  refine cP.mono ?_
  rintro e w2 ⟨rfl, g2⟩
  have hown2 := Ty.Buf.later H0.out g2
  have hs2 := g2.size
  have HG2 := Lib.hid g2
  clear cP g2
  go_wp2_with (first
    | (at_builtin; refine Ty.wpList_append_byte hown2 (by omega) (by omega) (.tmp 16) (.tmp 19) _ rfl rfl rfl rfl ?_; intro v5 w5 h5 g5)
    | (at_builtin; refine Ty.wpList_append_text (h5 (UInt8.ofNat q) (by rw [Ty.toNat_ofNat8 q (by omega)])) (by have := g5.by_.size; omega) (by have := HSL.out; simp only [List.length_append, List.length_singleton]; omega) (.tmp 20) (.tmp 21) rfl rfl rfl rfl ?_; intro v6 w6 h6 g6))
  have H6 := Lib.hid h6
  have HG6 := Lib.hid g6
  have HG5 := Lib.hid g5
  clear h6 g6 h5 g5
  go_ret
  exact ⟨_, rfl, by have := H6.out; simpa using this, (Pk.grew_below (Ty.Grew.refl _ _) HG2.out).trans (HG5.out.trans HG6.out)⟩
/-- A byte of a list as a cell. -/
def Pk.bv (l : List UInt8) (i : Nat) : Value := .int .u8 (((l.getD i 0).toNat : Nat) : Int)
set_option maxRecDepth 100000 in
theorem Pk.row_string {w : World} {g m c : Nat} {l : List UInt8} (h : w.rowIs g 5 m (Pk.bv l)) (hm : m ≤ l.length) : (convert 47 9 (.slice (some ⟨g, 0, none⟩) m c)).run Tryz.prog w = .ok (.string (Ty.S (l.take m))) w := by
  have hlen : (l.take m).length = m := by rw [List.length_take]; omega
  have := run_convert_bytes_arg (P := Tryz.prog) w 47 _ Tryz.underlying47 Tryz.underlying5 g 0 m c ((l.take m).map fun u => (u.toNat : Int)) (by simp; omega) (fun i hi => by
    have hc := h.cell hi
    have ea : (⟨g, 0 + i, none⟩ : Addr) = ⟨g, i, none⟩ := by rw [Nat.zero_add]
    rw [ea, hc]
    unfold Pk.bv
    have h2 : i < l.length := by omega
    simp [List.getD, hi, h2]) 9 Tryz.underlying9
  rw [this]
  have e : strOfNums ((l.take m).map fun u => (u.toNat : Int)) = Ty.S (l.take m) := by
    unfold strOfNums Ty.S
    congr 1
    rw [List.map_map]
    congr 1
    conv => rhs; rw [← List.map_id (l.take m)]
    apply List.map_congr_left
    intro u _
    simp
  rw [e]
theorem Pk.drop_step {l : List UInt8} {k : Nat} (h : k < l.length) : l.drop k = l.getD k 0 :: l.drop (k + 1) := by
  rw [List.drop_eq_getElem_cons h, List.getD, List.getElem?_eq_getElem h]
  rfl
theorem Pk.cbyte_m (b : Nat) (x : UInt8) (r : List UInt8) (w : World) (h : Ty.Cur b w (x :: r) 0) (hl : (x :: r).length ≤ 9223372036854775807) :
    Calls Tryz.prog 68 #[.pointer (some ⟨b, 0, none⟩)] w (Ty.Left b w (.int .i64 ((x.toNat : Nat) : Int)) r 0) := Ty.cbyte_c b (x :: r) 0 w h hl
theorem Pk.row_by {w w' : World} {g b n : Nat} {t : TypeId} {f : Nat → Value} (h : w.rowIs g t n f) (hg : w.grownBy w' (some b)) (hne : g ≠ b) : w'.rowIs g t n f :=
  h.of_block (hg.block g h.lt (fun e => hne (Option.some.inj e)))
set_option maxHeartbeats 1000000 in
set_option maxRecDepth 100000 in
theorem Pk.take_c (b m : Nat) (l : List UInt8) (w : World) (h : Ty.Cur b w l 0) (hl : l.length ≤ 140737488355328) (hm : m ≤ l.length) :
    Calls Tryz.prog 137 #[.pointer (some ⟨b, 0, none⟩), .int .i64 m] w (Ty.Left b w (.string (Ty.S (l.take m))) (l.drop m) 0) := by
  have hbw := h.lt
  have hmk := run_make_row' (P := Tryz.prog) 47 5 (.int .u8 0) 1 Tryz.underlying47 Bt.info8 rfl .i64 .i64 m (by omega) (by omega)
  have HM : Hid (m ≤ l.length ∧ l.length ≤ 140737488355328) := Lib.hid ⟨hm, hl⟩
  have hmb : m ≤ 140737488355328 := by omega
  have H0 := Lib.hid h
  clear hm hl h
  go_enter Tryz.func137, Tryz.ntmps137
  go_wp2_with fail
  have hR : (w.alloc (.cells (madeCells #[.int .u8 0] m) 5)).rowIs w.heap.size 5 m (Bt.upTo 0 (Pk.bv l) (.int .u8 0)) := (World.rowIs_made w (.int .u8 0) m 5).congr fun i _ => by unfold Bt.upTo; rw [if_neg (by omega)]
  have hB : w.grownBy (w.alloc (.cells (madeCells #[.int .u8 0] m) 5)) none := World.grownBy_alloc _ _ _
  generalize w.alloc (.cells (madeCells #[.int .u8 0] m) 5) = w2 at hR hB ⊢
  have hc2 := H0.out.none_ hB
  have hb2 := Pk.by_some hB b
  have hne : b ≠ w.heap.size := by omega
  clear hmk hB
  generalize hg : w.heap.size = g at hR hne
  have HGE := Lib.hid hg
  clear hg
  go_loopw [11] (fun i wr => ∃ k : Nat, k ≤ m ∧ i = .int .i64 k ∧ wr.rowIs g 5 m (Bt.upTo k (Pk.bv l) (.int .u8 0)) ∧ Ty.Cur b wr (l.drop k) 0 ∧ w.grownBy wr (some b)) (fun i _ => m - (intOf i).toNat)
  case atStart => exact ⟨0, by omega, rfl, hR, hc2, hb2⟩
  case round =>
    obtain ⟨k, hk, rfl, hRk, hck, hgk⟩ := hrel
    have HR := Lib.hid hRk
    have HC := Lib.hid hck
    have HG := Lib.hid hgk
    clear hR hc2 hb2 hRk hck hgk
    by_cases hl2 : k < m
    · have hkl : (k : Int) < (m : Int) := by omega
      have hk0 : (0 : Int) ≤ (k : Int) := by omega
      have hc0 := HC.out
      rw [Pk.drop_step (by have := HM.out.1; omega)] at hc0
      have cb := Pk.cbyte_m b _ _ wr hc0 (by have := HM.out.2; rw [List.length_cons, List.length_drop]; omega)
      have HX : Hid (Pk.bv l k = .int .u8 (((l.getD k 0).toNat : Nat) : Int)) := Lib.hid rfl
      have hx8 := (l.getD k 0).toNat_lt
      generalize (l.getD k 0).toNat = x at cb HX hx8
      clear hc0
      go_wp2_with fail
      refine cb.mono ?_
      rintro e w3 ⟨rfl, hc3, hg3⟩
      have HR3 := Lib.hid (Pk.row_by HR.out hg3 (fun e => hne e.symm))
      have HC3 := Lib.hid hc3
      have HG3 := Lib.hid (Ty.by_trans HG.out hg3)
      have hf := HR3.out.frozen k
      have hcl := HR3.out.cell hl2
      clear cb hc3 hg3
      go_wp2
      go_roundw
      case rel =>
        refine ⟨k + 1, by omega, by simp, Bt.upTo_next HR3.out (by rw [HX.out]), ?_, ?_⟩
        · have := HC3.out
          unfold Ty.Cur at this ⊢
          exact (Below.heap_setCell _ _ _ _ (by show b ≠ g; exact hne)).trans this
        · have hge := HGE.out
          exact ⟨HG3.out.os, HG3.out.tape, HG3.out.output, by have := HG3.out.size; simpa [World.setCell] using this, fun j hj hn => (Below.heap_setCell _ _ _ _ (by show j ≠ g; omega)).trans (HG3.out.block j hj hn)⟩
      case measure => simp [intOf]; omega
    · obtain rfl : k = m := by omega
      have hkl : ¬ (k : Int) < (k : Int) := by omega
      have hs := Pk.row_string (c := k) (l := l) (HR.out.congr fun i hi => by unfold Bt.upTo; rw [if_pos hi]) (by have := HM.out.1; omega)
      go_wp2
      go_ret
      exact ⟨rfl, HC.out, HG.out⟩
theorem Pk.sl_kept {w w' : World} {g n m c : Nat} {f : Nat → Value} (h : Bt.Sl w (.slice (some ⟨g, 0, none⟩) m c) n f) (hb : w'.heap[g]? = w.heap[g]?) (hs : w.heap.size ≤ w'.heap.size) : Bt.Sl w' (.slice (some ⟨g, 0, none⟩) m c) n f := by
  obtain ⟨a, c', e, h⟩ := h
  refine ⟨a, c', e, ?_⟩
  simp only [Value.slice.injEq] at e
  rcases h with h | ⟨b, o, ea, hlt, h⟩
  · exact .inl h
  · have ea2 := e.1.trans ea
    simp only [Option.some.injEq, Addr.mk.injEq, and_true] at ea2
    obtain ⟨rfl, rfl⟩ := ea2
    refine .inr ⟨_, _, ea, by omega, fun i hi => ?_⟩
    rw [← h i hi]
    unfold World.cell?
    simp only [hb]
/-- What Read leaves. -/
def Pk.Rd (b n : Nat) (w : World) (l : List UInt8) (e : Ending) (w' : World) : Prop :=
  ∃ v, e = .returned (.tuple #[v, .int .i64 ((Pk.err n l : Nat) : Int)]) ∧ (Pk.err n l = 0 → Bt.Sl w' v n (Bt.nv (Pk.X n l)) ∧ Ty.Cur b w' (Pk.rest n l) 0) ∧ (Pk.err n l ≠ 0 → v = .slice none 0 0) ∧ w.grownBy w' (some b)
theorem Pk.Rd.bad {b n q : Nat} {w w' : World} {l : List UInt8} {z : Int} (hr : Pk.err n l = q) (hz : z = (q : Int)) (h : q ≠ 0) (g : w.grownBy w' (some b)) : Pk.Rd b n w l (.returned (.tuple #[.slice none 0 0, .int .i64 z])) w' :=
  ⟨_, by rw [hz, hr], fun e => absurd (hr.symm.trans e) h, fun _ => rfl, g⟩
theorem Pk.below_by {w w' w0 : World} (h : Below w.heap.size w w') {b : Nat} (g : w0.grownBy w (some b)) : w0.grownBy w' (some b) :=
  ⟨h.os.trans g.os, h.tape.trans g.tape, h.output.trans g.output, Nat.le_trans g.size h.size, fun k hk hn => (h.block k (Nat.lt_of_lt_of_le hk g.size)).trans (g.block k hk hn)⟩
theorem Pk.need_is {n q m : Nat} (h : n * q = m) : ((m : Int) + 7) / 8 = ((Bt.need (n * q) : Nat) : Int) := by
  rw [h]
  unfold Bt.need
  omega
set_option maxHeartbeats 1000000 in
set_option maxRecDepth 100000 in
/-- A cursor that is in error stays so. -/
theorem Pk.read_bad (b n q : Nat) (l : List UInt8) (w : World) (h : Ty.Cur b w l q) (hq : q ≠ 0) (hl : l.length ≤ 9223372036854775807) :
    Calls Tryz.prog 120 #[.pointer (some ⟨b, 0, none⟩), .int .i64 n] w fun e w' => e = .returned (.tuple #[.slice none 0 0, .int .i64 (q : Int)]) ∧ w.grownBy w' (some b) := by
  have cb := Ty.cbyte_c b l q w h hl
  have e1 : Ty.rdB l q = (0, l, q) := by unfold Ty.rdB; rw [if_pos hq]
  rw [e1] at cb
  have hne : ((q : Int) != 0) = true := by rw [bne_iff_ne]; omega
  clear e1 h hq
  go_enter Tryz.func120, Tryz.ntmps120
  go_wp2_with fail
  refine cb.mono ?_
  rintro e w4 ⟨rfl, hc4, hg4⟩
  have HC4 := Lib.hid hc4
  have HG4 := Lib.hid hg4
  clear cb hc4 hg4
  go_wp2_with fail
  refine (Ty.err_c b _ q _ HC4.out).mono ?_
  rintro e w5 ⟨rfl, rfl⟩
  go_wp2_with fail
  refine (Ty.err_c b _ q _ HC4.out).mono ?_
  rintro e w5 ⟨rfl, rfl⟩
  go_wp2
  go_ret2
  exact ⟨rfl, HG4.out⟩
set_option maxHeartbeats 2000000 in
set_option maxRecDepth 100000 in
theorem Pk.read_c (b n : Nat) (l : List UInt8) (w : World) (h : Ty.Cur b w l 0) (hl : l.length ≤ 140737488355328) (hn : n ≤ 65536) :
    Calls Tryz.prog 120 #[.pointer (some ⟨b, 0, none⟩), .int .i64 n] w (Pk.Rd b n w l) := by
  have hbw := h.lt
  cases l with
  | nil =>
    have cb := Ty.cbyte_c b [] 0 w h (by simp)
    have e1 : Ty.rdB [] 0 = (0, [], 2) := rfl
    rw [e1] at cb
    clear e1 h
    go_enter Tryz.func120, Tryz.ntmps120
    go_wp2_with fail
    refine cb.mono ?_
    rintro e w4 ⟨rfl, hc4, hg4⟩
    have HC4 := Lib.hid hc4
    have HG4 := Lib.hid hg4
    clear cb hc4 hg4
    go_wp2_with fail
    refine (Ty.err_c b _ 2 _ HC4.out).mono ?_
    rintro e w5 ⟨rfl, rfl⟩
    go_wp2_with fail
    refine (Ty.err_c b _ 2 _ HC4.out).mono ?_
    rintro e w5 ⟨rfl, rfl⟩
    go_wp2
    go_ret2
    exact Pk.Rd.bad Pk.err1 rfl (by decide) HG4.out
  | cons x r =>
    have cb := Pk.cbyte_m b x r w h (by omega)
    have hrl : r.length ≤ 140737488355328 := by rw [List.length_cons] at hl; omega
    have F2 := Lib.hid (fun h => Pk.err2 (n := n) (r := r) (x := x) h)
    have F3 := Lib.hid (fun h h2 => Pk.err3 (n := n) (r := r) (x := x) h h2)
    have F4 := Lib.hid (fun h h2 h3 => Pk.err4 (n := n) (r := r) (x := x) h h2 h3)
    have F5 := Lib.hid (fun h h2 h3 h4 => Pk.err5 (n := n) (r := r) (x := x) h h2 h3 h4)
    have F6 := Lib.hid (fun h h2 h3 h4 => Pk.err6 (n := n) (r := r) (x := x) h h2 h3 h4)
    have HX : Hid (Pk.X n (x :: r) = Bt.nums (Ty.S (r.take (Bt.need (n * x.toNat)))) x.toNat) := Lib.hid rfl
    have HR : Hid (Pk.rest n (x :: r) = r.drop (Bt.need (n * x.toNat))) := Lib.hid rfl
    have hx8 := x.toNat_lt
    obtain ⟨L0, hL0⟩ : ∃ L0, L0 = x :: r := ⟨_, rfl⟩
    rw [← hL0] at F2 F3 F4 F5 F6 HX HR ⊢
    obtain ⟨q, hq⟩ : ∃ q, q = x.toNat := ⟨_, rfl⟩
    rw [← hq] at F2 F3 F4 F5 F6 HX HR cb hx8
    clear hL0 hq h hl
    by_cases h64 : 64 < q
    · have h64i : (64 : Int) < (q : Int) := by omega
      have HB := Lib.hid (F2.out h64)
      clear F2 F3 F4 F5 F6 HX HR h64
      go_enter Tryz.func120, Tryz.ntmps120
      go_wp2_with fail
      refine cb.mono ?_
      rintro e w4 ⟨rfl, hc4, hg4⟩
      have HC4 := Lib.hid hc4
      have HG4 := Lib.hid hg4
      clear cb hc4 hg4
      go_wp2_with fail
      refine (Ty.err_c b _ 0 _ HC4.out).mono ?_
      rintro e w5 ⟨rfl, rfl⟩
      go_wp2
      go_ret2
      exact Pk.Rd.bad HB.out rfl (by decide) HG4.out
    · have hmul := Bt.mul_le n q (by omega)
      obtain ⟨m, hm⟩ : ∃ m, n * q = m := ⟨_, rfl⟩
      have hmi : (n : Int) * (q : Int) = (m : Int) := by rw [← hm]; simp
      have hmm : m ≤ 4194304 := by omega
      have hd := Pk.need_is hm
      obtain ⟨sz, hsz⟩ : ∃ sz, sz = Bt.need (n * q) := ⟨_, rfl⟩
      have hsz2 : sz ≤ 524289 := by rw [hsz, hm]; unfold Bt.need; omega
      have hq64i : ¬ (64 : Int) < (q : Int) := by omega
      rw [← hsz] at hd F3 F4 F5 F6 HX HR
      by_cases hs : r.length < sz
      · have hsi : (r.length : Int) < (sz : Int) := by omega
        have HB := Lib.hid (F3.out h64 hs)
        clear F2 F3 F4 F5 F6 HX HR h64 hs hsz hm hmul
        go_enter Tryz.func120, Tryz.ntmps120
        go_wp2_with fail
        refine cb.mono ?_
        rintro e w4 ⟨rfl, hc4, hg4⟩
        have HC4 := Lib.hid hc4
        have HG4 := Lib.hid hg4
        clear cb hc4 hg4
        go_wp2_with fail
        refine (Ty.err_c b _ 0 _ HC4.out).mono ?_
        rintro e w5 ⟨rfl, rfl⟩
        go_wp2_with fail
        refine (Ty.left_c b _ 0 _ HC4.out).mono ?_
        rintro e w6 ⟨rfl, rfl⟩
        go_wp2
        go_ret2
        exact Pk.Rd.bad HB.out rfl (by decide) HG4.out
      · have hsi : ¬ (r.length : Int) < (sz : Int) := by omega
        have ct := fun wz (hc : Ty.Cur b wz r 0) => Pk.take_c b sz r wz hc hrl (by omega)
        have hts : (Ty.S (r.take sz)).size ≤ 140737488355328 := by rw [Ty.size_S, List.length_take]; omega
        have cun := fun wz => Bt.unpack_c (Ty.S (r.take sz)) (n : Int) (q : Int) wz hts
        have e3 : Bt.upE (Ty.S (r.take sz)) (n : Int) (q : Int) = Bt.chk (Ty.S (r.take sz)) (n * q) := by unfold Bt.upE; rw [if_pos ⟨by omega, by omega⟩]; rfl
        have e4 : Bt.upN (Ty.S (r.take sz)) (n : Int) (q : Int) = if Bt.chk (Ty.S (r.take sz)) (n * q) = 0 then n else 0 := by unfold Bt.upN; rw [e3]; rfl
        rw [e3, e4, Int.toNat_natCast] at cun
        have G4 := Lib.hid (F4.out h64 hs)
        have G5 := Lib.hid (F5.out h64 hs)
        have G6 := Lib.hid (F6.out h64 hs)
        have HQ : Hid (q ≤ 64) := Lib.hid (by omega)
        have hX : ∀ i, Bt.nums (Ty.S (r.take sz)) q i < 2 ^ 64 := fun i => Nat.lt_of_lt_of_le (Bt.num_lt q _) (Nat.pow_le_pow_right (by decide) HQ.out)
        clear e3 e4 hts F2 F3 F4 F5 F6 h64 hs hsz hmul
        generalize Ty.S (r.take sz) = s at ct cun G4 G5 G6 HX hX
        generalize r.drop sz = l9 at ct HR
        generalize Bt.nums s q = X at cun G5 G6 HX hX
        generalize Bt.chk s (n * q) = C at cun G4 G5 G6
        have HXL := Lib.hid hX
        clear hm hX
        go_enter Tryz.func120, Tryz.ntmps120
        go_wp2_with fail
        refine cb.mono ?_
        rintro e w4 ⟨rfl, hc4, hg4⟩
        have HC4 := Lib.hid hc4
        have HG4 := Lib.hid hg4
        clear cb hc4 hg4
        go_wp2_with fail
        refine (Ty.err_c b _ 0 _ HC4.out).mono ?_
        rintro e w5 ⟨rfl, rfl⟩
        go_wp2_with fail
        refine (Ty.left_c b _ 0 _ HC4.out).mono ?_
        rintro e w6 ⟨rfl, rfl⟩
        have ct4 := ct _ HC4.out
        clear ct
        go_wp2_with fail
        refine ct4.mono ?_
        rintro e w7 ⟨rfl, hc7, hg7⟩
        have HC7 := Lib.hid hc7
        have HG7 := Lib.hid (Ty.by_trans HG4.out hg7)
        clear ct4 hc7 hg7 HC4 HG4
        by_cases hck : C = 0
        · subst hck
          rw [if_pos rfl] at cun
          simp only [Int.natCast_zero] at cun
          go_wp2_with fail
          refine (cun _).mono ?_
          rintro e w8 ⟨vd, rfl, hS8, g8⟩
          have HG8 := Lib.hid (Pk.below_by g8 HG7.out)
          have HC8 := Lib.hid (HC7.out.below g8 (by have := HG7.out.size; omega))
          have HS8 := Lib.hid hS8
          have cwd := Bt.width_c _ n X w8 hS8 HXL.out (by omega)
          clear cun g8 HC7 HG7
          obtain ⟨a8, c8, rfl, h8⟩ := hS8
          clear h8
          by_cases hlt : Bt.wid n X < q
          · have hlti : ((Bt.wid n X : Nat) : Int) < (q : Int) := by omega
            have HB := Lib.hid (G5.out (by trivial) hlt)
            generalize Bt.wid n X = z at cwd hlti
            clear hlt
            go_wp2_with fail
            refine cwd.mono ?_
            rintro e w10 ⟨rfl, rfl⟩
            go_wp2
            go_ret2
            exact Pk.Rd.bad HB.out rfl (by decide) HG8.out
          · have hlti : ¬ ((Bt.wid n X : Nat) : Int) < (q : Int) := by omega
            have HB := Lib.hid (G6.out (by trivial) hlt)
            generalize Bt.wid n X = z at cwd hlti
            clear hlt
            go_wp2_with fail
            refine cwd.mono ?_
            rintro e w10 ⟨rfl, rfl⟩
            go_wp2
            go_ret2
            exact ⟨_, by rw [HB.out]; rfl, fun _ => ⟨by rw [HX.out]; exact HS8.out, by rw [HR.out]; exact HC8.out⟩, fun e => absurd HB.out e, HG8.out⟩
        · rw [if_neg hck] at cun
          have HB := Lib.hid (G4.out hck)
          have hCi : ((C : Int) != 0) = true := by rw [bne_iff_ne]; omega
          have HC := Lib.hid hck
          clear hck
          go_wp2_with fail
          refine (cun _).mono ?_
          rintro e w8 ⟨vd, rfl, hS8, g8⟩
          have HG8 := Lib.hid (Pk.below_by g8 HG7.out)
          clear cun g8 HC7 HG7 hS8
          go_wp2
          go_ret2
          exact Pk.Rd.bad HB.out rfl HC.out HG8.out
end Go.Proofs.YtcognkgabdaneaaGreatDoor
