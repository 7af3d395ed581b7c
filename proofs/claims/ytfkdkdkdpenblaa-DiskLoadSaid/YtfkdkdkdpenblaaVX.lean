/-
  The developers' disk: the used bytes of a directory; what is to be kept; a file cut.
  The developers' disk: what is to be kept of a file; a file cut.
  The developers' disk: a map copied; a round of Crash, its end.
-/
import Derived.Test.YtfkdkdkdpenblaaVW
import Derived.Laws.IdiomRangeMap
import Derived.Test.YtfkdkdkdpenblaaZP
namespace Go.Proofs.Ytfkdkdkdpenblaa
open Go.RowKit Go.Maps
/-- The bytes of those files whose names are P. -/
def Dk.hs (fs : List (Dk.Str × Nat)) (l : Dk.Dir) (P : Dk.Str → Bool) : Nat := (l.map fun y => if P y.1 = true then (Dk.file fs y.2).1.length else 0).sum
theorem Dk.hs_cons (fs : List (Dk.Str × Nat)) (a : Dk.Str × Nat) (l : Dk.Dir) (P : Dk.Str → Bool) : Dk.hs fs (a :: l) P = (if P a.1 = true then (Dk.file fs a.2).1.length else 0) + Dk.hs fs l P := by
  unfold Dk.hs
  rw [List.map_cons, List.sum_cons]
theorem Dk.hs_all (fs : List (Dk.Str × Nat)) (P : Dk.Str → Bool) : ∀ l : Dk.Dir, (∀ y ∈ l, P y.1 = true) → Dk.hs fs l P = Dk.heldL fs l
  | [], _ => rfl
  | a :: l, h => by
    rw [Dk.hs_cons, Dk.heldL_cons, if_pos (h a List.mem_cons_self), Dk.hs_all fs P l fun y hy => h y (List.mem_cons_of_mem _ hy)]
theorem Dk.hs_none (fs : List (Dk.Str × Nat)) (P : Dk.Str → Bool) : ∀ l : Dk.Dir, (∀ y ∈ l, P y.1 = false) → Dk.hs fs l P = 0
  | [], _ => rfl
  | a :: l, h => by
    rw [Dk.hs_cons, if_neg (by rw [h a List.mem_cons_self]; decide), Dk.hs_none fs P l fun y hy => h y (List.mem_cons_of_mem _ hy)]
theorem Dk.hs_le (fs : List (Dk.Str × Nat)) (P : Dk.Str → Bool) : ∀ l : Dk.Dir, Dk.hs fs l P ≤ Dk.heldL fs l
  | [] => Nat.le_refl _
  | a :: l => by
    have := Dk.hs_le fs P l
    rw [Dk.hs_cons, Dk.heldL_cons]
    split <;> omega
theorem Dk.hs_congr (fs : List (Dk.Str × Nat)) {P P' : Dk.Str → Bool} : ∀ l : Dk.Dir, (∀ y ∈ l, P y.1 = P' y.1) → Dk.hs fs l P = Dk.hs fs l P'
  | [], _ => rfl
  | a :: l, h => by
    rw [Dk.hs_cons, Dk.hs_cons, h a List.mem_cons_self, Dk.hs_congr fs l fun y hy => h y (List.mem_cons_of_mem _ hy)]
theorem Dk.hs_step (fs : List (Dk.Str × Nat)) {P P' : Dk.Str → Bool} {s : Dk.Str} {f : Nat} (hp : P s = false) (hp' : P' s = true) (ho : ∀ t, t ≠ s → P' t = P t) : ∀ {l : Dk.Dir}, Dk.Asc l → (s, f) ∈ l → Dk.hs fs l P' = Dk.hs fs l P + (Dk.file fs f).1.length
  | [], _, h => by cases h
  | a :: l, ha, h => by
    rw [Dk.Asc, List.pairwise_cons] at ha
    rw [Dk.hs_cons, Dk.hs_cons]
    rcases List.mem_cons.1 h with e | h
    · subst e
      have := Dk.hs_congr fs (P := P') (P' := P) l fun y hy => ho y.1 fun e => Dk.lt_ne (ha.1 y hy) e.symm
      rw [this, if_pos hp', if_neg (by rw [hp]; decide)]
      simp only
      omega
    · have hne : a.1 ≠ s := Dk.lt_ne (ha.1 (s, f) h)
      rw [ho a.1 hne, Dk.hs_step fs hp hp' ho ha.2 h]
      omega
def Dk.mkV : Option Nat → Value
  | none => .pointer none
  | some b => .pointer (some ⟨b, 0, none⟩)
theorem Dk.mkV_inv (v : Value) (y : DataW Unit × List MemPlace) (h : Dk.ptrR v = some y) : ∃ c, v = Dk.mkV c := by
  unfold Dk.ptrR at h
  split at h
  · exact ⟨none, rfl⟩
  · next b => exact ⟨some b, rfl⟩
  · cases h
theorem Dk.mkV_reads (c : Option Nat) (b : Nat) (y : DataW Unit × List MemPlace) (h : Dk.ptrR (Dk.mkV c) = some y) (hy : y.1 = .lit (.int .i64 (b : Int))) : Dk.mkV c = .pointer (some ⟨b, 0, none⟩) := by
  obtain ⟨y1, y2⟩ := y
  simp only at hy
  subst hy
  exact Dk.ptrR_some h
theorem Dk.Rds.at_ {q : Nat → Nat} {D : DataW Unit} {l : Dk.Dir} (h : Dk.Rds q D l) {s : Dk.Str} {y : DataW Unit} (hy : ∀ z, D.atKey (.string s) z = y) : ∃ f, Dk.look l s = some f ∧ y = .lit (.int .i64 (q f : Int)) := by
  cases hl : Dk.look l s with
  | none =>
    have h1 := hy (.lit (.bool false))
    have h2 := hy (.lit (.bool true))
    rw [h s, hl] at h1 h2
    simp only at h1 h2
    rw [← h1] at h2
    simp at h2
  | some f =>
    have h1 := hy (.lit (.bool false))
    rw [h s, hl] at h1
    exact ⟨f, rfl, h1.symm⟩
set_option maxHeartbeats 4000000 in
set_option maxRecDepth 100000 in
theorem Dk.pused_c {m : Bool} {S : Nat → Prop} {w : World} {q : Nat → Nat} {vb : Nat → Value} {fs : List (Dk.Str × Nat)} {v : Value} {l : Dk.Dir} (h : Dk.PF m S w q vb fs) (hS : ∀ b, S b → b < w.heap.size) (hd : Dk.PD w q v l) (hl : Dk.Well fs.length l) (hb : Dk.heldL fs l ≤ 1000000000000000) :
    Calls Try.prog 54 #[v] w fun e w' => e = .returned (.int .i64 ((Dk.heldL fs l : Nat) : Int)) ∧ Below w.heap.size w w' := by
  rcases hd with ⟨rfl, rfl⟩ | ⟨b, rfl, hm⟩
  · have hrg := run_range_nilMap (P := Try.prog) w 57 _ _ Try.underlying57
    have hnx : ∀ ty, (Instr.next (.pointer (some ⟨w.heap.size, 0, none⟩)) false ty).run Try.prog (w.alloc (.mapIter none 0 #[] 0)) = _ := fun ty => run_next_nilMap w ty 0 0 #[]
    clear h hS hl hb
    go_enter Try.func54, Try.ntmps54
    go_wp2
    refine wp_loop_rounds 1 ?_
    rw [rounds_succ]
    go_wp2
    go_ret
    exact ⟨rfl, (Below.refl _ w).alloc (Nat.le_refl _) _⟩
  · obtain ⟨D, hown, hr, _, _⟩ := hm.keys hl.asc
    have HF : Hid (∀ wr s f, Below w.heap.size w wr → Dk.look l s = some f → ∃ a c, wr.cell? ⟨q f, 0, none⟩ = some (.slice a (Dk.file fs f).1.length c)) := Lib.hid fun wr s f g hlk => by
      have hlt := hl.lim _ ((Dk.look_some hl.asc).1 hlk)
      have h2 := h.same (w' := wr) fun k hk => g.block k (hS k hk)
      obtain ⟨a, c, hv, _⟩ := (h2.bytes f hlt).is
      exact ⟨a, c, by rw [(h2.cells hlt).1, hv]⟩
    have HR := Lib.hid hr
    have HA := Lib.hid hl.asc
    have HBD := Lib.hid hb
    have H0 : Hid (Dk.hs fs l (fun s => !Maps.has D (.string s)) = 0) := Lib.hid (Dk.hs_none _ _ _ fun y hy => by
      rw [hr.has, (Dk.look_isSome hl.asc y.1).2 (List.mem_map.2 ⟨y, hy, rfl⟩)]; rfl)
    have HEND : Hid (∀ left : Lit → Bool, (∀ kl, left kl = false) → Dk.hs fs l (fun s => !left (.string s)) = Dk.heldL fs l) := Lib.hid fun left h => Dk.hs_all _ _ _ fun y _ => by rw [h]; rfl
    have HSTEP : Hid (∀ (left : Lit → Bool) (s : Dk.Str) (f : Nat), left (.string s) = true → Dk.look l s = some f → Dk.hs fs l (fun t => !(left (.string t) && !(Lit.string t).sameKey (.string s))) = Dk.hs fs l (fun t => !left (.string t)) + (Dk.file fs f).1.length ∧
        Dk.hs fs l (fun t => !left (.string t)) + (Dk.file fs f).1.length ≤ 1000000000000000) := Lib.hid fun left s f hlf hlk => by
      have e := Dk.hs_step fs (P := fun t => !left (.string t)) (P' := fun t => !(left (.string t) && !(Lit.string t).sameKey (.string s))) (s := s) (f := f) (by simp [hlf]) (by simp [Lit.sameKey]) (fun t ht => by
        have : (Lit.string t).sameKey (.string s) = false := Maps.sameKey_ne (Dk.str_ne ht)
        simp [this]) HA.out ((Dk.look_some HA.out).1 hlk)
      refine ⟨e, ?_⟩
      have := Dk.hs_le fs (fun t => !(left (.string t) && !(Lit.string t).sameKey (.string s))) l
      have := HBD.out
      omega
    clear h hS hm hl hb hr
    go_enter Try.func54, Try.ntmps54
    go_wp2_with (first
      | (at_range; refine wpList_range_own _ rfl _ 57 rfl 9 72 Dk.keyed Try.underlying57 _ b l.length _ rfl hown ?_; intro w0 hrg0 hg0 hs0)
      | go_in)
    go_frame
    go_loopw [3, 5] (fun nv _ wr => ∃ (left : Lit → Bool) (cnt : Nat), wr.ranges Try.prog 9 Dk.ptrR b w.heap.size l.length D left cnt ∧ nv = .int .i64 ((Dk.hs fs l (fun s => !left (.string s)) : Nat) : Int) ∧ Below w.heap.size w wr) (fun _ _ wr => wr.rangeLeft b w.heap.size)
    case atStart => exact ⟨_, _, hrg0, by rw [H0.out]; rfl, ⟨hg0.os, hg0.tape, hg0.output, hg0.size, fun k hk => hg0.block k hk (by simp)⟩⟩
    case round =>
      obtain ⟨left, cnt, hrg, rfl, hB⟩ := hrel
      have HB := Lib.hid hB
      clear hB
      go_wp2_with (first
        | (at_next; refine wpList_next_ranges _ rfl _ rfl 9 Dk.keyed Dk.ptrR encStr Dk.mkV (fun key kl hk => by obtain ⟨x, hx, _⟩ := Maps.keyOf_str Try.underlying9 hk; exact ⟨x, hx⟩) Dk.mkV_inv b w.heap.size l.length _ _ _ rfl hrg ?_ ?_)
        | go_in)
      · intro hc0 hl0
        have HE := Lib.hid (HEND.out left hl0)
        clear hc0 hl0 hrg
        go_wp2
        go_ret
        exact ⟨by rw [HE.out]; rfl, HB.out⟩
      · intro x c kl yd yp w1 cnt1 hkey hlk hv hat hrg1 hlt hg1 hs1 hen
        obtain ⟨x', ex, rfl, _⟩ := Maps.keyOf_str Try.underlying9 hkey
        obtain rfl : x = x' := encStr_inj ex
        obtain ⟨f, hlf, hyf⟩ := HR.out.at_ hat
        have hmk := Dk.mkV_reads c (q f) (yd, yp) hv hyf
        rw [hmk] at hen ⊢
        have HB1 : Hid (Below w.heap.size w w1) := Lib.hid (HB.out.grown hg1 HB.out.size (fun j hj => by cases hj; exact Nat.le_refl _))
        obtain ⟨av, cv, c0⟩ := HF.out w1 x f HB1.out hlf
        obtain ⟨hst, hbd⟩ := HSTEP.out left x f hlk hlf
        have HST := Lib.hid hst
        have HLT := Lib.hid hlt
        have HRG := Lib.hid hrg1
        have HRG0 := Lib.hid hrg
        generalize (Dk.file fs f).1.length = z at c0 hbd HST
        generalize hsn : Dk.hs fs l (fun s => !left (.string s)) = sn at hbd HST ⊢
        have hw1 : IntKind.i64.wrap ((sn : Int) + (z : Int)) = (sn : Int) + (z : Int) := by rw [IntKind.wrap_i64]; omega
        clear hkey hlk hv hat hrg1 hlt hg1 hs1 ex hlf hyf hmk hst hbd hrg hsn
        go_wp2
        go_roundw
        case rel => exact ⟨_, cnt1, HRG.out, by rw [HST.out]; simp, HB1.out⟩
        case measure => rw [HRG.out.left_eq, HRG0.out.left_eq]; exact HLT.out
end Go.Proofs.Ytfkdkdkdpenblaa

namespace Go.Proofs.Ytfkdkdkdpenblaa
open Go.RowKit Go.Maps
/-- As Dk.Keep, of whatever length a slice may have. -/
def Dk.KeepL (S : Nat → Prop) (w : World) (vK : Value) (keep : List Int) : Prop :=
  ∃ a c, vK = .slice a keep.length c ∧ keep.length ≤ 140737488355328 ∧ (keep = [] ∨ ∃ b o, a = some ⟨b, o, none⟩ ∧ ¬ S b ∧ b < w.heap.size ∧ ∀ i, i < keep.length → w.cell? ⟨b, o + i, none⟩ = some (.int .i64 (Ig.nth keep i)))
theorem Dk.Keep.loose {S : Nat → Prop} {w : World} {vK : Value} {keep : List Int} (h : Dk.Keep S w vK keep) : Dk.KeepL S w vK keep := by
  obtain ⟨a, c, h1, h2, h3⟩ := h
  exact ⟨a, c, h1, by omega, h3⟩
theorem Dk.KeepL.of {S : Nat → Prop} {w : World} {vK : Value} {keep : List Int} {base : Nat} (h : Ig.At base w vK keep) (hS : ∀ b, S b → base ≤ b) (hl : keep.length ≤ 140737488355328) : Dk.KeepL S w vK keep := by
  obtain ⟨aK, cK, rfl, _, hB, hc⟩ := h
  refine ⟨aK, cK, rfl, hl, ?_⟩
  rcases hc with hc | ⟨b, o, rfl, hb, hc⟩
  · exact .inl hc
  · refine .inr ⟨b, o, rfl, fun hs => ?_, ?_, hc⟩
    · have := hS b hs
      omega
    · omega
/-- What keptOf answers. -/
def Dk.keptV (keep : List Int) (i : Nat) : Int := if keep = [] then 0 else Ig.nth keep (i % keep.length)
theorem Dk.keptV_max (keep : List Int) (i : Nat) : Dk.keepAt keep i = max (Dk.keptV keep i) 0 := by
  unfold Dk.keepAt Dk.keptV
  split
  · rfl
  · rfl
set_option maxHeartbeats 2000000 in
set_option maxRecDepth 100000 in
theorem Dk.kept_c {w : World} {aK : Option Addr} {cK : Nat} (keep : List Int) (i : Nat) (hi : i ≤ 1000000) (hl : keep.length ≤ 140737488355328) (h : keep = [] ∨ ∃ b o, aK = some ⟨b, o, none⟩ ∧ ∀ i, i < keep.length → w.cell? ⟨b, o + i, none⟩ = some (.int .i64 (Ig.nth keep i))) :
    Calls Try.prog 53 #[.slice aK keep.length cK, .int .i64 (i : Int)] w fun e w' => e = .returned (.int .i64 (Dk.keptV keep i)) ∧ w' = w := by
  by_cases hk : keep = []
  · have HE : Hid (Dk.keptV keep i = 0) := Lib.hid (by unfold Dk.keptV; rw [if_pos hk])
    have hz : keep.length = 0 := by rw [hk]; rfl
    rw [hz]
    clear h hk hl hz
    go_enter Try.func53, Try.ntmps53
    go_wp2
    go_ret
    exact ⟨by rw [HE.out]; rfl, rfl⟩
  · obtain ⟨b, o, rfl, hc⟩ : ∃ b o, aK = some ⟨b, o, none⟩ ∧ ∀ i, i < keep.length → w.cell? ⟨b, o + i, none⟩ = some (.int .i64 (Ig.nth keep i)) := by
      rcases h with h | h
      · exact absurd h hk
      · exact h
    obtain ⟨n, hn⟩ : ∃ n, n = keep.length := ⟨_, rfl⟩
    have hpos : 0 < n := by rw [hn]; exact List.length_pos_iff.2 hk
    have hm : i % n < n := Nat.mod_lt _ hpos
    obtain ⟨r, hr⟩ : ∃ r, r = i % n := ⟨_, rfl⟩
    have hc' := hc r (by rw [hr, ← hn]; exact hm)
    have HE : Hid (Dk.keptV keep i = Ig.nth keep r) := Lib.hid (by unfold Dk.keptV; rw [if_neg hk, hr, hn])
    have hrem : ((i : Int).tmod (n : Int)) = (r : Int) := by rw [hr, Int.tmod_eq_emod_of_nonneg (by omega)]; exact (Int.natCast_emod i n).symm
    have hr0 : (0 : Int) ≤ (r : Int) := by omega
    have hrn : (r : Int) < (n : Int) := by omega
    have hne : ((n : Int) == 0) = false := by rw [beq_eq_false_iff_ne]; omega
    have hn0 : ¬ (n : Int) = 0 := by omega
    have hwr : IntKind.i64.wrap (r : Int) = (r : Int) := by rw [IntKind.wrap_i64]; omega
    rw [← hn]
    generalize Ig.nth keep r = v at hc' HE
    clear h hk hl hc hn hpos hm hr hi
    go_enter Try.func53, Try.ntmps53
    go_wp2
    go_ret
    exact ⟨by rw [HE.out]; rfl, rfl⟩
section
variable {m : Bool} {S S' : Nat → Prop} {w w' : World} {p : Nat} {d d' : Dk.D} {H H' : Int} {q : Nat → Nat} {vb : Nat → Value} {vs : List Dk.Cls} {vN vD vP : Value} {ss rs : Bool} {sa ra : Int}
/-- With other files. -/
def Dk.filed (d : Dk.D) (fs : List (Dk.Str × Nat)) : Dk.D := { d with files := fs }
theorem Dk.PX.refile (h : Dk.PX m S w p d H q vb vs vN vD vP ss sa rs ra) {f : Nat} (hf : f < d.files.length) (v' : Value) (x : Dk.Str × Nat) (hc : w'.heap[q f]? = some (.cells #[v', .int .i64 (x.2 : Int)] 75 (0, 0))) (hb : Dk.PB m w' v' x.1)
    (hv : v'.ownBlock = none ∨ v'.ownBlock = (vb f).ownBlock) (hsz : w'.heap.size = w.heap.size) (ho : ∀ k, k ≠ q f → w'.heap[k]? = w.heap[k]?) :
    Dk.PX m S w' p (Dk.filed d (d.files.set f x)) H q (fun g => if g = f then v' else vb g) vs vN vD vP ss sa rs ra := by
  have hnf : ∀ (b : Nat) (cs : Array Value) (fr : Nat × Nat) (T : TypeId), T ≠ 75 → w.heap[b]? = some (.cells cs T fr) → b ≠ q f := fun b cs fr T hT hb e => by
    rw [e, h.files.cell f hf] at hb
    simp only [Option.some.injEq, Obj.cells.injEq] at hb
    exact hT hb.2.1.symm
  refine ⟨(ho p (hnf p _ _ _ (by decide) h.blk)).trans h.blk, ?_, h.dirs.other fun b es c _ hb => ho b (fun e => by rw [e, h.files.cell f hf] at hb; simp at hb), h.own.other fun b cs _ hb => ho b (hnf b _ _ _ (by decide) hb), h.ownS, ?_, h.stop, h.ref, h.mine, fun b hb => by rw [hsz]; exact h.alive b hb, h.made⟩
  · exact h.files.set (fun _ hb => hb) hf v' x hc hb (by rcases hv with e | e; exact .inl e; exact .inr (.inl e)) fun k cs T fr _ _ h1 _ => ho k h1
  · show Dk.PCs S w' q (d.files.set f x).length vs d.chg
    rw [List.length_set]
    refine h.chg.map fun _ _ hx => hx.other fun b cs T _ hb hT => ho b (hnf b cs (0, 0) T ?_ hb)
    rcases hT with rfl | rfl <;> decide
end
set_option maxHeartbeats 4000000 in
set_option maxRecDepth 100000 in
theorem Dk.pcut_c {m : Bool} {S : Nat → Prop} {w : World} {p : Nat} {d : Dk.D} {H : Int} {q : Nat → Nat} {vb : Nat → Value} {vs : List Dk.Cls} {vN vD vP : Value} {ss rs : Bool} {sa ra : Int} (h : Dk.PX m S w p d H q vb vs vN vD vP ss sa rs ra) {f : Nat} (hf : f < d.files.length) (hp : (Dk.file d.files f).2 ≤ (Dk.file d.files f).1.length) (hl : (Dk.file d.files f).1.length ≤ 1000000000000000) (kv : Int) :
    Calls Try.prog 52 #[.pointer (some ⟨q f, 0, none⟩), .int .i64 kv] w fun e w' => e = .returned (.tuple #[]) ∧ (∃ vb', Dk.PX m S w' p (Dk.filed d (Dk.cut d.files f (max kv 0))) H q vb' vs vN vD vP ss sa rs ra) ∧ Dk.Off S w w' ∧ w'.heap.size = w.heap.size := by
  obtain ⟨c0, c1, f0, f1⟩ := h.files.cells hf
  obtain ⟨a, c, hva, hlc⟩ := (h.files.bytes f hf).is
  obtain ⟨z, hz⟩ : ∃ z, z = (Dk.file d.files f).1.length := ⟨_, rfl⟩
  obtain ⟨u, hu⟩ : ∃ u, u = (Dk.file d.files f).2 := ⟨_, rfl⟩
  rw [← hz] at hl hva hlc hp
  rw [← hu] at c1 hp
  rw [hva] at c0
  have HR : Hid (∀ N : Nat, N = u + min (max kv 0).toNat (z - u) → ∀ w2, w2 = ((w.setCell ⟨q f, 0, none⟩ (.slice a N N)).setCell ⟨q f, 1, none⟩ (.int .i64 (N : Int))).drew →
      (∃ vb', Dk.PX m S w2 p (Dk.filed d (Dk.cut d.files f (max kv 0))) H q vb' vs vN vD vP ss sa rs ra) ∧ Dk.Off S w w2 ∧ w2.heap.size = w.heap.size) := Lib.hid fun N hN w2 hw2' => by
    have hw2 : w2 = (w.drew.setCell ⟨q f, 0, none⟩ (.slice a N N)).setCell ⟨q f, 1, none⟩ (.int .i64 (N : Int)) := hw2'.trans rfl
    have hNz : N ≤ z := by omega
    have hc2 : w2.heap[q f]? = some (.cells #[.slice a N N, .int .i64 (N : Int)] 75 (0, 0)) := by
      rw [hw2]
      have e1 := heap_setCell_same w.drew (q f) 0 _ _ (.slice a N N) (h.files.cell f hf)
      rw [heap_setCell_same _ (q f) 1 _ _ _ e1]
      rfl
    have ho : ∀ k, k ≠ q f → w2.heap[k]? = w.heap[k]? := fun k hk => by
      rw [hw2]
      exact (Below.heap_setCell _ _ _ _ hk).trans (Below.heap_setCell _ _ _ _ hk)
    have hsz : w2.heap.size = w.heap.size := by rw [hw2]; simp
    have hbv := h.files.bytes f hf
    rw [hva] at hbv
    have hpb := hbv.cut N (by rw [← hz]; exact hNz)
    have hpb2 : Dk.PB m w2 (.slice a N N) ((Dk.file d.files f).1.take N) := hpb.same fun b hb => ho b (fun e => by
      obtain ⟨cs, fr, hcs⟩ := hpb.typed b hb
      rw [e, h.files.cell f hf] at hcs
      simp only [Option.some.injEq, Obj.cells.injEq] at hcs
      exact absurd hcs.2.1 (by decide))
    have hcn : Dk.cutN (Dk.file d.files f) (max kv 0) = N := by unfold Dk.cutN; rw [← hz, ← hu]; omega
    have hpx := h.refile (w' := w2) hf (.slice a N N) ((Dk.file d.files f).1.take N, N) hc2 hpb2 (.inr (by rw [hva]; cases a <;> rfl)) hsz ho
    have e2 : Dk.cut d.files f (max kv 0) = d.files.set f ((Dk.file d.files f).1.take N, N) := by unfold Dk.cut; rw [hcn]
    rw [e2]
    exact ⟨⟨_, hpx⟩, ⟨by rw [hw2]; rfl, by rw [hw2]; rfl, by rw [hw2]; rfl, by omega, fun k _ hn => ho k (fun e => hn (by rw [e]; exact h.files.mine f hf))⟩, hsz⟩
  generalize q f = qf at c0 c1 f0 f1 HR ⊢
  clear h hf hva hz hu
  obtain ⟨kk, hkk⟩ : ∃ kk, kk = max kv 0 := ⟨_, rfl⟩
  have hk0 : 0 ≤ kk := by omega
  have HKK := Lib.hid hkk
  rw [← hkk] at HR
  have hu0 : (0 : Int) ≤ (u : Int) := by omega
  have hzu : IntKind.i64.wrap ((z : Int) - (u : Int)) = (z : Int) - (u : Int) := by rw [IntKind.wrap_i64]; omega
  go_enter Try.func52, Try.ntmps52
  go_wp2_with fail
  go_region
  obtain ⟨N, hN⟩ : ∃ N : Nat, N = u + min kk.toNat (z - u) := ⟨_, rfl⟩
  have hNi : (u : Int) + min (max kv 0) ((z : Int) - (u : Int)) = (N : Int) := by rw [← HKK.out, hN]; omega
  rw [hNi]
  have HN := Lib.hid (HR.out N hN)
  have hN0 : (0 : Int) ≤ (N : Int) := by omega
  have hNc : (N : Int) ≤ (c : Int) := by omega
  clear HR hk0 hu0 hzu hN hNi hl hp hlc hkk
  generalize min (max kv 0) ((z : Int) - (u : Int)) = x1
  generalize max kv 0 = x2
  go_wp2
  go_end0
  have hfin := HN.out _ rfl
  rw [HKK.out] at hfin
  exact ⟨rfl, hfin⟩
end Go.Proofs.Ytfkdkdkdpenblaa

namespace Go.Proofs.Ytfkdkdkdpenblaa
open Go.RowKit Go.Maps Go.Shelf
theorem Dk.pclone_c {w : World} {q : Nat → Nat} {b : Nat} {l : Dk.Dir} (h : Dk.PM w q b l) :
    Calls Try.prog 51 #[.map (some b)] w fun e w' => e = .returned (.map (some w.heap.size)) ∧ Dk.PM w' q w.heap.size l ∧ Below w.heap.size w w' := by
  obtain ⟨D, hown, hr⟩ := h
  refine (AnyW.maps_Clone_owns Try.mcloneL 9 Dk.ptrR b 1000000 D w hown).mono ?_
  rintro e w' ⟨he, h1, _, hb⟩
  exact ⟨he, ⟨D, h1, hr⟩, hb⟩
theorem Dk.pclone_nil (w : World) :
    Calls Try.prog 51 #[.map none] w fun e w' => e = .returned (.map none) ∧ w' = w := AnyW.maps_Clone_nil Try.mcloneL w
/-- In the midst of a crash: the directory is l, the files fs. -/
def Dk.mid (d : Dk.D) (l : Dk.Dir) (fs : List (Dk.Str × Nat)) : Dk.D := { d with files := fs, dir := l, sure := l, chg := [] }
section
variable {m : Bool} {S S' : Nat → Prop} {w w' : World} {p : Nat} {d d' : Dk.D} {H H' : Int} {q : Nat → Nat} {vb : Nat → Value} {vs : List Dk.Cls} {vN vD vP : Value} {ss rs : Bool} {sa ra : Int}
/-- The durable directory copied into the directory. -/
theorem Dk.PX.named (h : Dk.PX m S w p d H q vb [] vN vD vP ss sa rs ra) (hc : d.chg = []) {w2 w3 : World} {vN' : Value} (g : Below w.heap.size w w2) (hv : (vN' = .map none ∧ vD = .map none) ∨ (∃ bN, vN' = .map (some bN) ∧ w.heap.size ≤ bN ∧ Dk.PM w2 q bN d.sure ∧ ∃ bD, vD = .map (some bD)))
    (hw3 : w3 = w2.setCell ⟨p, 0, none⟩ vN') : Dk.PX m (Dk.More S w w3) w3 p (Dk.mid d d.sure d.files) H q vb [] vN' vD vP ss sa rs ra ∧ Dk.Off S w w3 ∧ w3.heap.size = w2.heap.size := by
  have hs3 : w3.heap.size = w2.heap.size := by rw [hw3]; simp
  have h2 := (h.same g.size fun b hb => g.block b (h.alive b hb)).mono (S' := Dk.More S w w3) (fun _ hb => .inl hb) (fun b hb => by
    rcases hb with hb | hb
    · exact Nat.lt_of_lt_of_le (h.alive b hb) g.size
    · rw [← hs3]; exact hb.2)
  have hr : Dk.Row w2 w3 p (Dk.pcells vN' vD vP d.room H ss sa rs ra) 62 := by
    rw [hw3]
    exact (Dk.Row.refl h2.blk).set 0 vN' rfl
  have o3 : Dk.Off S w w3 := (Dk.Off.of_below g).same (hr.off (S := S) h.mine)
  refine ⟨h2.row (d' := Dk.mid d d.sure d.files) hr rfl ?_ h2.own h2.ownS ?_ h2.stop h2.ref (fun _ => rfl), o3, hs3⟩
  · rcases hv with ⟨e1, e2⟩ | ⟨bN, e1, hge, hm, bD, e2⟩
    · rcases h.dirs with ⟨_, _, _, e3⟩ | ⟨_, b2, _, e4, _⟩
      · exact .inl ⟨e1, e2, e3, e3⟩
      · rw [e2] at e4; cases e4
    · rcases h2.dirs with ⟨_, e3, _⟩ | ⟨_, b2, _, e4, _, _, hs2, _, h4⟩
      · rw [e2] at e3; cases e3
      · rw [e2] at e4
        obtain rfl : bD = b2 := by simpa using e4
        refine .inr ⟨bN, bD, e1, e2, ?_, .inr ⟨hge, by rw [hs3]; exact hm.lt⟩, hs2, hm, h4⟩
        intro e
        have hSD : S bD := by
          rcases h.dirs with ⟨_, e5, _⟩ | ⟨_, b3, _, e6, _, _, h7, _, _⟩
          · rw [e2] at e5; cases e5
          · rw [e2] at e6
            obtain rfl : bD = b3 := by simpa using e6
            exact h7
        have := h.alive bD hSD
        omega
  · have := h2.chg
    rw [hc] at this
    exact this
set_option maxRecDepth 100000 in
theorem Dk.crash_round {l : Dk.Dir} {keep : List Int} {k : Nat} (h : Dk.PX m S w p (Dk.mid d l (Dk.cuts keep 0 d.files (l.take k))) H q vb [] vN vD vP ss sa rs ra) (hw : Dk.Well d.files.length l) (hi : ∀ f, (Dk.file d.files f).2 ≤ (Dk.file d.files f).1.length)
    (hb : ∀ f, (Dk.file d.files f).1.length ≤ 1000000000000000) (hk : k < l.length) (hnm : ∀ y ∈ l, y.1.length ≤ 140737488351232) (kv : Int) (hkv : Dk.keepAt keep k = max kv 0) :
    ∃ s f, l[k]? = some (s, f) ∧ w.cell? ⟨p, 0, none⟩ = some vN ∧ (Instr.lookup 57 vN (.string (Ty.S s)) false).run Try.prog w.drew = .ok (.pointer (some ⟨q f, 0, none⟩)) w.drew ∧
      Calls Try.prog 52 #[.pointer (some ⟨q f, 0, none⟩), .int .i64 kv] w.drew fun e w2 => e = .returned (.tuple #[]) ∧ (∃ vb', Dk.PX m S w2 p (Dk.mid d l (Dk.cuts keep 0 d.files (l.take (k + 1)))) H q vb' [] vN vD vP ss sa rs ra) ∧ Dk.Off S w w2 ∧ w2.heap.size = w.heap.size := by
  obtain ⟨y, hy⟩ : ∃ y, l[k]? = some y := ⟨_, List.getElem?_eq_getElem hk⟩
  obtain ⟨s, f⟩ := y
  have hmem : (s, f) ∈ l := List.mem_of_getElem? hy
  have hlk : Dk.look l s = some f := (Dk.look_some hw.asc).2 hmem
  have hlt : f < d.files.length := hw.lim _ hmem
  have hd := h.same (w' := w.drew) (Nat.le_refl _) fun _ _ => rfl
  have hlen : (Dk.cuts keep 0 d.files (l.take k)).length = d.files.length := Dk.length_cuts _ _ _ _
  obtain ⟨hL, _⟩ := Dk.cuts_left keep (l.take k) 0 d.files hi (fun y hy => hw.lim y (List.mem_of_mem_take hy))
  have hlook := hd.dirs.look s (by have := hnm _ hmem; simp only at this; omega)
  have hdir : (Dk.mid d l (Dk.cuts keep 0 d.files (l.take k))).dir = l := rfl
  rw [hdir, hlk] at hlook
  refine ⟨s, f, hy, h.c.1, hlook, ?_⟩
  have e1 : l.take (k + 1) = l.take k ++ [(s, f)] := by
    rw [List.take_succ_eq_append_getElem hk]
    congr 1
    have := (List.getElem?_eq_some_iff.1 hy).2
    rw [this]
  have e2 : Dk.cuts keep 0 d.files (l.take (k + 1)) = Dk.cut (Dk.cuts keep 0 d.files (l.take k)) f (max kv 0) := by
    rw [e1, Dk.cuts_snoc, List.length_take, Nat.zero_add, Nat.min_eq_left (Nat.le_of_lt hk), hkv]
  rw [e2]
  refine (Dk.pcut_c hd (f := f) (by show f < (Dk.cuts keep 0 d.files (l.take k)).length; rw [hlen]; exact hlt) (hL f).part (by have := (hL f).le; have := hb f; show (Dk.file (Dk.cuts keep 0 d.files (l.take k)) f).1.length ≤ _; omega) kv).mono ?_
  rintro e w2 ⟨he, hx, ho, hsz⟩
  exact ⟨he, hx, ⟨ho.os, ho.tape, ho.output, ho.size, ho.block⟩, hsz⟩
set_option maxRecDepth 100000 in
theorem Dk.crash_end {l : Dk.Dir} {fs : List (Dk.Str × Nat)} (h : Dk.PX m S w p (Dk.mid d l fs) H q vb [] vN vD vP ss sa rs ra) {w1 w2 : World} (g : Below w.heap.size w w1)
    (hw2 : w2 = ((((w1.setCell ⟨p, 4, none⟩ (.int .i64 (Dk.heldL fs l : Int))).setCell ⟨p, 5, none⟩ (.bool false)).setCell ⟨p, 6, none⟩ (.int .i64 0)).setCell ⟨p, 7, none⟩ (.bool false)).setCell ⟨p, 8, none⟩ (.int .i64 0)) :
    Dk.PAtM m S w2 p { Dk.mid d l fs with halt := -1, deny := -1 } ∧ Dk.Off S w w2 := by
  have h1 := h.same g.size fun b hb => g.block b (h.alive b hb)
  have hr : Dk.Row w1 w2 p (Dk.pcells vN vD vP d.room (Dk.heldL fs l : Int) false 0 false 0) 62 := by
    rw [hw2]
    exact (((((Dk.Row.refl h1.blk).set 4 (.int .i64 (Dk.heldL fs l : Int)) rfl).set 5 (.bool false) rfl).set 6 (.int .i64 0) rfl).set 7 (.bool false) rfl).set 8 (.int .i64 0) rfl
  have hx := h1.row (d' := { Dk.mid d l fs with halt := -1, deny := -1 }) hr rfl h1.dirs h1.own h1.ownS h1.chg ⟨by decide, by decide, .inl ⟨rfl, by decide, (show (-1 : Int) < 0 by decide)⟩⟩ ⟨by decide, by decide, .inl ⟨rfl, by decide, (show (-1 : Int) < (d.calls : Int) by omega)⟩⟩ (fun _ => rfl)
  exact ⟨(hx.pa rfl).at_, (Dk.Off.of_below g).same (hr.off (S := S) h.mine)⟩
/-- A list of texts that a call made: where it lies. -/
theorem Dk.ownForm {base : Nat} {w : World} {v : Value} {L : List Dk.Str} (h : Tx.Own base w v L) : ∃ a c, v = .slice a L.length c ∧ L.length ≤ c ∧ (0 < L.length → ∃ g, a = some ⟨g, 0, none⟩ ∧ base ≤ g ∧ g < w.heap.size ∧ ∀ i, i < L.length → w.cell? ⟨g, i, none⟩ = some (Tx.sv L i)) := by
  rcases h.form with ⟨rfl, rfl⟩ | ⟨g, c, rfl, hc, hg, hcell⟩
  · exact ⟨none, 0, rfl, Nat.le_refl _, fun h => by simp at h⟩
  · have hb := World.ownsRow.lt h g rfl
    exact ⟨_, c, rfl, hc, fun _ => ⟨g, rfl, hb.1, hg, hcell⟩⟩
set_option maxRecDepth 100000 in
theorem Dk.crash_turn {w4 : World} {l : Dk.Dir} {keep : List Int} {k : Nat} {aK aU : Option Addr} {cK : Nat} (h : Dk.PX m S w p (Dk.mid d l (Dk.cuts keep 0 d.files (l.take k))) H q vb [] vN vD vP ss sa rs ra) (ho : Dk.Off S w4 w) (hf : Dk.FitL d) (hw : Dk.Well d.files.length l) (hnm : ∀ y ∈ l, y.1.length ≤ 140737488351232) (hll : l.length ≤ 1000000) (hk : k < l.length) (hkl : keep.length ≤ 140737488355328)
    (hK : keep = [] ∨ ∃ b o, aK = some ⟨b, o, none⟩ ∧ ¬ S b ∧ b < w4.heap.size ∧ ∀ i, i < keep.length → w4.cell? ⟨b, o + i, none⟩ = some (.int .i64 (Ig.nth keep i)))
    (hU : 0 < (l.map (·.1)).length → ∃ g, aU = some ⟨g, 0, none⟩ ∧ ¬ S g ∧ g < w4.heap.size ∧ ∀ i, i < (l.map (·.1)).length → w4.cell? ⟨g, i, none⟩ = some (Tx.sv (l.map (·.1)) i)) :
    ∃ (g : Nat) (s : Dk.Str) (f : Nat), aU = some ⟨g, 0, none⟩ ∧ w.cell? ⟨g, k, none⟩ = some (.string (Ty.S s)) ∧ w.cell? ⟨p, 0, none⟩ = some vN ∧ (Instr.lookup 57 vN (.string (Ty.S s)) false).run Try.prog w.drew = .ok (.pointer (some ⟨q f, 0, none⟩)) w.drew ∧
      Calls Try.prog 53 #[.slice aK keep.length cK, .int .i64 (k : Int)] w.drew (fun e w' => e = .returned (.int .i64 (Dk.keptV keep k)) ∧ w' = w.drew) ∧
      Calls Try.prog 52 #[.pointer (some ⟨q f, 0, none⟩), .int .i64 (Dk.keptV keep k)] w.drew fun e w2 => e = .returned (.tuple #[]) ∧ (∃ vb', Dk.PX m S w2 p (Dk.mid d l (Dk.cuts keep 0 d.files (l.take (k + 1)))) H q vb' [] vN vD vP ss sa rs ra) ∧ Dk.Off S w4 w2 := by
  have hsz := hf.bytes
  obtain ⟨s, f, hy, h0, hlook, hcut⟩ := Dk.crash_round h hw hf.inv.file (fun f => by
    by_cases hlt : f < d.files.length
    · have := Dk.size_file hlt; omega
    · unfold Dk.file
      rw [List.getD, List.getElem?_eq_none (by omega)]
      exact Nat.zero_le _) hk hnm (Dk.keptV keep k) (Dk.keptV_max keep k)
  obtain ⟨g, hg, hgS, hgl, hcell⟩ := hU (by rw [List.length_map]; omega)
  have hsv : Tx.sv (l.map (·.1)) k = .string (Ty.S s) := by
    unfold Tx.sv
    rw [List.getD, List.getElem?_map, hy]
    rfl
  have hcg : w.cell? ⟨g, k, none⟩ = some (.string (Ty.S s)) := by
    rw [← hsv, ← hcell k (by rw [List.length_map]; exact hk)]
    exact World.cell?_of_block (ho.block g hgl hgS)
  refine ⟨g, s, f, hg, hcg, h0, hlook, Dk.kept_c keep k (by omega) hkl ?_, hcut.mono ?_⟩
  · rcases hK with e | ⟨b, o, e, hb, hbl, hc⟩
    · exact .inl e
    · refine .inr ⟨b, o, e, fun i hi => ?_⟩
      rw [← hc i hi]
      exact World.cell?_of_block (ho.block b hbl hb)
  · rintro e w2 ⟨he, hx, ho2, _⟩
    exact ⟨he, hx, ho.same ho2⟩
set_option maxRecDepth 100000 in
theorem Dk.crash_last {l : Dk.Dir} {fs : List (Dk.Str × Nat)} {mb : Option Nat} (h : Dk.PX m S w p (Dk.mid d l fs) H q vb [] (.map mb) vD vP ss sa rs ra) (hw : Dk.Well fs.length l) (hb : Dk.heldL fs l ≤ 1000000000000000) :
    w.cell? ⟨p, 0, none⟩ = some (.map mb) ∧ Calls Try.prog 54 #[.map mb] w fun e wu => e = .returned (.int .i64 ((Dk.heldL fs l : Nat) : Int)) ∧
      (wu.cell? ⟨p, 4, none⟩ = some (.int .i64 H) ∧ wu.cell? ⟨p, 5, none⟩ = some (.bool ss) ∧ wu.cell? ⟨p, 6, none⟩ = some (.int .i64 sa) ∧ wu.cell? ⟨p, 7, none⟩ = some (.bool rs) ∧ wu.cell? ⟨p, 8, none⟩ = some (.int .i64 ra)) ∧
      (wu.frozen? ⟨p, 4, none⟩ = false ∧ wu.frozen? ⟨p, 5, none⟩ = false ∧ wu.frozen? ⟨p, 6, none⟩ = false ∧ wu.frozen? ⟨p, 7, none⟩ = false ∧ wu.frozen? ⟨p, 8, none⟩ = false) ∧
      ∀ w9, w9 = ((((wu.setCell ⟨p, 4, none⟩ (.int .i64 ((Dk.heldL fs l : Nat) : Int))).setCell ⟨p, 5, none⟩ (.bool false)).setCell ⟨p, 6, none⟩ (.int .i64 0)).setCell ⟨p, 7, none⟩ (.bool false)).setCell ⟨p, 8, none⟩ (.int .i64 0) →
        Dk.PAtM m S w9 p { Dk.mid d l fs with halt := -1, deny := -1 } ∧ Dk.Off S w w9 := by
  refine ⟨h.c.1, (Dk.pused_c h.files h.alive h.dirs.names hw hb).mono ?_⟩
  rintro e wu ⟨he, g⟩
  have h1 := h.same g.size fun b hb => g.block b (h.alive b hb)
  have hbk := h1.blk
  refine ⟨he, ⟨?_, ?_, ?_, ?_, ?_⟩, ⟨h1.fz 4, h1.fz 5, h1.fz 6, h1.fz 7, h1.fz 8⟩, fun w9 hw9 => Dk.crash_end h g hw9⟩ <;> (rw [cell_of_row wu p _ _ _ _ hbk]; rfl)
/-- .. put together. -/
theorem Dk.crash_did {S3 : Nat → Prop} {w3 w4 w9 : World} (h : Dk.PAtM m S3 w9 p d') (o : Dk.Off S w w4) (o9 : Dk.Off S3 w4 w9) (hsub : ∀ b, S3 b → S b ∨ (w.heap.size ≤ b ∧ b < w3.heap.size)) (hsup : ∀ b, S b → S3 b) (hs : w3.heap.size ≤ w9.heap.size) : Dk.PDidM m S w p d' w9 := by
  refine ⟨h.mono (fun b hb => ?_) (fun b hb => ?_), o9.os.trans o.os, o9.tape.trans o.tape, o9.output.trans o.output, Nat.le_trans o.size o9.size, fun k hk hn => ?_⟩
  · rcases hsub b hb with hb | hb
    · exact .inl hb
    · exact .inr ⟨hb.1, by omega⟩
  · rcases hb with hb | hb
    · exact h.alive b (hsup b hb)
    · exact hb.2
  · refine (o9.block k (Nat.lt_of_lt_of_le hk o.size) fun hs3 => ?_).trans (o.block k hk hn)
    rcases hsub k hs3 with hb | hb
    · exact hn hb
    · omega
end
end Go.Proofs.Ytfkdkdkdpenblaa
