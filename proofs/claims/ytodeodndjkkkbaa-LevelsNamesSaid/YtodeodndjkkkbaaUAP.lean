import Derived.Test.YtodeodndjkkkbaaUAO
import Derived.Test.YtodeodndjkkkbaaUAH
import Derived.Laws.ResultCell
import Derived.BigQuiet
namespace Go.Proofs.Ytodeodndjkkkbaa
section
open Go Go.RowKit Go.Lib Go.Sort
theorem Lv.uniq {α : Type} {R : α → α → Prop} : ∀ (K M : List α), K.Perm M → K.Pairwise R → M.Pairwise R → (∀ x ∈ K, ∀ y ∈ K, R x y → R y x → x = y) → K = M
 | [], M, h, _, _, _ => h.nil_eq
 | x :: K, [], h, _, _, _ => by have := h.length_eq; simp at this
 | x :: K, y :: M, h, hK, hM, ha => by
   rw [List.pairwise_cons] at hK hM
   have hxy : x = y := by
    have h1 : x ∈ y :: M := h.mem_iff.1 List.mem_cons_self
    have h2 : y ∈ x :: K := h.mem_iff.2 List.mem_cons_self
    rcases List.mem_cons.1 h1 with h1 | h1
    ·exact h1
    rcases List.mem_cons.1 h2 with h2 | h2
    ·exact h2.symm
    exact ha x List.mem_cons_self y (List.mem_cons_of_mem _ h2) (hK.1 y h2) (hM.1 x h1)
   subst hxy
   rw [Lv.uniq K M (List.Perm.cons_inv h) hK.2 hM.2 fun a h1 b h2 => ha a (List.mem_cons_of_mem _ h1) b (List.mem_cons_of_mem _ h2)]
theorem Lv.two_of {R : Mf.P → Mf.P → Prop} (hs : ∀ x y, R x y → R y x) {L : List Mf.P} (h : L.Pairwise R) {x y : Mf.P} (hx : x ∈ L) (hy : y ∈ L) (hne : x ≠ y) : R x y := by
 obtain ⟨i, hi, rfl⟩ := List.getElem_of_mem hx
 obtain ⟨j, hj, rfl⟩ := List.getElem_of_mem hy
 rw [List.pairwise_iff_getElem] at h
 rcases Nat.lt_trichotomy i j with hl | hl | hl
 ·exact h i j hi hj hl
 ·subst hl; exact absurd rfl hne
 ·exact hs _ _ (h j i hj hi hl)
theorem Lv.un_inj {L : List Mf.P} (h : Lv.UN L) {x y : Mf.P} (hx : x ∈ L) (hy : y ∈ L) (he : x.id = y.id) : x = y := by
 by_cases hne : x = y
 ·exact hne
 ·exact absurd he (Lv.two_of (R := fun x y => x.id ≠ y.id) (fun _ _ h e => h e.symm) h hx hy hne)
section
variable {K L : List Mf.P}
theorem Lv.mem_at {n : Int} {x : Mf.P} : x ∈ Lv.at_ n L ↔ x ∈ L ∧ x.lv = n := by
 unfold Lv.at_
 rw [List.mem_filter, beq_iff_eq]
theorem Lv.mn_mem (a : Mf.P) (l : List Mf.P) : Lv.mn a l ∈ a :: l := by
 induction l using Lv.rec' with
 | h0 => exact List.mem_cons_self
 | h1 l x ih =>
   have e : Lv.mn a (l ++ [x]) = if Kn.ncmp x.id (Lv.mn a l).id < 0 then x else Lv.mn a l := by unfold Lv.mn; rw [List.foldl_append]; rfl
   rw [e]
   split
   ·simp
   ·rcases List.mem_cons.1 ih with h | h
    ·rw [h]; exact List.mem_cons_self
    ·exact List.mem_cons_of_mem _ (List.mem_append_left _ h)
end
end
section
open Go Go.RowKit Go.Lib Go.Sort
def Lv.nm (L : List Mf.P) (k : Nat) : List Mf.P := Lv.ch L k ++ Lv.bl L k
theorem Lv.pi_nm (L : List Mf.P) (k : Nat) : Lv.pi L k = (Lv.nm L k).map fun x => x.id := by unfold Lv.pi Lv.nm Lv.idl; rw [List.map_append]
theorem Lv.cself (a : Kn.V) : Kn.cmp a a = 0 := by have := Lv.anti a a; omega
theorem Lv.wd_cov (s x : Mf.P) : (Kn.cmp (Lv.wd s x).lo s.lo ≤ 0 ∧ Kn.cmp s.hi (Lv.wd s x).hi ≤ 0) ∧ Kn.cmp (Lv.wd s x).lo x.lo ≤ 0 ∧ Kn.cmp x.hi (Lv.wd s x).hi ≤ 0 := by
 have h1 := Lv.anti x.lo s.lo
 have h2 := Lv.anti x.hi s.hi
 have e1 := Lv.cself x.lo
 have e2 := Lv.cself x.hi
 have e3 := Lv.cself s.lo
 have e4 := Lv.cself s.hi
 unfold Lv.wd Lv.wHi Lv.wLo
 split <;> split <;> simp_all <;> omega
theorem Lv.sp_cov (a : Mf.P) (L : List Mf.P) : ∀ c ∈ L, Kn.cmp (Lv.sp a L).lo c.lo ≤ 0 ∧ Kn.cmp c.hi (Lv.sp a L).hi ≤ 0 := by
 induction L using Lv.rec' with
 | h0 => intro c hc; cases hc
 | h1 l x ih =>
   have e : Lv.sp a (l ++ [x]) = Lv.wd (Lv.sp a l) x := by unfold Lv.sp; rw [List.foldl_append]; rfl
   rw [e]
   obtain ⟨⟨h1, h2⟩, h3, h4⟩ := Lv.wd_cov (Lv.sp a l) x
   intro c hc
   rcases List.mem_append.1 hc with hc | hc
   ·obtain ⟨i1, i2⟩ := ih c hc
    exact ⟨Lv.tr h1 i1, Lv.tr i2 h2⟩
   ·obtain rfl := List.mem_singleton.1 hc
    exact ⟨h3, h4⟩
theorem Lv.ch_mem {L : List Mf.P} {k : Nat} {p : Mf.P} (h : p ∈ Lv.ch L k) : p ∈ L ∧ p.lv = (k : Int) := by
 unfold Lv.ch at h
 by_cases h0 : k = 0
 ·subst h0
  rw [if_pos rfl] at h
  exact Lv.mem_at.1 ((Lv.st_perm _ _).mem_iff.1 h)
 ·rw [if_neg h0] at h
  cases hA : Lv.at_ (k : Int) L with
  | nil => rw [hA] at h; cases h
  | cons x l =>
    rw [hA] at h
    obtain rfl := List.mem_singleton.1 h
    have m := Lv.mn_mem x (x :: l)
    have m2 : Lv.mn x (x :: l) ∈ Lv.at_ (k : Int) L := by
     rw [hA]
     rcases List.mem_cons.1 m with h | h
     ·rw [h]; exact List.mem_cons_self
     ·exact h
    exact Lv.mem_at.1 m2
theorem Lv.bl_mem {L : List Mf.P} {k : Nat} {p : Mf.P} (h : p ∈ Lv.bl L k) : p ∈ L ∧ p.lv = ((k + 1 : Nat) : Int) := by
 unfold Lv.bl at h
 split at h
 ·cases h
 ·exact Lv.mem_at.1 (List.mem_filter.1 ((Lv.st_perm _ _).mem_iff.1 h)).1
theorem Lv.nm_mem {L : List Mf.P} {k : Nat} {p : Mf.P} (h : p ∈ Lv.nm L k) : p ∈ L ∧ (p.lv = (k : Int) ∨ p.lv = ((k + 1 : Nat) : Int)) := by
 rcases List.mem_append.1 h with h | h
 ·exact ⟨(Lv.ch_mem h).1, .inl (Lv.ch_mem h).2⟩
 ·exact ⟨(Lv.bl_mem h).1, .inr (Lv.bl_mem h).2⟩
theorem Lv.nm_ch (L : List Mf.P) (k : Nat) : (Lv.nm L k).filter (fun p => p.lv == (k : Int)) = Lv.ch L k := by
 unfold Lv.nm
 rw [List.filter_append, List.filter_eq_self.2 (fun p hp => beq_iff_eq.2 (Lv.ch_mem hp).2), List.filter_eq_nil_iff.2 (fun p hp h => by
  have h1 := (Lv.bl_mem hp).2
  have h2 := beq_iff_eq.1 h
  omega), List.append_nil]
theorem Lv.un_filter {L : List Mf.P} (h : Lv.UN L) (p : Mf.P → Bool) : Lv.UN (L.filter p) := List.Pairwise.filter p h
theorem Lv.un_perm {K L : List Mf.P} (h : K.Perm L) (hu : Lv.UN L) : Lv.UN K := (h.pairwise_iff (R := fun x y : Mf.P => x.id ≠ y.id) (fun h e => h e.symm)).2 hu
theorem Lv.nm_un {L : List Mf.P} (hu : Lv.UN L) (k : Nat) : Lv.UN (Lv.nm L k) := by
 have h1 : Lv.UN (Lv.ch L k) := by
  unfold Lv.ch
  by_cases h0 : k = 0
  ·rw [if_pos h0]
   exact Lv.un_perm (Lv.st_perm _ _) (Lv.un_filter hu _)
  ·rw [if_neg h0]
   split
   ·exact List.Pairwise.nil
   ·exact List.pairwise_singleton _ _
 have h2 : Lv.UN (Lv.bl L k) := by
  unfold Lv.bl
  split
  ·exact List.Pairwise.nil
  ·exact Lv.un_perm (Lv.st_perm _ _) (Lv.un_filter (Lv.un_filter hu _) _)
 unfold Lv.UN Lv.nm
 rw [List.pairwise_append]
 refine ⟨h1, h2, fun x hx y hy e => ?_⟩
 have := Lv.un_inj hu (Lv.ch_mem hx).1 (Lv.bl_mem hy).1 e
 subst this
 have a := (Lv.ch_mem hx).2
 have b := (Lv.bl_mem hy).2
 omega
theorem Lv.nm_new {L : List Mf.P} (hu : Lv.UN L) {k i : Nat} {p : Mf.P} (hp : (Lv.nm L k)[i]? = some p) : p.id ∉ (Lv.pi L k).take i := fun hm => by
 rw [Lv.pi_nm, ← List.map_take] at hm
 obtain ⟨q, hq, e⟩ := List.mem_map.1 hm
 obtain ⟨j, hj, rfl⟩ := List.getElem_of_mem hq
 rw [List.length_take] at hj
 rw [List.getElem_take] at e
 obtain ⟨hi, rfl⟩ := List.getElem?_eq_some_iff.1 hp
 have hn := Lv.nm_un hu k
 unfold Lv.UN at hn
 rw [List.pairwise_iff_getElem] at hn
 exact hn j i (by omega) hi (by omega) e
theorem Lv.nm_over {L : List Mf.P} {k : Nat} {x c : Mf.P} (hx : x ∈ L) (hl : x.lv = ((k + 1 : Nat) : Int)) (hc : c ∈ Lv.ch L k) (ho : Lv.ov x c = true) : x.id ∈ Lv.pi L k := by
 cases h0 : (Lv.ch L k)[0]? with
 | none =>
   have : Lv.ch L k = [] := by
    cases h : Lv.ch L k with
    | nil => rfl
    | cons a l => rw [h] at h0; cases h0
   rw [this] at hc
   cases hc
 | some s =>
   rw [Lv.pi_nm]
   refine List.mem_map.2 ⟨x, List.mem_append_right _ ?_, rfl⟩
   rw [Lv.bl_is h0, (Lv.st_perm _ _).mem_iff, List.mem_filter]
   refine ⟨Lv.mem_at.2 ⟨hx, hl⟩, ?_⟩
   obtain ⟨c1, c2⟩ := Lv.sp_cov s (Lv.ch L k) c hc
   obtain ⟨o1, o2⟩ := (Lv.ov_iff x c).1 ho
   have a1 := Lv.anti x.hi c.lo
   have a2 := Lv.anti c.hi x.lo
   have a3 := Lv.anti (Lv.sp s (Lv.ch L k)).hi x.lo
   have a4 := Lv.anti x.hi (Lv.sp s (Lv.ch L k)).lo
   have t1 := Lv.tr c1 (show Kn.cmp c.lo x.hi ≤ 0 by omega)
   have t2 := Lv.tr (show Kn.cmp x.lo c.hi ≤ 0 by omega) c2
   exact (Lv.ov_iff _ _).2 ⟨by omega, by omega⟩
theorem Lv.nm_zero {L : List Mf.P} {x : Mf.P} (hx : x ∈ L) (hl : x.lv = 0) : x.id ∈ Lv.pi L 0 := by
 rw [Lv.pi_nm]
 refine List.mem_map.2 ⟨x, List.mem_append_left _ ?_, rfl⟩
 unfold Lv.ch
 rw [if_pos rfl, (Lv.st_perm _ _).mem_iff]
 exact Lv.mem_at.2 ⟨hx, hl⟩
end
section
open Go Go.RowKit Go.Lib Go.Sort
def Lv.four : List Mf.P := [Lv.p0 (-1) 0 0, Lv.p0 (-2) 0 0, Lv.p0 (-3) 0 0, Lv.p0 (-4) 0 0]
def Lv.fourC : Array Value := #[.int .i64 (-1), .int .i64 0, .bool false, .int .i64 0, .string ⟨#[]⟩, .bool false, .int .i64 0, .string ⟨#[]⟩, .int .i64 (-2), .int .i64 0, .bool false, .int .i64 0, .string ⟨#[]⟩, .bool false, .int .i64 0, .string ⟨#[]⟩, .int .i64 (-3), .int .i64 0, .bool false, .int .i64 0, .string ⟨#[]⟩, .bool false, .int .i64 0, .string ⟨#[]⟩, .int .i64 (-4), .int .i64 0, .bool false, .int .i64 0, .string ⟨#[]⟩, .bool false, .int .i64 0, .string ⟨#[]⟩]
def Lv.fewOk (F : List Mf.P) : Prop := ∀ n : Int, (Lv.at_ n F).length ≤ 3
theorem Lv.Ow.sl {base : Nat} {w : World} {v : Value} {L : List Mf.P} (h : Mf.Ow base w v L) : ∃ a c, v = .slice a L.length c := by
 rcases Dk.Own.form h with ⟨rfl, rfl⟩ | ⟨g, c, rfl, _⟩
 ·exact ⟨none, 0, rfl⟩
 ·exact ⟨_, c, rfl⟩
end
section
open Go Go.RowKit Go.Lib Go.Sort
set_option maxHeartbeats 1000000 in
set_option maxRecDepth 100000 in
theorem Lv.has_c (v : Value) (X : List Int) (n : Int) (w : World) (hv : Mf.Is w v X) (hl : X.length ≤ 1000) :
 Calls Try.prog 24 #[v, .int .i64 n] w fun e w' => e = .returned (.bool (decide (n ∈ X))) ∧ w' = w := by
 obtain ⟨a, c, rfl, -, h⟩ := hv
 have HH := Lib.hid h
 have HL := Lib.hid hl
 generalize hD : decide (n ∈ X) = D
 have HD := Lib.hid hD
 clear h hl hD
 go_enter Try.func24, Try.ntmps24
 go_wp2_with fail
 go_loopw [5] (fun i wr => ∃ (k : Nat), k ≤ X.length ∧ i = .int .i64 (k : Int) ∧ n ∉ X.take k ∧ wr = w) (fun i _ => X.length - (intOf i).toNat)
 case atStart => exact ⟨0, Nat.zero_le _, rfl, (fun h => by cases h), rfl⟩
 case round =>
  obtain ⟨k, hk, rfl, hno, rfl⟩ := hrel
  have hk0 : (0 : Int) ≤ (k : Int) := by omega
  have hk9 : (k : Int) ≤ 1000 := by have := HL.out; omega
  by_cases hkl : k < X.length
  ·have hki : (k : Int) < (X.length : Int) := by omega
   rcases HH.out with ⟨rfl, _⟩ | ⟨b, o, cls, fr, rfl, _, hbb, hcl⟩
   ·simp at hkl
   have hx := List.getElem?_eq_getElem hkl
   have HTK : Hid (X.take (k + 1) = X.take k ++ [X[k]]) := Lib.hid (List.take_succ_eq_append_getElem hkl)
   generalize X[k] = m at hx HTK
   have HX := Lib.hid hx
   have HNO := Lib.hid hno
   have c0 := Mf.Is.num hcl hx
   have HKL := Lib.hid hkl
   clear hcl hx hkl hk hbb hno
   by_cases he : m = n
   ·have hb : (m == n) = true := beq_iff_eq.2 he
    have HDD : Hid (D = true) := Lib.hid (by rw [← HD.out]; exact decide_eq_true (by rw [← he]; exact List.mem_of_getElem? HX.out))
    clear he
    go_wp2
    go_ret
    exact ⟨by rw [HDD.out]; rfl, rfl⟩
   ·have hb : (m == n) = false := beq_eq_false_iff_ne.2 he
    have HN2 : Hid (n ∉ X.take (k + 1)) := Lib.hid (by
     rw [HTK.out, List.mem_append]
     rintro (h | h)
     ·exact HNO.out h
     ·exact he (List.mem_singleton.1 h).symm)
    clear he
    go_wp2
    go_roundw
    case rel => exact ⟨k + 1, HKL.out, by simp, HN2.out, by first | rfl | trivial⟩
    case measure => (have := HKL.out; simp [intOf]; omega)
  ·have hki : ¬ (k : Int) < (X.length : Int) := by omega
   obtain rfl : k = X.length := by omega
   rw [List.take_length] at hno
   have HDD : Hid (D = false) := Lib.hid (by rw [← HD.out]; exact decide_eq_false hno)
   clear hk hkl hno
   go_wp2
   go_ret
   exact ⟨by rw [HDD.out]; rfl, rfl⟩
theorem Lv.blk_keep {B : Nat} {W W' : World} {u u' : Value} {M : List Int} {q : Nat} {cs : Array Value} (h : W.heap[q]? = some (.cells cs 38 (0, 0))) (o : Lv.Oi B W u M) (g : Ty.Grew W W' u u') : W'.heap[q]? = some (.cells cs 38 (0, 0)) :=
 (g.by_.block q (lt_of_block h) fun e => by
  obtain ⟨cs2, h2⟩ := Dk.Own.typed o q e.symm
  rw [h] at h2
  simp only [Option.some.injEq, Obj.cells.injEq] at h2
  exact absurd h2.2.1 (by decide)).trans h
theorem Lv.zero8 (w : World) : (w.alloc (.cells #[.int .i64 0, .int .i64 0, .bool false, .int .i64 0, .string ⟨#[]⟩, .bool false, .int .i64 0, .string ⟨#[]⟩] 38)).heap[w.heap.size]? = some (.cells (Mf.cs ⟨0, 0, ⟨false, 0, ⟨#[]⟩⟩, ⟨false, 0, ⟨#[]⟩⟩⟩) 38 (0, 0)) := heap_alloc_new w _
set_option maxHeartbeats 1000000 in
set_option maxRecDepth 100000 in
theorem Lv.at_c (v : Value) (L : List Mf.P) (p : Mf.P) (w : World) (hL : Mf.Ps w v L) (hl : L.length ≤ 80) (hu : Lv.UN L) (hp : p ∈ L) :
 Calls Try.prog 23 #[v, .int .i64 p.id] w fun e w' => e = .returned (.tuple #[.agg (Mf.cs p), .bool true]) ∧ Below w.heap.size w w' := by
 obtain ⟨j, hj, hjp⟩ := List.getElem_of_mem hp
 have HJ : Hid (L[j]? = some p) := Lib.hid (by rw [← hjp]; exact List.getElem?_eq_getElem hj)
 have HNE : Hid (∀ (k : Nat) (x : Mf.P), k < j → L[k]? = some x → ¬ x.id = p.id) := Lib.hid fun k x hk hx e => by
  rw [← hjp] at e
  obtain ⟨hk2, rfl⟩ := List.getElem?_eq_some_iff.1 hx
  have h := hu
  unfold Lv.UN at h
  rw [List.pairwise_iff_getElem] at h
  exact h k j hk2 hj hk e
 have HPS := Lib.hid hL
 have HL := Lib.hid hl
 have HJL := Lib.hid hj
 obtain ⟨a, c, rfl, -⟩ := hL.form
 have HZ0 := Lib.hid (Lv.zero8 w)
 have HB0 : Hid (Below w.heap.size w _) := Lib.hid ((Below.refl _ w).alloc (Nat.le_refl _) (.cells #[.int .i64 0, .int .i64 0, .bool false, .int .i64 0, .string ⟨#[]⟩, .bool false, .int .i64 0, .string ⟨#[]⟩] 38))
 clear hL hl hu hp hj hjp
 go_enter Try.func23, Try.ntmps23
 go_upto_region 1 with (fail)
 generalize World.alloc _ _ = wo at HZ0 HB0 ⊢
 go_wp2
 go_loopw [6] (fun i wr => ∃ (k : Nat), k ≤ j ∧ i = .int .i64 (k : Int) ∧ wr = wo) (fun i _ => L.length - (intOf i).toNat)
 case atStart => exact ⟨0, Nat.zero_le _, rfl, rfl⟩
 case round =>
  obtain ⟨k, hk, rfl, rfl⟩ := hrel
  have hk0 : (0 : Int) ≤ (k : Int) := by omega
  have hk9 : (k : Int) ≤ 80 := by have := HL.out; have := HJL.out; omega
  have hki : (k : Int) < (L.length : Int) := by have := HJL.out; omega
  have HKL : Hid (k < L.length) := Lib.hid (by omega)
  by_cases hkj : k < j
  ·have hx := List.getElem?_eq_getElem HKL.out
   generalize L[k]'HKL.out = x at hx
   have hne := HNE.out k x hkj hx
   have hb : (x.id == p.id) = false := beq_eq_false_iff_ne.2 hne
   obtain ⟨b, o, rfl, hPA⟩ := (HPS.out.kept HB0.out).at_ hx
   have c0 := hPA.c0
   have HKJ := Lib.hid hkj
   clear hPA hx hne hkj hk
   go_wp2
   go_roundw
   case rel => exact ⟨k + 1, HKJ.out, by simp, by first | rfl | trivial⟩
   case measure => (have := HKL.out; simp [intOf]; omega)
  ·obtain rfl : k = j := by omega
   obtain ⟨b, o, rfl, hPA⟩ := (HPS.out.kept HB0.out).at_ HJ.out
   have hb : (p.id == p.id) = true := beq_self_eq_true _
   have HE := Lib.hid (Lv.set8_below HB0.out (q := w.heap.size) (Nat.le_refl _) p)
   obtain ⟨⟨y0, y1, y2, y3, y4, y5, y6, y7⟩, hfz⟩ := Lv.eight HZ0.out
   have z0 := hfz 0 (by decide)
   have z1 := hfz 1 (by decide)
   have z2 := hfz 2 (by decide)
   have z3 := hfz 3 (by decide)
   have z4 := hfz 4 (by decide)
   have z5 := hfz 5 (by decide)
   have z6 := hfz 6 (by decide)
   have z7 := hfz 7 (by decide)
   obtain ⟨i, l, ⟨an, ai, sa⟩, ⟨bn, bi, sb⟩⟩ := p
   obtain ⟨c0, c1, c2, c3, c4, c5, c6, c7⟩ := hPA
   simp only at c0 c1 c2 c3 c4 c5 c6 c7 y0 y1 y2 y3 y4 y5 y6 y7 HE hb
   clear hkj hk hfz
   go_wp2
   (try simp only [Exit.inBlock, Exit.then])
   refine bodyPost_ret (v := .tuple #[.agg #[.int .i64 i, .int .i64 l, .bool an, .int .i64 ai, .string sa, .bool bn, .int .i64 bi, .string sb], .bool true]) ?_ rfl ⟨rfl, HE.out⟩
   rw [results_cell_tmp rfl]
   go_simp
end
section
open Go Go.RowKit Go.Lib Go.Sort
end
section
open Go Go.RowKit Go.Lib Go.Sort
theorem Lv.Oi.is {base : Nat} {w : World} {v : Value} {L : List Int} (h : Lv.Oi base w v L) : Mf.Is w v L := Mf.At.of (Dk.Own.at Mf.ic_len h)
theorem Lv.pi_len {L : List Mf.P} {k : Nat} (hc : Lv.cw L = some k) (hl : L.length ≤ 80) : (Lv.pi L k).length ≤ 1000 := by
 obtain ⟨_, h1⟩ := Lv.cw_some hc
 obtain ⟨_, h2⟩ := Lv.ch_len h1
 have h3 : (Lv.bl L k).length ≤ L.length := by
  unfold Lv.bl
  split
  ·exact Nat.zero_le _
  ·rw [Lv.st_len]
   exact Nat.le_trans (List.length_filter_le _ _) (Lv.at_len _ _)
 unfold Lv.pi Lv.idl
 rw [List.length_append, List.length_map, List.length_map]
 omega
end
end Go.Proofs.Ytodeodndjkkkbaa
