import Derived.Test.YtodeodndjkkkbaaVAO
import Derived.Test.YtodeodndjkkkbaaVAH
import Derived.BigQuiet
import Derived.Test.YtodeodndjkkkbaaRows
import Derived.Below
import Derived.ChangeSame
import Derived.Carry
namespace Go.Proofs.Ytodeodndjkkkbaa
open Go Go.RowKit Go.Lib Go.Sort
theorem Lv.uniq {α : Type} {R : α → α → Prop} : ∀ (K M : List α), K.Perm M → K.Pairwise R → M.Pairwise R → (∀ x ∈ K, ∀ y ∈ K, R x y → R y x → x = y) → K = M
 | [], M, h, _, _, _ => h.nil_eq
 | x :: K, [], h, _, _, _ => by have := h.length_eq; simp at this
 | x :: K, y :: M, h, hK, hM, ha => by
   rw [List.pairwise_cons] at hK hM
   have hxy : x = y := by
    have h1 : x ∈ y :: M := h.mem_iff.1 List.mem_cons_self
    have h2 : y ∈ x :: K := h.mem_iff.2 List.mem_cons_self
    rcases List.mem_cons.1 h1 with h1 | h1
    ·exact h1
    rcases List.mem_cons.1 h2 with h2 | h2
    ·exact h2.symm
    exact ha x List.mem_cons_self y (List.mem_cons_of_mem _ h2) (hK.1 y h2) (hM.1 x h1)
   subst hxy
   rw [Lv.uniq K M (List.Perm.cons_inv h) hK.2 hM.2 fun a h1 b h2 => ha a (List.mem_cons_of_mem _ h1) b (List.mem_cons_of_mem _ h2)]
theorem Lv.two_of {R : Mf.P → Mf.P → Prop} (hs : ∀ x y, R x y → R y x) {L : List Mf.P} (h : L.Pairwise R) {x y : Mf.P} (hx : x ∈ L) (hy : y ∈ L) (hne : x ≠ y) : R x y := by
 obtain ⟨i, hi, rfl⟩ := List.getElem_of_mem hx
 obtain ⟨j, hj, rfl⟩ := List.getElem_of_mem hy
 rw [List.pairwise_iff_getElem] at h
 rcases Nat.lt_trichotomy i j with hl | hl | hl
 ·exact h i j hi hj hl
 ·subst hl; exact absurd rfl hne
 ·exact hs _ _ (h j i hj hi hl)
theorem Lv.un_inj {L : List Mf.P} (h : Lv.UN L) {x y : Mf.P} (hx : x ∈ L) (hy : y ∈ L) (he : x.id = y.id) : x = y := by
 by_cases hne : x = y
 ·exact hne
 ·exact absurd he (Lv.two_of (R := fun x y => x.id ≠ y.id) (fun _ _ h e => h e.symm) h hx hy hne)
theorem Lv.dj_two {L : List Mf.P} (h : Lv.DJ L) {x y : Mf.P} (hx : x ∈ L) (hy : y ∈ L) (hne : x ≠ y) : Lv.bad x y = false :=
 Lv.two_of (R := fun x y => Lv.bad x y = false) (fun x y h => by rw [Lv.bad_comm]; exact h) h hx hy hne
section
variable {K L : List Mf.P}
theorem Lv.at_perm (h : K.Perm L) (n : Int) : (Lv.at_ n K).Perm (Lv.at_ n L) := h.filter _
theorem Lv.cw_perm (h : K.Perm L) : Lv.cw K = Lv.cw L := by
 have e : ∀ k, Lv.full K k = Lv.full L k := fun k => by unfold Lv.full; rw [(Lv.at_perm h (k : Int)).length_eq]
 unfold Lv.cw
 rw [e, e, e]
theorem Lv.mem_at {n : Int} {x : Mf.P} : x ∈ Lv.at_ n L ↔ x ∈ L ∧ x.lv = n := by
 unfold Lv.at_
 rw [List.mem_filter, beq_iff_eq]
theorem Lv.mn_mem (a : Mf.P) (l : List Mf.P) : Lv.mn a l ∈ a :: l := by
 induction l using Lv.rec' with
 | h0 => exact List.mem_cons_self
 | h1 l x ih =>
   have e : Lv.mn a (l ++ [x]) = if Kn.ncmp x.id (Lv.mn a l).id < 0 then x else Lv.mn a l := by unfold Lv.mn; rw [List.foldl_append]; rfl
   rw [e]
   split
   ·simp
   ·rcases List.mem_cons.1 ih with h | h
    ·rw [h]; exact List.mem_cons_self
    ·exact List.mem_cons_of_mem _ (List.mem_append_left _ h)
theorem Lv.ncmp_lt (a b : Int) : Kn.ncmp a b < 0 ↔ a < b := by unfold Kn.ncmp; repeat' split <;> omega
theorem Lv.mn_le (a : Mf.P) (l : List Mf.P) : ∀ y ∈ a :: l, (Lv.mn a l).id ≤ y.id := by
 induction l using Lv.rec' with
 | h0 => intro y hy; obtain rfl := List.mem_singleton.1 hy; exact Int.le_refl _
 | h1 l x ih =>
   have e : Lv.mn a (l ++ [x]) = if Kn.ncmp x.id (Lv.mn a l).id < 0 then x else Lv.mn a l := by unfold Lv.mn; rw [List.foldl_append]; rfl
   rw [e]
   intro y hy
   have hy2 : y ∈ a :: l ∨ y = x := by
    rcases List.mem_cons.1 hy with h | h
    ·exact .inl (by rw [h]; exact List.mem_cons_self)
    ·rcases List.mem_append.1 h with h | h
     ·exact .inl (List.mem_cons_of_mem _ h)
     ·exact .inr (List.mem_singleton.1 h)
   split
   ·rename_i hc
    rw [Lv.ncmp_lt] at hc
    rcases hy2 with h | rfl
    ·have := ih y h; omega
    ·exact Int.le_refl _
   ·rename_i hc
    rw [Lv.ncmp_lt] at hc
    rcases hy2 with h | rfl
    ·exact ih y h
    ·omega
theorem Lv.ch_perm (h : K.Perm L) (hu : Lv.UN L) (k : Nat) : Lv.ch K k = Lv.ch L k := by
 have hp := Lv.at_perm h (k : Int)
 unfold Lv.ch
 by_cases h0 : k = 0
 ·subst h0
  rw [if_pos rfl, if_pos rfl]
  have hp0 : (Lv.at_ 0 K).Perm (Lv.at_ 0 L) := hp
  refine Lv.uniq _ _ ((Lv.st_perm _ _).trans (hp0.trans (Lv.st_perm _ _).symm)) (Lv.st_sd Lv.sDn _) (Lv.st_sd Lv.sDn _) fun x hx y hy h1 h2 => ?_
  have mx : x ∈ L := (Lv.mem_at.1 (hp0.mem_iff.1 ((Lv.st_perm _ _).mem_iff.1 hx))).1
  have my : y ∈ L := (Lv.mem_at.1 (hp0.mem_iff.1 ((Lv.st_perm _ _).mem_iff.1 hy))).1
  refine Lv.un_inj hu mx my ?_
  unfold ltOf Lv.cDn at h1 h2
  simp only [decide_eq_false_iff_not] at h1 h2
  have e1 := Lv.ncmp_lt x.id y.id
  have e2 := Lv.ncmp_lt y.id x.id
  omega
 ·rw [if_neg h0, if_neg h0]
  generalize Lv.at_ (k : Int) K = A at hp
  have hm : ∀ z, z ∈ Lv.at_ (k : Int) L → z ∈ L := fun z hz => (Lv.mem_at.1 hz).1
  generalize Lv.at_ (k : Int) L = B at hp hm
  match A, B, hp with
  | [], [], _ => rfl
  | [], y :: B, hp => exact absurd hp.length_eq (by simp)
  | x :: A, [], hp => exact absurd hp.length_eq (by simp)
  | x :: A, y :: B, hp =>
    have m1 := Lv.mn_mem x (x :: A)
    have m2 := Lv.mn_mem y (y :: B)
    have l1 := Lv.mn_le x (x :: A)
    have l2 := Lv.mn_le y (y :: B)
    have w1 : ∀ z, z ∈ x :: x :: A → z ∈ x :: A := fun z hz => by rcases List.mem_cons.1 hz with h | h; (rw [h]; exact List.mem_cons_self); exact h
    have w2 : ∀ z, z ∈ y :: y :: B → z ∈ y :: B := fun z hz => by rcases List.mem_cons.1 hz with h | h; (rw [h]; exact List.mem_cons_self); exact h
    have n1 := hp.mem_iff.1 (w1 _ m1)
    have n2 := w2 _ m2
    have e : Lv.mn x (x :: A) = Lv.mn y (y :: B) := Lv.un_inj hu (hm _ n1) (hm _ n2) (by
     have a1 := l1 _ (List.mem_cons_of_mem _ (hp.mem_iff.2 n2))
     have a2 := l2 _ (List.mem_cons_of_mem _ n1)
     omega)
    show [Lv.mn x (x :: A)] = [Lv.mn y (y :: B)]
    rw [e]
theorem Lv.lo_anti (hd : Lv.DJ L) (hw : (L.all fun p => Lv.ov p p) = true) {n : Int} (hn : n ≠ 0) {x y : Mf.P} (hx : x ∈ Lv.at_ n L) (hy : y ∈ Lv.at_ n L) (h1 : Kn.cmp x.lo y.lo ≤ 0) (h2 : Kn.cmp y.lo x.lo ≤ 0) : x = y := by
 by_cases hne : x = y
 ·exact hne
 ·exfalso
  obtain ⟨mx, ex⟩ := Lv.mem_at.1 hx
  obtain ⟨my, ey⟩ := Lv.mem_at.1 hy
  have hb := Lv.dj_two hd mx my hne
  have wx := (Lv.ov_iff x x).1 (List.all_eq_true.1 hw x mx)
  have wy := (Lv.ov_iff y y).1 (List.all_eq_true.1 hw y my)
  have ax := Lv.anti x.hi x.lo
  have ay := Lv.anti y.hi y.lo
  have a1 := Lv.anti x.hi y.lo
  have a2 := Lv.anti y.hi x.lo
  have t1 := Lv.tr h2 (show Kn.cmp x.lo x.hi ≤ 0 by omega)
  have t2 := Lv.tr h1 (show Kn.cmp y.lo y.hi ≤ 0 by omega)
  have ho : Lv.ov x y = true := (Lv.ov_iff x y).2 ⟨by omega, by omega⟩
  unfold Lv.bad at hb
  rw [ho, ex, ey, show (n == n) = true from beq_self_eq_true n, show (n != 0) = true by simpa using hn] at hb
  cases hb
theorem Lv.bl_perm (h : K.Perm L) (hu : Lv.UN L) (hd : Lv.DJ L) (hw : (L.all fun p => Lv.ov p p) = true) (k : Nat) : Lv.bl K k = Lv.bl L k := by
 have hc := Lv.ch_perm h hu k
 cases hx : (Lv.ch L k)[0]? with
 | none =>
   have : Lv.ch L k = [] := by
    cases hl : Lv.ch L k with
    | nil => rfl
    | cons a l => rw [hl] at hx; cases hx
   unfold Lv.bl
   rw [hc, this]
 | some x =>
   rw [Lv.bl_is hx, Lv.bl_is (by rw [hc]; exact hx), hc]
   have hp := (Lv.at_perm h ((k + 1 : Nat) : Int)).filter (Lv.ov (Lv.sp x (Lv.ch L k)))
   refine Lv.uniq _ _ ((Lv.st_perm _ _).trans (hp.trans (Lv.st_perm _ _).symm)) (Lv.st_sd Lv.sLo _) (Lv.st_sd Lv.sLo _) fun a ha b hb h1 h2 => ?_
   have ma := (List.mem_filter.1 (hp.mem_iff.1 ((Lv.st_perm _ _).mem_iff.1 ha))).1
   have mb := (List.mem_filter.1 (hp.mem_iff.1 ((Lv.st_perm _ _).mem_iff.1 hb))).1
   unfold ltOf Lv.cLo at h1 h2
   simp only [decide_eq_false_iff_not] at h1 h2
   have a1 := Lv.anti a.lo b.lo
   exact Lv.lo_anti hd hw (by omega) ma mb (by omega) (by omega)
theorem Lv.pi_perm (h : K.Perm L) (hu : Lv.UN L) (hd : Lv.DJ L) (hw : (L.all fun p => Lv.ov p p) = true) (k : Nat) : Lv.pi K k = Lv.pi L k := by
 unfold Lv.pi
 rw [Lv.ch_perm h hu, Lv.bl_perm h hu hd hw]
theorem Lv.bt_perm (h : K.Perm L) (k : Nat) : Lv.bt K k = Lv.bt L k := by
 unfold Lv.bt
 congr 1
 rw [Bool.eq_iff_iff, List.any_eq_true, List.any_eq_true]
 constructor
 ·rintro ⟨x, hx, hb⟩; exact ⟨x, h.mem_iff.1 hx, hb⟩
 ·rintro ⟨x, hx, hb⟩; exact ⟨x, h.mem_iff.2 hx, hb⟩
end
end Go.Proofs.Ytodeodndjkkkbaa
namespace Go.Proofs.Ytodeodndjkkkbaa
open Go Go.RowKit Go.Lib Go.Sort
def Lv.four : List Mf.P := [Lv.p0 (-1) 0 0, Lv.p0 (-2) 0 0, Lv.p0 (-3) 0 0, Lv.p0 (-4) 0 0]
def Lv.fourC : Array Value := #[.int .i64 (-1), .int .i64 0, .bool false, .int .i64 0, .string ⟨#[]⟩, .bool false, .int .i64 0, .string ⟨#[]⟩, .int .i64 (-2), .int .i64 0, .bool false, .int .i64 0, .string ⟨#[]⟩, .bool false, .int .i64 0, .string ⟨#[]⟩, .int .i64 (-3), .int .i64 0, .bool false, .int .i64 0, .string ⟨#[]⟩, .bool false, .int .i64 0, .string ⟨#[]⟩, .int .i64 (-4), .int .i64 0, .bool false, .int .i64 0, .string ⟨#[]⟩, .bool false, .int .i64 0, .string ⟨#[]⟩]
def Lv.fewOk (F : List Mf.P) : Prop := ∀ n : Int, (Lv.at_ n F).length ≤ 3
theorem Lv.Ow.sl {base : Nat} {w : World} {v : Value} {L : List Mf.P} (h : Mf.Ow base w v L) : ∃ a c, v = .slice a L.length c := by
 rcases Dk.Own.form h with ⟨rfl, rfl⟩ | ⟨g, c, rfl, _⟩
 ·exact ⟨none, 0, rfl⟩
 ·exact ⟨_, c, rfl⟩
end Go.Proofs.Ytodeodndjkkkbaa
namespace Go.Proofs.Ytodeodndjkkkbaa
open Go Go.RowKit Go.Lib Go.Sort
theorem Lv.box44 (w : World) (a b c d e f g h : Value) (T U : TypeId) : ((w.alloc (.cells #[a, b, c, d] T)).alloc (.cells #[e, f, g, h] U)).heap[w.heap.size]? = some (.cells #[a, b, c, d] T (0, 0)) ∧ ((w.alloc (.cells #[a, b, c, d] T)).alloc (.cells #[e, f, g, h] U)).heap[w.heap.size + 1]? = some (.cells #[e, f, g, h] U (0, 0)) ∧ Below w.heap.size w ((w.alloc (.cells #[a, b, c, d] T)).alloc (.cells #[e, f, g, h] U)) := by
 refine ⟨(((Below.refl _ _).alloc (Nat.le_refl _) _).block _ (by simp)).trans (heap_alloc_new w _), ?_, ((Below.refl _ w).alloc (Nat.le_refl _) _).alloc (by simp) _⟩
 have := heap_alloc_new (w.alloc (.cells #[a, b, c, d] T)) (.cells #[e, f, g, h] U)
 rwa [World.size_alloc] at this
set_option maxHeartbeats 1000000 in
set_option maxRecDepth 100000 in
theorem Lv.same_c (x y : Int) (t : Bool) (u v : Value) (X : List Int) (w : World) (hu : Mf.Is w u X) (hv : Mf.Is w v X) (hl : X.length ≤ 1000) :
 Calls Try.prog 17 #[.agg #[.int .i64 x, .int .i64 y, u, .bool t], .agg #[.int .i64 x, .int .i64 y, v, .bool t]] w fun e w' => e = .returned (.bool true) ∧ Below w.heap.size w w' := by
 have HU := Lib.hid hu
 have HV := Lib.hid hv
 have HL := Lib.hid hl
 obtain ⟨a, c, rfl, -, -⟩ := hu
 obtain ⟨a2, c2, rfl, -, -⟩ := hv
 obtain ⟨h1, h2, hb⟩ := Lv.box44 w (.int .i64 x) (.int .i64 y) (.slice a X.length c) (.bool t) (.int .i64 x) (.int .i64 y) (.slice a2 X.length c2) (.bool t) 27 30
 have H1 := Lib.hid h1
 have H2 := Lib.hid h2
 have HB := Lib.hid hb
 have ex : (x != x) = false := bne_self_eq_false x
 have ey : (y != y) = false := bne_self_eq_false y
 have et : (t != t) = false := bne_self_eq_false t
 have en : ((X.length : Int) != (X.length : Int)) = false := bne_self_eq_false _
 clear h1 h2 hb hl
 go_enter Try.func17, Try.ntmps17
 go_upto_region 1 with (fail)
 generalize World.alloc _ _ = wo at H1 H2 HB ⊢
 obtain ⟨⟨y0, y1, y2, y3⟩, -⟩ := Lv.quad H1.out
 obtain ⟨⟨z0, z1, z2, z3⟩, -⟩ := Lv.quad H2.out
 go_wp2_with fail
 go_loopw [5] (fun i wr => ∃ (k : Nat), k ≤ X.length ∧ i = .int .i64 (k : Int) ∧ Below wo.heap.size wo wr) (fun i _ => X.length - (intOf i).toNat)
 case atStart => exact ⟨0, Nat.zero_le _, rfl, Below.refl _ _⟩
 case round =>
  obtain ⟨k, hk, rfl, hB⟩ := hrel
  clear y0 y1 y2 y3 z0 z1 z2 z3
  obtain ⟨⟨y0, y1, y2, y3⟩, -⟩ := Lv.quad ((hB.block _ (lt_of_block H1.out)).trans H1.out)
  obtain ⟨⟨z0, z1, z2, z3⟩, -⟩ := Lv.quad ((hB.block _ (lt_of_block H2.out)).trans H2.out)
  have hbn := HB.out.trans (hB.mono HB.out.size)
  have HBN := Lib.hid hbn
  have HBW := Lib.hid hB
  clear hB
  have hk0 : (0 : Int) ≤ (k : Int) := by omega
  have hk9 : (k : Int) ≤ 1000 := by have := HL.out; omega
  by_cases hkl : k < X.length
  ·have hki : (k : Int) < (X.length : Int) := by omega
   have hx := List.getElem?_eq_getElem hkl
   generalize X[k] = m at hx
   obtain ⟨a3, c3, e3, -, h3⟩ := HU.out.kept hbn
   obtain ⟨a4, c4, e4, -, h4⟩ := HV.out.kept hbn
   simp only [Value.slice.injEq] at e3 e4
   obtain ⟨rfl, -, rfl⟩ := e3
   obtain ⟨rfl, -, rfl⟩ := e4
   rcases h3 with ⟨rfl, _⟩ | ⟨b, o, cls, fr, rfl, _, hbb, hcl⟩
   ·simp at hkl
   rcases h4 with ⟨rfl, _⟩ | ⟨b2, o2, cls2, fr2, rfl, _, hbb2, hcl2⟩
   ·simp at hkl
   have c0 := Mf.Is.num hcl hx
   have d0 := Mf.Is.num hcl2 hx
   have em : (m != m) = false := bne_self_eq_false m
   have HKL := Lib.hid hkl
   clear hcl hcl2 hx hkl hk hbb hbb2 hbn
   go_upto_region 6 with (fail)
   go_quiet (fail)
   go_wp2
   go_roundw
   case rel => exact ⟨k + 1, HKL.out, by simp, Kn.below_drewN HBW.out _⟩
   case measure => (have := HKL.out; simp [intOf]; omega)
  ·have hki : ¬ (k : Int) < (X.length : Int) := by omega
   obtain rfl : k = X.length := by omega
   clear hk hkl hbn
   go_wp2
   go_ret
   exact ⟨rfl, HBN.out⟩
end Go.Proofs.Ytodeodndjkkkbaa
namespace Go.Proofs.Ytodeodndjkkkbaa
open Go Go.RowKit Go.Lib Go.Sort
theorem Lv.drop_rev {α : Type} {K : List α} {m : Nat} {y : α} (h : K[m]? = some y) : (K.drop m).reverse = (K.drop (m + 1)).reverse ++ [y] := by
 obtain ⟨hm, rfl⟩ := List.getElem?_eq_some_iff.1 h
 rw [List.drop_eq_getElem_cons hm, List.reverse_cons]
theorem Lv.Oi.is {base : Nat} {w : World} {v : Value} {L : List Int} (h : Lv.Oi base w v L) : Mf.Is w v L := Mf.At.of (Dk.Own.at Mf.ic_len h)
theorem Lv.pi_len {L : List Mf.P} {k : Nat} (hc : Lv.cw L = some k) (hl : L.length ≤ 80) : (Lv.pi L k).length ≤ 1000 := by
 obtain ⟨_, h1⟩ := Lv.cw_some hc
 obtain ⟨_, h2⟩ := Lv.ch_len h1
 have h3 : (Lv.bl L k).length ≤ L.length := by
  unfold Lv.bl
  split
  ·exact Nat.zero_le _
  ·rw [Lv.st_len]
   exact Nat.le_trans (List.length_filter_le _ _) (Lv.at_len _ _)
 unfold Lv.pi Lv.idl
 rw [List.length_append, List.length_map, List.length_map]
 omega
set_option maxHeartbeats 1000000 in
set_option maxRecDepth 100000 in
theorem Lv.lawOrder_w (v : Value) (L : List Mf.P) (w : World) (hL : Mf.Ps w v L) (hl : L.length ≤ 9223372036854775807) (hz : ∀ p ∈ L, Lv.Zp p) :
 Calls Try.prog 6 #[v] w fun e w' => e = .returned (.bool true) ∧ Below w.heap.size w w' := by
 have CL := Lib.hid (Lv.lives_c w)
 have CE := Lib.hid fun (w' : World) (g : Below w.heap.size w w') => Lv.early_c v L w' (hL.kept g) hl
 have hE : (L.take 80).length ≤ 80 := by rw [List.length_take]; omega
 have hzE : ∀ p ∈ L.take 80, Lv.Zp p := fun p hp => hz p (List.mem_of_mem_take hp)
 generalize L.take 80 = E at CE hE hzE
 have HE := Lib.hid hE
 have HZ := Lib.hid hzE
 obtain ⟨va, vc, rfl, -⟩ := hL.form
 clear hL hl hE hz hzE
 go_enter Try.func6, Try.ntmps6
 go_wp2_with fail
 refine (CL.out).mono ?_
 rintro e w1 ⟨rfl, g1⟩
 have HG1 := Lib.hid g1
 clear g1
 go_wp2_with fail
 refine (CE.out _ HG1.out).mono ?_
 rintro e w2 ⟨u, rfl, hu, rfl⟩
 have HPS := Lib.hid hu
 have CU := Lib.hid (Lv.unlike_c u E w2 hu HE.out)
 obtain ⟨ea, ec, rfl, -⟩ := hu.form
 clear hu
 go_wp2_with fail
 refine (CU.out).mono ?_
 rintro e w3 ⟨rfl, g3⟩
 have HG3 := Lib.hid (HG1.out.trans (g3.mono HG1.out.size))
 have HPS3 := Lib.hid (HPS.out.kept g3)
 clear g3 HPS HG1
 by_cases hun : Lv.UN E
 case neg =>
  rw [decide_eq_false hun]
  go_wp2
  go_ret
  exact ⟨rfl, HG3.out⟩
 rw [decide_eq_true hun]
 have HUN := Lib.hid hun
 clear hun
 go_wp2_with fail
 refine (Lv.disjoint_c _ E w3 HPS3.out (by have := HE.out; omega)).mono ?_
 rintro e w4 ⟨B, rfl, hB, g4⟩
 have HG4 := Lib.hid (HG3.out.trans (g4.mono HG3.out.size))
 have HPS4 := Lib.hid (HPS3.out.kept g4)
 have HBB := Lib.hid hB
 clear g4 HPS3 HG3 hB
 cases B
 case false =>
  go_wp2
  go_ret
  exact ⟨rfl, HG4.out⟩
 have HDJ := Lib.hid (HBB.out.1 rfl)
 go_wp2_with fail
 refine (Lv.well_c _ E w4 HPS4.out (by have := HE.out; omega) HZ.out).mono ?_
 rintro e w5 ⟨rfl, g5⟩
 have HG5 := Lib.hid (HG4.out.trans (g5.mono HG4.out.size))
 have HPS5 := Lib.hid (HPS4.out.kept g5)
 clear g5 HPS4 HG4
 cases hwl : (E.all fun p => Lv.ov p p)
 case false =>
  go_wp2
  go_ret
  exact ⟨rfl, HG5.out⟩
 have HWL := Lib.hid hwl
 clear hwl
 have dq0 : (0 : Int) ≤ (E.length : Int) := by omega
 have dq7 : (E.length : Int) ≤ 80 := by have := HE.out; omega
 go_wp2
 go_loopw [3, 4] (fun f i wr => ∃ j : Nat, j ≤ E.length ∧ i = .int .i64 ((j : Int) - 1) ∧ Mf.Ow w5.heap.size wr f (E.drop j).reverse ∧ Below w5.heap.size w5 wr) (fun _ i _ => (intOf i + 1).toNat)
 case atStart => exact ⟨E.length, Nat.le_refl _, rfl, by rw [List.drop_length]; exact Mf.Ow.nil _ _, Below.refl _ _⟩
 case round =>
  obtain ⟨j, hj, rfl, hO, hB⟩ := hrel
  have HO := Lib.hid hO
  have HB := Lib.hid hB
  obtain ⟨fa, fc, rfl⟩ := Lv.Ow.sl hO
  have HPSR := Lib.hid (HPS5.out.kept hB)
  clear hO hB
  rcases j with _ | m
  ·have d0 : (((0 : Nat) : Int) - 1) = -1 := rfl
   rw [d0]
   rw [List.drop_zero] at HO
   have HPB := Lib.hid HO.out.ps
   have HG := Lib.hid (HG5.out.trans (HB.out.mono HG5.out.size))
   have hlr : E.reverse.length ≤ 1000000000 := by rw [List.length_reverse]; have := HE.out; omega
   have hle : E.length ≤ 1000000000 := by have := HE.out; omega
   have hper : E.reverse.Perm E := List.reverse_perm E
   have HPER := Lib.hid hper
   have hcr := Lv.cw_perm hper
   clear hj d0 HO HB HPS5
   rw [List.drop_zero]
   cases hcw : Lv.cw E with
   | none =>
     have hcr2 := hcr.trans hcw
     have CP1 := Lib.hid fun (W : World) (h : Mf.Ps W (.slice ea E.length ec) E) => Lv.pick_none _ E W h hle hcw
     have CP2 := Lib.hid fun (W : World) (h : Mf.Ps W (.slice fa E.reverse.length fc) E.reverse) => Lv.pick_none _ E.reverse W h hlr hcr2
     clear hcw hcr2 hcr hle hlr hper
     generalize E.reverse = R at HPB CP2 ⊢
     go_wp2_with fail
     refine (CP1.out _ HPSR.out).mono ?_
     rintro e w6 ⟨rfl, g6⟩
     have HG6 := Lib.hid (HG.out.trans (g6.mono HG.out.size))
     have HPB6 := Lib.hid (HPB.out.kept g6)
     clear g6
     have HQ6 := Lib.hid (Lv.box4 w6 (.int .i64 0) (.int .i64 0) (.slice none 0 0) (.bool false) 27)
     have gb : Below w6.heap.size w6 (w6.alloc (.cells #[.int .i64 0, .int .i64 0, .slice none 0 0, .bool false] 27)) := (Below.refl _ _).alloc (Nat.le_refl _) _
     have HG7 := Lib.hid (HG6.out.trans (gb.mono HG6.out.size))
     have HPB7 := Lib.hid (HPB6.out.kept gb)
     clear gb HPB6 HG6 HPB
     go_upto_region 12 with (fail)
     obtain ⟨b, hb⟩ : ∃ b, b = w6.heap.size := ⟨_, rfl⟩
     rw [← hb] at HQ6 ⊢
     generalize World.alloc _ _ = w7 at HQ6 HG7 HPB7 ⊢
     clear hb
     go_wp2_with fail
     refine (CP2.out _ HPB7.out).mono ?_
     rintro e w8 ⟨rfl, g8⟩
     have HG8 := Lib.hid (HG7.out.trans (g8.mono HG7.out.size))
     have HQ8 := Lib.hid ((g8.block b (lt_of_block HQ6.out)).trans HQ6.out)
     clear g8 HG7
     have HR8 := Lib.hid (Lv.box4 w8 (.int .i64 0) (.int .i64 0) (.slice none 0 0) (.bool false) 27)
     have gb : Below w8.heap.size w8 (w8.alloc (.cells #[.int .i64 0, .int .i64 0, .slice none 0 0, .bool false] 27)) := (Below.refl _ _).alloc (Nat.le_refl _) _
     have HG9 := Lib.hid (HG8.out.trans (gb.mono HG8.out.size))
     have HQ9 := Lib.hid ((gb.block b (lt_of_block HQ8.out)).trans HQ8.out)
     clear gb HG8
     go_upto_region 13 with (fail)
     obtain ⟨b2, hb2⟩ : ∃ b, b = w8.heap.size := ⟨_, rfl⟩
     rw [← hb2] at HR8 ⊢
     generalize World.alloc _ _ = w9 at HR8 HG9 HQ9 ⊢
     clear hb2
     obtain ⟨⟨y0, y1, y2, y3⟩, -⟩ := Lv.quad HQ9.out
     obtain ⟨⟨z0, z1, z2, z3⟩, -⟩ := Lv.quad HR8.out
     have CS := Lib.hid (Lv.same_c 0 0 false (.slice none 0 0) (.slice none 0 0) [] w9 (Mf.At.nil _) (Mf.At.nil _) (Nat.zero_le _))
     go_wp2_with fail
     refine (CS.out).mono ?_
     rintro e w10 ⟨rfl, g10⟩
     have HG10 := Lib.hid (HG9.out.trans (g10.mono HG9.out.size))
     clear g10
     go_wp2
     go_ret
     exact ⟨rfl, HG10.out⟩
   | some k =>
     have hcr2 := hcr.trans hcw
     have cp1 := fun (W : World) (h : Mf.Ps W (.slice ea E.length ec) E) => Lv.pick_some _ E k W h hle hcw
     unfold Lv.GotP at cp1
     have cp2 := fun (W : World) (h : Mf.Ps W (.slice fa E.reverse.length fc) E.reverse) => Lv.pick_some _ E.reverse k W h hlr hcr2
     have HPL := Lib.hid (Lv.pi_len hcw HE.out)
     unfold Lv.GotP at cp2
     rw [Lv.pi_perm HPER.out HUN.out HDJ.out HWL.out, Lv.bt_perm HPER.out] at cp2
     obtain ⟨t, ht⟩ : ∃ t : Int, t = ((k + 1 : Nat) : Int) := ⟨_, rfl⟩
     rw [← ht] at cp1 cp2
     have CP1 := Lib.hid cp1
     have CP2 := Lib.hid cp2
     clear hcw hcr2 hcr hle hlr hper cp1 cp2 HPER ht
     generalize E.reverse = R at HPB CP2 ⊢
     go_wp2_with fail
     refine (CP1.out _ HPSR.out).mono ?_
     rintro e w6 ⟨a, n, c, rfl, hid, g6⟩
     generalize Lv.pi E k = X at hid CP2 HPL
     generalize Lv.bt E k = bt at CP2
     have HG6 := Lib.hid (HG.out.trans (g6.mono HG.out.size))
     have HPB6 := Lib.hid (HPB.out.kept g6)
     have HI6 := Lib.hid hid.is
     clear g6 hid
     have HQ6 := Lib.hid (Lv.box4 w6 (.int .i64 (k : Int)) (.int .i64 t) (.slice a n c) (.bool bt) 27)
     have gb : Below w6.heap.size w6 (w6.alloc (.cells #[.int .i64 (k : Int), .int .i64 t, .slice a n c, .bool bt] 27)) := (Below.refl _ _).alloc (Nat.le_refl _) _
     have HG7 := Lib.hid (HG6.out.trans (gb.mono HG6.out.size))
     have HPB7 := Lib.hid (HPB6.out.kept gb)
     have HI7 := Lib.hid (HI6.out.kept gb)
     clear gb HPB6 HG6 HPB HI6
     go_upto_region 12 with (fail)
     obtain ⟨b, hb⟩ : ∃ b, b = w6.heap.size := ⟨_, rfl⟩
     rw [← hb] at HQ6 ⊢
     generalize World.alloc _ _ = w7 at HQ6 HG7 HPB7 HI7 ⊢
     clear hb
     go_wp2_with fail
     refine (CP2.out _ HPB7.out).mono ?_
     rintro e w8 ⟨a2, n2, c2, rfl, hid2, g8⟩
     have HG8 := Lib.hid (HG7.out.trans (g8.mono HG7.out.size))
     have HQ8 := Lib.hid ((g8.block b (lt_of_block HQ6.out)).trans HQ6.out)
     have HI8 := Lib.hid (HI7.out.kept g8)
     have HJ8 := Lib.hid hid2.is
     clear g8 HG7 hid2 HI7
     have HR8 := Lib.hid (Lv.box4 w8 (.int .i64 (k : Int)) (.int .i64 t) (.slice a2 n2 c2) (.bool bt) 27)
     have gb : Below w8.heap.size w8 (w8.alloc (.cells #[.int .i64 (k : Int), .int .i64 t, .slice a2 n2 c2, .bool bt] 27)) := (Below.refl _ _).alloc (Nat.le_refl _) _
     have HG9 := Lib.hid (HG8.out.trans (gb.mono HG8.out.size))
     have HQ9 := Lib.hid ((gb.block b (lt_of_block HQ8.out)).trans HQ8.out)
     have HI9 := Lib.hid (HI8.out.kept gb)
     have HJ9 := Lib.hid (HJ8.out.kept gb)
     clear gb HG8
     go_upto_region 13 with (fail)
     obtain ⟨b2, hb2⟩ : ∃ b, b = w8.heap.size := ⟨_, rfl⟩
     rw [← hb2] at HR8 ⊢
     generalize World.alloc _ _ = w9 at HR8 HG9 HQ9 HI9 HJ9 ⊢
     clear hb2
     obtain ⟨⟨y0, y1, y2, y3⟩, -⟩ := Lv.quad HQ9.out
     obtain ⟨⟨z0, z1, z2, z3⟩, -⟩ := Lv.quad HR8.out
     have CS := Lib.hid (Lv.same_c (k : Int) t bt (.slice a n c) (.slice a2 n2 c2) X w9 HI9.out HJ9.out HPL.out)
     go_wp2_with fail
     refine (CS.out).mono ?_
     rintro e w10 ⟨rfl, g10⟩
     have HG10 := Lib.hid (HG9.out.trans (g10.mono HG9.out.size))
     clear g10
     go_wp2
     go_ret
     exact ⟨rfl, HG10.out⟩
  ·have hx := List.getElem?_eq_getElem (show m < E.length by omega)
   generalize E[m]'(by omega) = x at hx
   have e1 : ((m + 1 : Nat) : Int) - 1 = (m : Int) := by omega
   rw [e1]
   obtain ⟨b, o, rfl, hPA⟩ := HPSR.out.at_ hx
   have HDR := Lib.hid (Lv.drop_rev hx)
   have HJ : Hid (m + 1 ≤ E.length) := Lib.hid hj
   have HML : Hid ((E.drop (m + 1)).reverse.length ≤ 80) := Lib.hid (by rw [List.length_reverse, List.length_drop]; have := HE.out; omega)
   have dm0 : (0 : Int) ≤ (m : Int) := by omega
   have dm : (m : Int) < (E.length : Int) := by omega
   generalize (E.drop (m + 1)).reverse = M at HO HDR HML ⊢
   obtain ⟨i, l, ⟨an, ai, sa⟩, ⟨bn, bi, sb⟩⟩ := x
   obtain ⟨c0, c1, c2, c3, c4, c5, c6, c7⟩ := hPA
   simp only at c0 c1 c2 c3 c4 c5 c6 c7
   have g5 : Below wr.heap.size wr (wr.alloc (.cells #[.int .i64 i, .int .i64 l, .bool an, .int .i64 ai, .string sa, .bool bn, .int .i64 bi, .string sb] 38)) := (Below.refl _ _).alloc (Nat.le_refl _) _
   have HO5 := Lib.hid (HO.out.kept g5)
   have HB5 := Lib.hid (HB.out.trans (g5.mono HB.out.size))
   have HSR := Lib.hid (Dk.src_one (enc := Mf.pc) wr ⟨i, l, ⟨an, ai, sa⟩, ⟨bn, bi, sb⟩⟩ #[.int .i64 i, .int .i64 l, .bool an, .int .i64 ai, .string sa, .bool bn, .int .i64 bi, .string sb] rfl 38)
   clear g5 hx hj e1
   go_wp2_with (at_builtin; refine Mf.wpList_part [⟨i, l, ⟨an, ai, sa⟩, ⟨bn, bi, sb⟩⟩] HO5.out HB5.out.size (by have := HML.out; simp only [List.length_singleton]; omega) HSR.out _ _ (by rfl) (by rfl) (by rfl) (by rfl) ?_; intro v6 w6 o6 g6; have HO6 := Lib.hid o6; have HB6 := Lib.hid (Mf.ow_below HB5.out HB5.out.size HO5.out g6); clear o6 g6)
   go_wp2
   go_roundw
   case rel => exact ⟨m, by have := HJ.out; omega, by simp, by rw [HDR.out]; exact HO6.out, HB6.out⟩
   case measure => simp [intOf]
end Go.Proofs.Ytodeodndjkkkbaa
namespace Go.Proofs.Ytodeodndjkkkbaa.Ty
open Go.RowKit Go.WideShapes Go.ChangeShapes
theorem post_below {H : Type} {enc : TypeId × Value → H} {P : Program} {f : Func} {s : ChangeSpec} {apart fresh handsOn again : Bool} {W W' : World} {args : Array Value} {v : Value} {ds gs : List (DataW H)} {before pa pv : List MemPlace}
 (hW : DataW.Whole enc P f.params.toList s.vars apart W args.toList ds gs before)
 (hr : ∀ (b : Nat) (sp : Nat → Bool) (hd : Bool), DataW.TrodAll enc P W' b sp hd f.resultTypes.toList (v.resultList f.resultTypes.size) (s.fn H (ds ++ gs)).results [])
 (ha : ∀ sp : Nat → Bool, (∀ p ∈ before, sp p.block = true) → DataW.TrodAll enc P W' 0 sp true f.params.toList args.toList (s.fn H (ds ++ gs)).args pa)
 (hv : ∀ sp : Nat → Bool, (∀ p ∈ before, sp p.block = true) → DataW.TrodVars enc P W' sp s.vars (s.fn H (ds ++ gs)).vars pv)
 (hp : before = pa ++ pv) (hb : Below W.heap.size W W')
 (hok : ∀ (j : Nat) (t : TypeId) (r : Value), f.resultTypes[j]? = some t → (v.resultList f.resultTypes.size)[j]? = some r → Value.okWide P W' .any 0 t r) :
 s.post enc P f apart fresh handsOn again W args v W' := by
 have hl : ∀ p ∈ before, p.block < W.heap.size := fun p h => hW.lt p h
 have hs : ∀ p ∈ before, (fun b => decide (b < W.heap.size)) p.block = true := fun p h => by simpa using hl p h
 have hW0 := hW
 obtain ⟨_, _, _, _, _, hz, hn⟩ := hW0
 refine ⟨ds, gs, before, [], pa, pv, hW, hr _ _ _, ha _ hs, hv _ hs, World.keptBut_mono (fun p h => ⟨h, by rw [hp] at h; exact .inr (List.mem_append.1 h)⟩) (hb.frame (· ∈ before)), fun _ => ⟨hok, _, _, ([] ++ pa) ++ pv, ⟨[] ++ pa, pv, trodAll_append (ha _ (fun _ _ => rfl)) (hr _ _ _), hv _ (fun _ _ => rfl), rfl, ?_, ?_⟩, ?_⟩⟩
 ·intro b off h
  have hin : MemPlace.cell b off ∈ before := by rw [hp]; simpa using h
  rw [hb.frozen (hl _ hin)]
  exact hz b off hin
 ·intro hap
  have := hn hap
  rw [hp] at this
  simpa using this
 ·intro p h _
  rw [hp]
  simpa using h
end Go.Proofs.Ytodeodndjkkkbaa.Ty
namespace Go.Proofs.Ytodeodndjkkkbaa.Ty
open Go.RowKit Go.WideShapes Go.ChangeShapes
theorem all_stay {H : Type} {enc : TypeId × Value → H} {P : Program} (hl : laidOutB P = true) {W W' : World} {sp : Nat → Bool} : ∀ (ts : List TypeId) (vs : List Value) (ds : List (DataW H)) (ps : List MemPlace),
 (ts.all fun t => P.readableRec t && decide (t < P.types.size)) = true → DataW.TrodAll enc P W 0 (fun _ => true) true ts vs ds ps → (∀ p ∈ ps, W.sameAt W' p) → (∀ p ∈ ps, sp p.block = true) → DataW.TrodAll enc P W' 0 sp true ts vs ds ps
 | [], [], [], _, _, h, _, _ => h
 | [], [], _ :: _, _, _, h, _, _ => h.elim
 | [], _ :: _, [], _, _, h, _, _ => h.elim
 | [], _ :: _, _ :: _, _, _, h, _, _ => h.elim
 | _ :: _, [], [], _, _, h, _, _ => h.elim
 | _ :: _, [], _ :: _, _, _, h, _, _ => h.elim
 | _ :: _, _ :: _, [], _, _, h, _, _ => h.elim
 | t :: ts, v :: vs, d :: ds, ps, ht, h, hs, hsp => by
   obtain ⟨p, q, h1, h2, rfl⟩ := h
   simp only [List.all_cons, Bool.and_eq_true, decide_eq_true_eq] at ht
   exact ⟨p, q, WideElems.Trod_stays hl ht.1.1 ht.1.2 h1 (fun x hx => hs x (List.mem_append_left _ hx)) (fun x hx => hsp x (List.mem_append_left _ hx)),
    all_stay hl ts vs ds q ht.2 h2 (fun x hx => hs x (List.mem_append_right _ hx)) (fun x hx => hsp x (List.mem_append_right _ hx)), rfl⟩
end Go.Proofs.Ytodeodndjkkkbaa.Ty
