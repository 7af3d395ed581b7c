import Derived.Test.YtodeodndjkkkbaaTAO
import Derived.Test.YtodeodndjkkkbaaTAH
import Derived.Laws.ResultCell
import Derived.BigQuiet
namespace Go.Proofs.Ytodeodndjkkkbaa
section
open Go Go.RowKit Go.Lib Go.Sort
theorem Lv.uniq {α : Type} {R : α → α → Prop} : ∀ (K M : List α), K.Perm M → K.Pairwise R → M.Pairwise R → (∀ x ∈ K, ∀ y ∈ K, R x y → R y x → x = y) → K = M
 | [], M, h, _, _, _ => h.nil_eq
 | x :: K, [], h, _, _, _ => by have := h.length_eq; simp at this
 | x :: K, y :: M, h, hK, hM, ha => by
   rw [List.pairwise_cons] at hK hM
   have hxy : x = y := by
    have h1 : x ∈ y :: M := h.mem_iff.1 List.mem_cons_self
    have h2 : y ∈ x :: K := h.mem_iff.2 List.mem_cons_self
    rcases List.mem_cons.1 h1 with h1 | h1
    ·exact h1
    rcases List.mem_cons.1 h2 with h2 | h2
    ·exact h2.symm
    exact ha x List.mem_cons_self y (List.mem_cons_of_mem _ h2) (hK.1 y h2) (hM.1 x h1)
   subst hxy
   rw [Lv.uniq K M (List.Perm.cons_inv h) hK.2 hM.2 fun a h1 b h2 => ha a (List.mem_cons_of_mem _ h1) b (List.mem_cons_of_mem _ h2)]
theorem Lv.two_of {R : Mf.P → Mf.P → Prop} (hs : ∀ x y, R x y → R y x) {L : List Mf.P} (h : L.Pairwise R) {x y : Mf.P} (hx : x ∈ L) (hy : y ∈ L) (hne : x ≠ y) : R x y := by
 obtain ⟨i, hi, rfl⟩ := List.getElem_of_mem hx
 obtain ⟨j, hj, rfl⟩ := List.getElem_of_mem hy
 rw [List.pairwise_iff_getElem] at h
 rcases Nat.lt_trichotomy i j with hl | hl | hl
 ·exact h i j hi hj hl
 ·subst hl; exact absurd rfl hne
 ·exact hs _ _ (h j i hj hi hl)
theorem Lv.un_inj {L : List Mf.P} (h : Lv.UN L) {x y : Mf.P} (hx : x ∈ L) (hy : y ∈ L) (he : x.id = y.id) : x = y := by
 by_cases hne : x = y
 ·exact hne
 ·exact absurd he (Lv.two_of (R := fun x y => x.id ≠ y.id) (fun _ _ h e => h e.symm) h hx hy hne)
theorem Lv.dj_two {L : List Mf.P} (h : Lv.DJ L) {x y : Mf.P} (hx : x ∈ L) (hy : y ∈ L) (hne : x ≠ y) : Lv.bad x y = false :=
 Lv.two_of (R := fun x y => Lv.bad x y = false) (fun x y h => by rw [Lv.bad_comm]; exact h) h hx hy hne
section
variable {K L : List Mf.P}
theorem Lv.mem_at {n : Int} {x : Mf.P} : x ∈ Lv.at_ n L ↔ x ∈ L ∧ x.lv = n := by
 unfold Lv.at_
 rw [List.mem_filter, beq_iff_eq]
theorem Lv.mn_mem (a : Mf.P) (l : List Mf.P) : Lv.mn a l ∈ a :: l := by
 induction l using Lv.rec' with
 | h0 => exact List.mem_cons_self
 | h1 l x ih =>
   have e : Lv.mn a (l ++ [x]) = if Kn.ncmp x.id (Lv.mn a l).id < 0 then x else Lv.mn a l := by unfold Lv.mn; rw [List.foldl_append]; rfl
   rw [e]
   split
   ·simp
   ·rcases List.mem_cons.1 ih with h | h
    ·rw [h]; exact List.mem_cons_self
    ·exact List.mem_cons_of_mem _ (List.mem_append_left _ h)
end
end
section
open Go Go.RowKit Go.Lib Go.Sort
def Lv.nm (L : List Mf.P) (k : Nat) : List Mf.P := Lv.ch L k ++ Lv.bl L k
theorem Lv.pi_nm (L : List Mf.P) (k : Nat) : Lv.pi L k = (Lv.nm L k).map fun x => x.id := by unfold Lv.pi Lv.nm Lv.idl; rw [List.map_append]
theorem Lv.cself (a : Kn.V) : Kn.cmp a a = 0 := by have := Lv.anti a a; omega
theorem Lv.wd_cov (s x : Mf.P) : (Kn.cmp (Lv.wd s x).lo s.lo ≤ 0 ∧ Kn.cmp s.hi (Lv.wd s x).hi ≤ 0) ∧ Kn.cmp (Lv.wd s x).lo x.lo ≤ 0 ∧ Kn.cmp x.hi (Lv.wd s x).hi ≤ 0 := by
 have h1 := Lv.anti x.lo s.lo
 have h2 := Lv.anti x.hi s.hi
 have e1 := Lv.cself x.lo
 have e2 := Lv.cself x.hi
 have e3 := Lv.cself s.lo
 have e4 := Lv.cself s.hi
 unfold Lv.wd Lv.wHi Lv.wLo
 split <;> split <;> simp_all <;> omega
theorem Lv.sp_cov (a : Mf.P) (L : List Mf.P) : ∀ c ∈ L, Kn.cmp (Lv.sp a L).lo c.lo ≤ 0 ∧ Kn.cmp c.hi (Lv.sp a L).hi ≤ 0 := by
 induction L using Lv.rec' with
 | h0 => intro c hc; cases hc
 | h1 l x ih =>
   have e : Lv.sp a (l ++ [x]) = Lv.wd (Lv.sp a l) x := by unfold Lv.sp; rw [List.foldl_append]; rfl
   rw [e]
   obtain ⟨⟨h1, h2⟩, h3, h4⟩ := Lv.wd_cov (Lv.sp a l) x
   intro c hc
   rcases List.mem_append.1 hc with hc | hc
   ·obtain ⟨i1, i2⟩ := ih c hc
    exact ⟨Lv.tr h1 i1, Lv.tr i2 h2⟩
   ·obtain rfl := List.mem_singleton.1 hc
    exact ⟨h3, h4⟩
theorem Lv.ch_mem {L : List Mf.P} {k : Nat} {p : Mf.P} (h : p ∈ Lv.ch L k) : p ∈ L ∧ p.lv = (k : Int) := by
 unfold Lv.ch at h
 by_cases h0 : k = 0
 ·subst h0
  rw [if_pos rfl] at h
  exact Lv.mem_at.1 ((Lv.st_perm _ _).mem_iff.1 h)
 ·rw [if_neg h0] at h
  cases hA : Lv.at_ (k : Int) L with
  | nil => rw [hA] at h; cases h
  | cons x l =>
    rw [hA] at h
    obtain rfl := List.mem_singleton.1 h
    have m := Lv.mn_mem x (x :: l)
    have m2 : Lv.mn x (x :: l) ∈ Lv.at_ (k : Int) L := by
     rw [hA]
     rcases List.mem_cons.1 m with h | h
     ·rw [h]; exact List.mem_cons_self
     ·exact h
    exact Lv.mem_at.1 m2
theorem Lv.bl_mem {L : List Mf.P} {k : Nat} {p : Mf.P} (h : p ∈ Lv.bl L k) : p ∈ L ∧ p.lv = ((k + 1 : Nat) : Int) := by
 unfold Lv.bl at h
 split at h
 ·cases h
 ·exact Lv.mem_at.1 (List.mem_filter.1 ((Lv.st_perm _ _).mem_iff.1 h)).1
theorem Lv.nm_mem {L : List Mf.P} {k : Nat} {p : Mf.P} (h : p ∈ Lv.nm L k) : p ∈ L ∧ (p.lv = (k : Int) ∨ p.lv = ((k + 1 : Nat) : Int)) := by
 rcases List.mem_append.1 h with h | h
 ·exact ⟨(Lv.ch_mem h).1, .inl (Lv.ch_mem h).2⟩
 ·exact ⟨(Lv.bl_mem h).1, .inr (Lv.bl_mem h).2⟩
end
section
open Go Go.RowKit Go.Lib Go.Sort
theorem Lv.nm_iff {E : List Mf.P} (hu : Lv.UN E) {k : Nat} {p : Mf.P} (hp : p ∈ E) : p.id ∈ Lv.pi E k ↔ p ∈ Lv.nm E k := by
 rw [Lv.pi_nm]
 constructor
 ·intro h
  obtain ⟨q, hq, e⟩ := List.mem_map.1 h
  have := Lv.un_inj hu (Lv.nm_mem hq).1 hp e
  rw [← this]
  exact hq
 ·intro h
  exact List.mem_map.2 ⟨p, h, rfl⟩
theorem Lv.nov {x y : Mf.P} (h : Lv.ov x y = false) : Kn.cmp x.hi y.lo < 0 ∨ Kn.cmp y.hi x.lo < 0 := by
 by_cases h1 : Kn.cmp x.hi y.lo < 0
 ·exact .inl h1
 ·by_cases h2 : Kn.cmp y.hi x.lo < 0
  ·exact .inr h2
  ·have : Lv.ov x y = true := (Lv.ov_iff x y).2 ⟨by omega, by omega⟩
   rw [h] at this
   cases this
theorem Lv.nov_of {x y : Mf.P} (h : Kn.cmp x.hi y.lo < 0 ∨ Kn.cmp y.hi x.lo < 0) : Lv.ov x y = false := by
 cases ho : Lv.ov x y
 ·rfl
 ·obtain ⟨h1, h2⟩ := (Lv.ov_iff x y).1 ho
  omega
theorem Lv.side {E : List Mf.P} (hu : Lv.UN E) (hd : Lv.DJ E) {k : Nat} (hc : 0 < (Lv.ch E k).length) {x : Mf.P} (hx : x ∈ E) (hl : x.lv = ((k + 1 : Nat) : Int)) (hn : x.id ∉ Lv.pi E k) (hw : Lv.ov x x = true) :
 (∀ p ∈ Lv.nm E k, Kn.cmp x.hi p.lo < 0) ∨ ∀ p ∈ Lv.nm E k, Kn.cmp p.hi x.lo < 0 := by
 rw [Lv.nm_iff hu hx] at hn
 obtain ⟨s, hs⟩ : ∃ s, (Lv.ch E k)[0]? = some s := ⟨_, List.getElem?_eq_getElem hc⟩
 have hbl := Lv.bl_is hs
 have hcov := Lv.sp_cov s (Lv.ch E k)
 have wx := ((Lv.ov_iff x x).1 hw).1
 have ax := Lv.anti x.hi x.lo
 have hxs : Lv.ov (Lv.sp s (Lv.ch E k)) x = false := by
  cases ho : Lv.ov (Lv.sp s (Lv.ch E k)) x
  ·rfl
  ·exfalso
   apply hn
   unfold Lv.nm
   refine List.mem_append_right _ ?_
   rw [hbl, (Lv.st_perm _ _).mem_iff, List.mem_filter]
   exact ⟨Lv.mem_at.2 ⟨hx, hl⟩, ho⟩
 have hb : ∀ b ∈ Lv.bl E k, Lv.ov (Lv.sp s (Lv.ch E k)) b = true ∧ Lv.ov x b = false := fun b hb => by
  have hb2 := hb
  rw [hbl, (Lv.st_perm _ _).mem_iff, List.mem_filter] at hb2
  refine ⟨hb2.2, ?_⟩
  obtain ⟨m1, m2⟩ := Lv.bl_mem hb
  have hne : x ≠ b := fun e => hn (by rw [e]; exact List.mem_append_right _ hb)
  have hbad := Lv.dj_two hd hx m1 hne
  unfold Lv.bad at hbad
  rw [hl, m2, show (((k + 1 : Nat) : Int) == ((k + 1 : Nat) : Int)) = true from beq_self_eq_true _, show (((k + 1 : Nat) : Int) != 0) = true from bne_iff_ne.2 (by omega)] at hbad
  simpa using hbad
 generalize Lv.sp s (Lv.ch E k) = S at hcov hxs hb
 rcases Lv.nov hxs with h | h
 ·right
  intro p hp
  rcases List.mem_append.1 hp with hp | hp
  ·have := (hcov p hp).2
   exact Lv.tr_lt this h
  ·obtain ⟨o1, o2⟩ := hb p hp
   obtain ⟨o1, _⟩ := (Lv.ov_iff _ _).1 o1
   rcases Lv.nov o2 with h2 | h2
   ·exfalso
    have a1 := Lv.anti S.hi p.lo
    have t1 := Lv.tr_lt (show Kn.cmp p.lo S.hi ≤ 0 by omega) h
    have t2 := Lv.lt_tr t1 (show Kn.cmp x.lo x.hi ≤ 0 by omega)
    have a2 := Lv.anti x.hi p.lo
    omega
   ·exact h2
 ·left
  intro p hp
  rcases List.mem_append.1 hp with hp | hp
  ·have := (hcov p hp).1
   exact Lv.lt_tr h this
  ·obtain ⟨o1, o2⟩ := hb p hp
   obtain ⟨_, o1⟩ := (Lv.ov_iff _ _).1 o1
   rcases Lv.nov o2 with h2 | h2
   ·exact h2
   ·exfalso
    have a1 := Lv.anti p.hi S.lo
    have t1 := Lv.lt_tr h (show Kn.cmp S.lo p.hi ≤ 0 by omega)
    have t2 := Lv.lt_tr t1 (show Kn.cmp p.hi x.lo ≤ 0 by omega)
    have a2 := Lv.anti x.hi x.lo
    omega
theorem Lv.keeps {E : List Mf.P} (hu : Lv.UN E) (hd : Lv.DJ E) {k : Nat} (hc : 0 < (Lv.ch E k).length) {o : Mf.P} (hl : o.lv = ((k + 1 : Nat) : Int)) {R : List Mf.P} (hR : R = E.filter fun p => !decide (p.id ∈ Lv.pi E k)) (hw : (R.all fun p => Lv.ov p p) = true)
 (ha : ∃ a ∈ E, a.id ∈ Lv.pi E k ∧ o.lo = a.lo) (hb : ∃ b ∈ E, b.id ∈ Lv.pi E k ∧ o.hi = b.hi) : Lv.DJ (R ++ [o]) := by
 subst hR
 unfold Lv.DJ
 rw [List.pairwise_append]
 refine ⟨List.Pairwise.filter _ hd, List.pairwise_singleton _ _, fun x hx y hy => ?_⟩
 obtain rfl := List.mem_singleton.1 hy
 obtain ⟨hxE, hxn⟩ := List.mem_filter.1 hx
 have hwx := List.all_eq_true.1 hw x hx
 have hxn2 : x.id ∉ Lv.pi E k := by simpa using hxn
 unfold Lv.bad
 by_cases he : x.lv = y.lv
 ·obtain ⟨a, haE, han, hal⟩ := ha
  obtain ⟨b, hbE, hbn, hbh⟩ := hb
  rw [Lv.nm_iff hu haE] at han
  rw [Lv.nm_iff hu hbE] at hbn
  have : Lv.ov x y = false := by
   apply Lv.nov_of
   rcases Lv.side hu hd hc hxE (he.trans hl) hxn2 hwx with h | h
   ·left; rw [hal]; exact h a han
   ·right; rw [hbh]; exact h b hbn
  rw [this, Bool.and_false]
 ·rw [show (x.lv == y.lv) = false from beq_eq_false_iff_ne.2 he]
  rfl
def Lv.wr_ (a b : Mf.P) : Mf.P := ⟨a.id, a.lv, if Kn.cmp b.lo a.lo < 0 then b.lo else a.lo, if Kn.cmp a.hi b.hi < 0 then b.hi else a.hi⟩
structure Lv.On (E : List Mf.P) (X : List Int) (t : Int) (j : Nat) (o : Mf.P) (first : Bool) : Prop where
 lv : o.lv = t
 z : Lv.Zp o
 yes : first = true → ∀ p ∈ E.take j, p.id ∉ X
 no : first = false → (∃ a ∈ E, a.id ∈ X ∧ o.lo = a.lo) ∧ ∃ b ∈ E, b.id ∈ X ∧ o.hi = b.hi
theorem Lv.On.skip {E : List Mf.P} {X : List Int} {t : Int} {j : Nat} {o : Mf.P} {first : Bool} (h : Lv.On E X t j o first) {p : Mf.P} (hp : E[j]? = some p) (hn : p.id ∉ X) : Lv.On E X t (j + 1) o first :=
 ⟨h.lv, h.z, fun hf q hq => by
  obtain ⟨hj, rfl⟩ := List.getElem?_eq_some_iff.1 hp
  rw [List.take_succ_eq_append_getElem hj] at hq
  rcases List.mem_append.1 hq with hq | hq
  ·exact h.yes hf q hq
  ·obtain rfl := List.mem_singleton.1 hq
   exact hn, h.no⟩
theorem Lv.wr_lo (o p : Mf.P) : (Lv.wr_ o p).lo = o.lo ∨ (Lv.wr_ o p).lo = p.lo := by unfold Lv.wr_; simp only; split <;> simp
theorem Lv.wr_hi (o p : Mf.P) : (Lv.wr_ o p).hi = o.hi ∨ (Lv.wr_ o p).hi = p.hi := by unfold Lv.wr_; simp only; split <;> simp
theorem Lv.On.take {E : List Mf.P} {X : List Int} {t : Int} {j : Nat} {o : Mf.P} {first : Bool} (h : Lv.On E X t j o first) {p : Mf.P} (hp : E[j]? = some p) (hn : p.id ∈ X) (hz : Lv.Zp p) :
 Lv.On E X t (j + 1) (Lv.wr_ (if first = true then ⟨o.id, o.lv, p.lo, p.hi⟩ else o) p) false := by
 have hpE := List.mem_of_getElem? hp
 have key : ∀ q : Mf.P, q.lv = t → Lv.Zp q → ((∃ a ∈ E, a.id ∈ X ∧ q.lo = a.lo) ∧ ∃ b ∈ E, b.id ∈ X ∧ q.hi = b.hi) → Lv.On E X t (j + 1) (Lv.wr_ q p) false := fun q h1 h2 h3 => by
  refine ⟨h1, ?_, (fun h => (by cases h)), fun _ => ⟨?_, ?_⟩⟩
  ·unfold Lv.Zp
   rcases Lv.wr_lo q p with e1 | e1 <;> rcases Lv.wr_hi q p with e2 | e2 <;> rw [e1, e2]
   ·exact h2
   ·exact ⟨h2.1, hz.2⟩
   ·exact ⟨hz.1, h2.2⟩
   ·exact hz
  ·rcases Lv.wr_lo q p with e1 | e1 <;> rw [e1]
   ·exact h3.1
   ·exact ⟨p, hpE, hn, rfl⟩
  ·rcases Lv.wr_hi q p with e1 | e1 <;> rw [e1]
   ·exact h3.2
   ·exact ⟨p, hpE, hn, rfl⟩
 cases first
 ·rw [if_neg (by decide)]
  exact key o h.lv h.z (h.no rfl)
 ·rw [if_pos rfl]
  exact key _ h.lv hz ⟨⟨p, hpE, hn, rfl⟩, p, hpE, hn, rfl⟩
end
section
open Go Go.RowKit Go.Lib Go.Sort
def Lv.four : List Mf.P := [Lv.p0 (-1) 0 0, Lv.p0 (-2) 0 0, Lv.p0 (-3) 0 0, Lv.p0 (-4) 0 0]
def Lv.fourC : Array Value := #[.int .i64 (-1), .int .i64 0, .bool false, .int .i64 0, .string ⟨#[]⟩, .bool false, .int .i64 0, .string ⟨#[]⟩, .int .i64 (-2), .int .i64 0, .bool false, .int .i64 0, .string ⟨#[]⟩, .bool false, .int .i64 0, .string ⟨#[]⟩, .int .i64 (-3), .int .i64 0, .bool false, .int .i64 0, .string ⟨#[]⟩, .bool false, .int .i64 0, .string ⟨#[]⟩, .int .i64 (-4), .int .i64 0, .bool false, .int .i64 0, .string ⟨#[]⟩, .bool false, .int .i64 0, .string ⟨#[]⟩]
def Lv.fewOk (F : List Mf.P) : Prop := ∀ n : Int, (Lv.at_ n F).length ≤ 3
theorem Lv.Ow.sl {base : Nat} {w : World} {v : Value} {L : List Mf.P} (h : Mf.Ow base w v L) : ∃ a c, v = .slice a L.length c := by
 rcases Dk.Own.form h with ⟨rfl, rfl⟩ | ⟨g, c, rfl, _⟩
 ·exact ⟨none, 0, rfl⟩
 ·exact ⟨_, c, rfl⟩
end
section
open Go Go.RowKit Go.Lib Go.Sort
end
section
open Go Go.RowKit Go.Lib Go.Sort
end
section
open Go Go.RowKit Go.Lib Go.Sort
theorem Lv.Oi.is {base : Nat} {w : World} {v : Value} {L : List Int} (h : Lv.Oi base w v L) : Mf.Is w v L := Mf.At.of (Dk.Own.at Mf.ic_len h)
theorem Lv.pi_len {L : List Mf.P} {k : Nat} (hc : Lv.cw L = some k) (hl : L.length ≤ 80) : (Lv.pi L k).length ≤ 1000 := by
 obtain ⟨_, h1⟩ := Lv.cw_some hc
 obtain ⟨_, h2⟩ := Lv.ch_len h1
 have h3 : (Lv.bl L k).length ≤ L.length := by
  unfold Lv.bl
  split
  ·exact Nat.zero_le _
  ·rw [Lv.st_len]
   exact Nat.le_trans (List.length_filter_le _ _) (Lv.at_len _ _)
 unfold Lv.pi Lv.idl
 rw [List.length_append, List.length_map, List.length_map]
 omega
end
end Go.Proofs.Ytodeodndjkkkbaa
