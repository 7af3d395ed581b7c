import Derived.WalkKit
import Derived.Lib.AppendStr
import Derived.Laws.AppendOwnNone
import Derived.WalkSpells
import Derived.Test.YteaglaijkafphaaDoorRows
import Derived.Test.YteaglaijkafphaaDoorZAB
import Derived.Lib.Hide
import Derived.Test.YteaglaijkafphaaDoorZAA
namespace Go.Proofs.YteaglaijkafphaaDoor.Ty
open Go Go.RowKit
structure Grew (w w' : World) (v v' : Value) : Prop where
 by_ : w.grownBy w' v.ownBlock
 own : v'.ownBlock = v.ownBlock ∨ ∃ k, v'.ownBlock = some k ∧ w.heap.size ≤ k
theorem Grew.refl (w : World) (v : Value) : Grew w w v v := ⟨⟨rfl, rfl, rfl, Nat.le_refl _, fun _ _ _ => rfl⟩, .inl rfl⟩
theorem Grew.trans {w w1 w2 : World} {v v1 v2 : Value} (h : Grew w w1 v v1) (k : Grew w1 w2 v1 v2) : Grew w w2 v v2 := by
 refine ⟨⟨k.by_.os.trans h.by_.os, k.by_.tape.trans h.by_.tape, k.by_.output.trans h.by_.output, Nat.le_trans h.by_.size k.by_.size, fun i hi hne => ?_⟩, ?_⟩
 ·refine (k.by_.block i (Nat.lt_of_lt_of_le hi h.by_.size) ?_).trans (h.by_.block i hi hne)
  rcases h.own with e | ⟨j, e, hj⟩
  ·rw [e]; exact hne
  ·rw [e]; intro e2; have := Option.some.inj e2; omega
 ·rcases k.own with e | ⟨j, e, hj⟩
  ·rcases h.own with e' | ⟨i, e', hi⟩
   ·exact .inl (e.trans e')
   ·exact .inr ⟨i, e.trans e', hi⟩
  ·exact .inr ⟨j, e, Nat.le_trans h.by_.size hj⟩
theorem Grew.behind {w w' : World} {v v' : Value} (o : Obj) (h : Grew (w.alloc o) w' v v') : Grew w w' v v' := by
 refine ⟨⟨h.by_.os, h.by_.tape, h.by_.output, by have := h.by_.size; simp at this; omega, fun i hi hne => ?_⟩, ?_⟩
 ·exact (h.by_.block i (by simp; omega) hne).trans (Below.heap_alloc w o i hi)
 ·rcases h.own with e | ⟨j, e, hj⟩
  ·exact .inl e
  ·exact .inr ⟨j, e, by simp at hj; omega⟩
theorem Grew.below {w w' : World} {v v' : Value} (h : Grew w w' v v') {B : Nat} (hB : B ≤ w.heap.size) (hv : ∀ k, v.ownBlock = some k → B ≤ k) : Below B w w' :=
 ⟨h.by_.os, h.by_.tape, h.by_.output, h.by_.size, fun k hk => h.by_.block k (by omega) (fun e => by have := hv k e.symm; omega)⟩
section
variable {P : Program} (w : World)
theorem append_tight (base : Nat) (t ty e : TypeId) (i : TypeInfo) (z : Value) (size bytes : Nat) (ht : P.underlying t = some (.slice e)) (hi : P.info? e = some i) (hz : i.zero = some z)
 (hsize : i.size = size) (hby : i.bytes = bytes) (hzs : z.cells.size = size) (hsz : 0 < size)
 (v : Value) (n : Nat) (xs : List Value) (hown : w.ownsRow base e size v n xs)
 (a : Addr) (m c : Nat) (news : List Value) (hl : news.length = m * size) (hnews : ∀ j u, news[j]? = some u → w.cell? (a.add j) = some u) (h1 : ∀ u ∈ news, u.oneCell' = true)
 (h63 : n + m ≤ maxLen) (hbytes : (n + m) * bytes ≤ 140737488355328) (hbase : base ≤ w.heap.size) :
 ∃ v' w', (Builtin.append_ #[t, t] ty #[v, .slice (some a) m c]).run P w = .ok v' w' ∧ w'.ownsRow base e size v' (n + m) (xs ++ news) ∧ Grew w w' v v' := by
 obtain ⟨v', w', hr, ho, hg, hn⟩ := run_append_own (P := P) w base t ty e i z size bytes ht hi hz hsize hby hzs hsz v n xs hown a m c news hl hnews h1 h63 hbytes hbase
 refine ⟨v', w', hr, ho, hg, ?_⟩
 subst hsize; subst hby
 have hsmall : n + m ≤ 9223372036854775807 := by simp only [maxLen] at h63; omega
 rcases hown.2 with ⟨rfl, rfl⟩ | ⟨g, cap, cur, rfl, hbg, hgg, hnc, hcm, hcs, htake⟩
 ·by_cases hm : m = 0
  ·obtain rfl := hn.2 ⟨rfl, hm⟩
   exact .inl rfl
  ·have hr2 := run_append_nil (P := P) w t ty e i z ht hi hz a m c news hl hnews (by omega) (by omega) (by have hb := hbytes; simp only [Nat.zero_add] at hb; omega)
   rw [hr] at hr2
   injection hr2 with e1 _
   subst e1
   exact .inr ⟨_, rfl, Nat.le_refl _⟩
 ·by_cases hroom : n + m ≤ cap
  ·have hr2 := run_append_room (P := P) w t ty e i ht hi g n cap cur hgg a m c news hl hnews h1 hroom (by rw [hl, hcs, ← Nat.add_mul]; exact Nat.mul_le_mul_right _ hroom)
   rw [hr] at hr2
   injection hr2 with e1 _
   subst e1
   exact .inl rfl
  ·have hr2 := run_append_grow (P := P) w t ty e i z ht hi hz ⟨g, 0, none⟩ n cap xs hown.1 (hown.cells (g := g) rfl) a m c news hl hnews (by omega) (by omega) (growslice_fits (by omega) hbytes)
   rw [hr] at hr2
   injection hr2 with e1 _
   subst e1
   exact .inr ⟨_, rfl, Nat.le_refl _⟩
theorem wpList_append_tight {ops : Array Oper} {rest : List Oper} {o : Oper} {a : Act} {Q : Exit → Act → World → Prop} (hgd : o.guard = none) (s x : Operand) (t : TypeId)
 (ho : o.op = .call { callee := .builtin .append, args := #[s, x], argTypes := #[t, t] })
 (base : Nat) (e : TypeId) (i : TypeInfo) (z : Value) (size bytes : Nat) (ht : P.underlying t = some (.slice e)) (hi : P.info? e = some i) (hz : i.zero = some z)
 (hsize : i.size = size) (hby : i.bytes = bytes) (hzs : z.cells.size = size) (hsz : 0 < size)
 (v : Value) (n : Nat) (xs : List Value) (hs : a.eval s = v) (hown : w.ownsRow base e size v n xs)
 (ad : Addr) (m c : Nat) (news : List Value) (hx : a.eval x = .slice (some ad) m c) (hl : news.length = m * size) (hnews : ∀ j u, news[j]? = some u → w.cell? (ad.add j) = some u) (h1 : ∀ u ∈ news, u.oneCell' = true)
 (h63 : n + m ≤ maxLen) (hbytes : (n + m) * bytes ≤ 140737488355328) (hbase : base ≤ w.heap.size)
 (h : ∀ v' w', w'.ownsRow base e size v' (n + m) (xs ++ news) → Grew w w' v v' → wpList P ops Q rest (a.put o.dst v') w') : wpList P ops Q (o :: rest) a w := by
 refine wpList_plain hgd fun K hK => ?_
 obtain ⟨v', w', hr, h2, h3⟩ := append_tight (P := P) w base t o.type e i z size bytes ht hi hz hsize hby hzs hsz v n xs hown ad m c news hl hnews h1 h63 hbytes hbase
 unfold Oper.wp execOp
 simp only [ho, resolve, invoke, builtin, Sem.run_bind, Sem.run_pure, Result.andThen_ok, List.map_toArray, List.map_cons, List.map_nil, hs, hx, hr]
 exact hK _ _ (h v' w' h2 h3)
end
def B (u : UInt8) : Value := .int .u8 u.toNat
def Buf (base : Nat) (w : World) (v : Value) (bs : List UInt8) : Prop := w.ownsRow base 5 1 v bs.length (bs.map B)
theorem Buf.nil (base : Nat) (w : World) : Buf base w (.slice none 0 0) [] := World.ownsRow_nil w base _ 1
theorem Buf.len {base : Nat} {w : World} {v : Value} {bs : List UInt8} (h : Buf base w v bs) : v = .slice none 0 0 ∨ ∃ g c, v = .slice (some ⟨g, 0, none⟩) bs.length c ∧ base ≤ g ∧ g < w.heap.size := by
 rcases h.2 with ⟨rfl, _⟩ | ⟨g, cap, cur, rfl, hb, hg, _⟩
 ·exact .inl rfl
 ·exact .inr ⟨g, cap, rfl, hb, (Array.getElem?_eq_some_iff.1 hg).1⟩
theorem Buf.kept {base : Nat} {w w' : World} {v : Value} {bs : List UInt8} (h : Buf base w v bs) (hb : ∀ k, v.ownBlock = some k → w'.heap[k]? = w.heap[k]?) : Buf base w' v bs := by
 refine ⟨h.1, ?_⟩
 rcases h.2 with hn | ⟨g, cap, cur, rfl, hbb, hgg, rest⟩
 ·exact .inl hn
 ·exact .inr ⟨g, cap, cur, rfl, hbb, by rw [hb g rfl]; exact hgg, rest⟩
theorem Buf.string {P : Program} {base : Nat} {w : World} {v : Value} {bs : List UInt8} (h : Buf base w v bs) (src dst : TypeId) (hs : P.underlying src = some (.slice 5)) (he : P.underlying 5 = some (.int .u8)) (hd : P.underlying dst = some .string) :
 (convert src dst v).run P w = .ok (.string ⟨bs.toArray⟩) w := by
 rcases h.2 with ⟨rfl, hn⟩ | ⟨g, cap, cur, rfl, hbb, hgg, hnc, hcm, hcs, htake⟩
 ·rw [List.eq_nil_of_length_eq_zero hn]
  exact run_convert_bytes_nil w src _ hs he 0 0 dst hd
 ·have hc := h.cells (g := g) rfl
  have := run_convert_bytes_arg (P := P) w src _ hs he g 0 bs.length cap (bs.map fun u => (u.toNat : Int)) (by simp) (fun i hi => by
   have := hc i (B bs[i]) (by simp [hi])
   have ea : (⟨g, 0, none⟩ : Addr).add i = ⟨g, 0 + i, none⟩ := by unfold Addr.add; split <;> simp_all
   rw [ea] at this
   rw [this]
   simp [B, hi]) dst hd
  rw [this]
  have e : strOfNums (bs.map fun u => (u.toNat : Int)) = ⟨bs.toArray⟩ := by
   unfold strOfNums
   congr 1
   rw [List.map_map]
   congr 1
   conv => rhs; rw [← List.map_id bs]
   apply List.map_congr_left
   intro u _
   simp
  rw [e]
theorem info8 : (Tryd.prog.info? 5).map (fun i => (i.zero, i.size, i.bytes)) = some (some (.int .u8 0), 1, 1) := by kernel_rfl
theorem wpList_append_byte {base : Nat} {w0 : World} {v : Value} {bs : List UInt8} (hown : Buf base w0 v bs) (hb : base ≤ w0.heap.size) (hl : bs.length + 1 ≤ 140737488355328)
 {ops : Array Oper} {rest : List Oper} {o : Oper} {a : Act} {Q : Exit → Act → World → Prop} (s x : Operand) (X : Int) (hgd : o.guard = none)
 (ho : o.op = .call { callee := .builtin .append, args := #[s, x], argTypes := #[89, 89] })
 (hs : a.eval s = v) (hx : a.eval x = .slice (some ⟨w0.heap.size, 0, none⟩) 1 1)
 (h : ∀ v' w', (∀ u : UInt8, X = u.toNat → Buf base w' v' (bs ++ [u])) → Grew w0 w' v v' → wpList Tryd.prog ops Q rest (a.put o.dst v') w') :
 wpList Tryd.prog ops Q (o :: rest) a (w0.alloc (.cells #[.int .u8 X] 5)) := by
 obtain ⟨i0, hi, hz0, hz1, hz2⟩ := info_parts info8
 refine wpList_append_tight _ hgd s x 89 ho base 5 i0 (.int .u8 0) 1 1 Tryd.underlying89 hi hz0 hz1 hz2 rfl (by decide) v bs.length (bs.map B) hs (World.ownsRow.alloc hown _) ⟨w0.heap.size, 0, none⟩ 1 1 [.int .u8 X] hx rfl (cell_one_new _ _ _)
  (fun u hu => by simp at hu; subst hu; rfl) (by unfold maxLen; omega) (by omega) (by simp; omega) fun v' w' h1 h2 => h v' w' (fun u hu => ?_) (h2.behind _)
 subst hu
 unfold Buf
 simpa [B] using h1
end Go.Proofs.YteaglaijkafphaaDoor.Ty
namespace Go.Proofs.YteaglaijkafphaaDoor
open Go.RowKit
def Ty.Mid (base : Nat) (w : World) (v0 : Value) (bs : List UInt8) (n k : Nat) (wr : World) (v : Value) : Prop :=
 ∃ done, Ty.encU n = done ++ Ty.low k n ∧ done.length + k ≤ 9 ∧ Ty.Buf base wr v (bs ++ done) ∧ Ty.Grew w wr v0 v
def Ty.Written (base : Nat) (w : World) (v : Value) (bs : List UInt8) (e : Ending) (w' : World) : Prop := ∃ v', e = .returned v' ∧ Ty.Buf base w' v' bs ∧ Ty.Grew w w' v v'
theorem Ty.Mid.first {base : Nat} {w : World} {v : Value} {bs : List UInt8} {n k : Nat} {w1 : World} {v1 : Value} (hk : k = Ty.after (Ty.form n)) {X : Int} (hX : X = ((Ty.head n).toNat : Int)) (h1 : ∀ u : UInt8, X = (u.toNat : Int) → Ty.Buf base w1 v1 (bs ++ [u])) (g1 : Ty.Grew w w1 v v1) : Ty.Mid base w v bs n k w1 v1 :=
 ⟨[Ty.head n], by rw [hk]; exact Ty.encU_split n, by have := Ty.after_le n; simp; omega, h1 _ hX, g1⟩
theorem Ty.Mid.next {base : Nat} {w : World} {v0 v : Value} {bs done : List UInt8} {n k : Nat} {wr w1 : World} {v1 : Value} (hd : Ty.encU n = done ++ Ty.low (k + 1) n) (hl : done.length + (k + 1) ≤ 9) (hG : Ty.Grew w wr v0 v)
 (h1 : ∀ u : UInt8, ((n : Int) / 2 ^ (8 * k) % 256) = (u.toNat : Int) → Ty.Buf base w1 v1 (bs ++ done ++ [u])) (g1 : Ty.Grew wr w1 v v1) : Ty.Mid base w v0 bs n k w1 v1 := by
 refine ⟨done ++ [UInt8.ofNat (n / 256 ^ k % 256)], by rw [hd, Ty.low_succ]; simp, by simp; omega, ?_, hG.trans g1⟩
 have := h1 _ (Ty.low_byte n k)
 simpa using this
theorem Ty.Mid.end {base : Nat} {w : World} {v0 v : Value} {bs done : List UInt8} {n : Nat} {wr : World} (hd : Ty.encU n = done ++ Ty.low 0 n) (hB : Ty.Buf base wr v (bs ++ done)) (hG : Ty.Grew w wr v0 v) : Ty.Written base w v0 (bs ++ Ty.encU n) (.returned v) wr :=
 ⟨v, rfl, by rw [hd]; simpa [Ty.low] using hB, hG⟩
end Go.Proofs.YteaglaijkafphaaDoor
namespace Go.Proofs.YteaglaijkafphaaDoor
open Go.RowKit
theorem Ty.w_odd {n : Nat} (h : Ty.U64 n) (h0 : n % 2 = 1) : wrap64 (wrap64 (-wrap64 (IntKind.u64.wrap (↑n / 2))) - 1) = Ty.zag n := by
 unfold Ty.U64 at h; unfold Ty.zag; simp only [IntKind.wrap_u64]; unfold wrap64; rw [if_pos (by omega)]; omega
theorem Ty.w_even {n : Nat} (h : Ty.U64 n) (h0 : ¬ n % 2 = 1) : wrap64 (IntKind.u64.wrap (↑n / 2)) = Ty.zag n := by
 unfold Ty.U64 at h; unfold Ty.zag; simp only [IntKind.wrap_u64]; unfold wrap64; rw [if_neg (by omega)]; omega
theorem Ty.ret_i {k : IntKind} {a b : Int} (h : a = b) : Ending.returned (.int k a) = .returned (.int k b) := by rw [h]
set_option maxHeartbeats 400000 in
theorem Ty.signed_nat (n : Nat) (w : World) (hn : Ty.U64 n) :
 Calls Tryd.prog 106 #[.int .u64 n] w fun e w' => e = .returned (.int .i64 (Ty.zag n)) ∧ w' = w := by
 by_cases h : n % 2 = 1
 ·have H := Lib.hid (Ty.w_odd hn h)
  go_enter Tryd.func106, Tryd.ntmps106
  go_wp2
  go_ret
  exact ⟨Ty.ret_i H.out, rfl⟩
 ·have H := Lib.hid (Ty.w_even hn h)
  go_enter Tryd.func106, Tryd.ntmps106
  go_wp2
  go_ret
  exact ⟨Ty.ret_i H.out, rfl⟩
end Go.Proofs.YteaglaijkafphaaDoor
namespace Go.Proofs.YteaglaijkafphaaDoor
open Go.RowKit
theorem Ty.length_data (s : ByteArray) : s.data.toList.length = s.size := by rw [Array.length_toList]; rfl
theorem Ty.at_getD (s : ByteArray) (k : Nat) (h : k < s.size) : s[k] = s.data.toList.getD k 0 := by
 have h2 : k < s.data.toList.length := by rw [Ty.length_data]; exact h
 rw [List.getD, List.getElem?_eq_getElem h2]; rfl
theorem Ty.isEmpty_pos (s : ByteArray) (h : 0 < s.size) : s.toList.isEmpty = false := by
 rw [ByteArray.toList_eq, List.isEmpty_eq_false_iff]
 intro e
 have := Ty.length_data s
 rw [e] at this
 simp at this
 omega
theorem Ty.isEmpty_zero (s : ByteArray) (h : s.size = 0) : s.data.toList = [] := List.eq_nil_of_length_eq_zero (by rw [Ty.length_data]; exact h)
def Ty.numV (l : List UInt8) : Value := .tuple #[.int .u64 (Ty.num l).1, .int .i64 (Ty.num l).2.1, .int .i64 (Ty.num l).2.2]
set_option maxHeartbeats 1000000 in
theorem Ty.number_0 (s : ByteArray) (w : World) (h : Ty.Tabs w) (hs : s.size ≤ 9223372036854775807) (h0 : 0 < s.size) (h1 : (s[0].toNat : Int) ≤ 192) (h2 : (s[0].toNat : Int) / 64 = 0) :
 Calls Tryd.prog 92 #[.string s] w fun e w' => e = .returned (Ty.numV s.data.toList) ∧ w' = w := by
 obtain ⟨z0, z1, z2, z3, s0, s1, s2, s3, _⟩ := h
 have hne : s.toList.isEmpty = false := Ty.isEmpty_pos s h0
 have hll : s.data.toList.length = s.size := Ty.length_data s
 have e0 := Ty.at_getD s 0 h0
 have H0 : Hid (0 < s.data.toList.length) := Lib.hid (by omega)
 have Hb : Hid (¬ 192 < (s.data.toList.getD 0 0).toNat) := Lib.hid (by rw [← e0]; omega)
 have Hf : Hid ((s.data.toList.getD 0 0).toNat / 64 = 0) := Lib.hid (by rw [← e0]; omega)
 have Hl : Hid (¬ s.data.toList.length < 1 + Ty.after 0) := Lib.hid (by rw [hll]; show ¬ s.size < 1 + 0; omega)
 have E0 := Lib.hid e0
 clear e0 hll
 have hnz : ¬ ((s[0].toNat : Int) % 64 < 0) := by omega
 have hsz : (1 : Int) ≤ s.size := by omega
 have HN := Lib.hid (Ty.num_whole H0.out Hb.out Hf.out Hl.out (by show ¬ Ty.pv _ 1 < 0; omega))
 go_enter Tryd.func92, Tryd.ntmps92
 go_wp2
 refine wp_loop_rounds 1 ?_; rw [rounds_succ]
 go_wp2
 go_ret3
 exact ⟨by unfold Ty.numV; rw [HN.out]; simp [Ty.pv, Ty.after, E0.out], rfl⟩
set_option maxHeartbeats 1000000 in
theorem Ty.number_1 (s : ByteArray) (w : World) (h : Ty.Tabs w) (hs : s.size ≤ 9223372036854775807) (h0 : 0 < s.size) (h1 : (s[0].toNat : Int) ≤ 192) (h2 : (s[0].toNat : Int) / 64 = 1) :
 Calls Tryd.prog 92 #[.string s] w fun e w' => e = .returned (Ty.numV s.data.toList) ∧ w' = w := by
 obtain ⟨z0, z1, z2, z3, s0, s1, s2, s3, _⟩ := h
 have hne : s.toList.isEmpty = false := Ty.isEmpty_pos s h0
 have hll : s.data.toList.length = s.size := Ty.length_data s
 have e0 := Ty.at_getD s 0 h0
 have H0 : Hid (0 < s.data.toList.length) := Lib.hid (by omega)
 have Hb : Hid (¬ 192 < (s.data.toList.getD 0 0).toNat) := Lib.hid (by rw [← e0]; omega)
 have Hf : Hid ((s.data.toList.getD 0 0).toNat / 64 = 1) := Lib.hid (by rw [← e0]; omega)
 have HL := Lib.hid hll
 have E0 := Lib.hid e0
 clear e0 hll
 by_cases h4 : (2 : Int) ≤ s.size
 ·have Hl : Hid (¬ s.data.toList.length < 1 + Ty.after 1) := Lib.hid (by rw [HL.out]; simp [Ty.after]; omega)
  have Hst : Hid (∀ k, 1 ≤ k → k < 2 → Ty.pv s.data.toList k < 72057594037927936) := Lib.hid fun k a b => Ty.pv_small4 _ k a (by omega)
  obtain ⟨PV, HPV⟩ : ∃ f : Nat → Int, Hid (∀ k, f k = (Ty.pv s.data.toList k : Int)) := ⟨fun k => (Ty.pv s.data.toList k : Int), fun _ => rfl⟩
  by_cases h5 : PV 2 < 64
  ·have HN := Lib.hid (Ty.num_less H0.out Hb.out Hf.out Hl.out (by show Ty.pv _ 2 < 64; have := HPV.out 2; omega))
   go_enter Tryd.func92, Tryd.ntmps92
   go_wp2
   go_loop [8, 9] (fun n i => ∃ k : Nat, 1 ≤ k ∧ k ≤ 2 ∧ i = .int .i64 k ∧ n = .int .u64 (PV k)) (fun _ i => 2 - (intOf i).toNat)
   case atStart => exact ⟨1, by omega, by omega, rfl, by simp [HPV.out, Ty.pv, E0.out]⟩
   case round =>
    obtain ⟨k, hk1, hk2, rfl, rfl⟩ := hrel
    by_cases hk : k < 2
    ·have hks : k < s.size := by omega
     go_wp2
     go_round
     case rel => exact ⟨k + 1, by omega, by omega, by simp, by rw [HPV.out, HPV.out]; exact congrArg (Value.int .u64) (Ty.or_step _ _ k hk1 (Hst.out k hk1 hk) (Ty.at_getD s k hks))⟩
     case measure => simp [intOf]; omega
    ·obtain rfl : k = 2 := by omega
     go_wp2
     go_ret3
     exact ⟨by first | (unfold Ty.numV; rw [HN.out, HPV.out]; rfl) | (unfold Ty.numV; rw [HN.out]; rfl), rfl⟩
  ·have HN := Lib.hid (Ty.num_whole H0.out Hb.out Hf.out Hl.out (by show ¬ Ty.pv _ 2 < 64; have := HPV.out 2; omega))
   go_enter Tryd.func92, Tryd.ntmps92
   go_wp2
   go_loop [8, 9] (fun n i => ∃ k : Nat, 1 ≤ k ∧ k ≤ 2 ∧ i = .int .i64 k ∧ n = .int .u64 (PV k)) (fun _ i => 2 - (intOf i).toNat)
   case atStart => exact ⟨1, by omega, by omega, rfl, by simp [HPV.out, Ty.pv, E0.out]⟩
   case round =>
    obtain ⟨k, hk1, hk2, rfl, rfl⟩ := hrel
    by_cases hk : k < 2
    ·have hks : k < s.size := by omega
     go_wp2
     go_round
     case rel => exact ⟨k + 1, by omega, by omega, by simp, by rw [HPV.out, HPV.out]; exact congrArg (Value.int .u64) (Ty.or_step _ _ k hk1 (Hst.out k hk1 hk) (Ty.at_getD s k hks))⟩
     case measure => simp [intOf]; omega
    ·obtain rfl : k = 2 := by omega
     go_wp2
     go_ret3
     exact ⟨by first | (unfold Ty.numV; rw [HN.out, HPV.out]; rfl) | (unfold Ty.numV; rw [HN.out]; rfl), rfl⟩
 ·have HN := Lib.hid (Ty.num_cut H0.out Hb.out Hf.out (by rw [HL.out]; simp [Ty.after]; omega))
  go_enter Tryd.func92, Tryd.ntmps92
  go_wp2
  go_ret3
  exact ⟨by first | (unfold Ty.numV; rw [HN.out, HPV.out]; rfl) | (unfold Ty.numV; rw [HN.out]; rfl), rfl⟩
set_option maxHeartbeats 1000000 in
theorem Ty.number_2 (s : ByteArray) (w : World) (h : Ty.Tabs w) (hs : s.size ≤ 9223372036854775807) (h0 : 0 < s.size) (h1 : (s[0].toNat : Int) ≤ 192) (h2 : (s[0].toNat : Int) / 64 = 2) :
 Calls Tryd.prog 92 #[.string s] w fun e w' => e = .returned (Ty.numV s.data.toList) ∧ w' = w := by
 obtain ⟨z0, z1, z2, z3, s0, s1, s2, s3, _⟩ := h
 have hne : s.toList.isEmpty = false := Ty.isEmpty_pos s h0
 have hll : s.data.toList.length = s.size := Ty.length_data s
 have e0 := Ty.at_getD s 0 h0
 have H0 : Hid (0 < s.data.toList.length) := Lib.hid (by omega)
 have Hb : Hid (¬ 192 < (s.data.toList.getD 0 0).toNat) := Lib.hid (by rw [← e0]; omega)
 have Hf : Hid ((s.data.toList.getD 0 0).toNat / 64 = 2) := Lib.hid (by rw [← e0]; omega)
 have HL := Lib.hid hll
 have E0 := Lib.hid e0
 clear e0 hll
 by_cases h4 : (4 : Int) ≤ s.size
 ·have Hl : Hid (¬ s.data.toList.length < 1 + Ty.after 2) := Lib.hid (by rw [HL.out]; simp [Ty.after]; omega)
  have Hst : Hid (∀ k, 1 ≤ k → k < 4 → Ty.pv s.data.toList k < 72057594037927936) := Lib.hid fun k a b => Ty.pv_small4 _ k a (by omega)
  obtain ⟨PV, HPV⟩ : ∃ f : Nat → Int, Hid (∀ k, f k = (Ty.pv s.data.toList k : Int)) := ⟨fun k => (Ty.pv s.data.toList k : Int), fun _ => rfl⟩
  by_cases h5 : PV 4 < 16384
  ·have HN := Lib.hid (Ty.num_less H0.out Hb.out Hf.out Hl.out (by show Ty.pv _ 4 < 16384; have := HPV.out 4; omega))
   go_enter Tryd.func92, Tryd.ntmps92
   go_wp2
   go_loop [8, 9] (fun n i => ∃ k : Nat, 1 ≤ k ∧ k ≤ 4 ∧ i = .int .i64 k ∧ n = .int .u64 (PV k)) (fun _ i => 4 - (intOf i).toNat)
   case atStart => exact ⟨1, by omega, by omega, rfl, by simp [HPV.out, Ty.pv, E0.out]⟩
   case round =>
    obtain ⟨k, hk1, hk2, rfl, rfl⟩ := hrel
    by_cases hk : k < 4
    ·have hks : k < s.size := by omega
     go_wp2
     go_round
     case rel => exact ⟨k + 1, by omega, by omega, by simp, by rw [HPV.out, HPV.out]; exact congrArg (Value.int .u64) (Ty.or_step _ _ k hk1 (Hst.out k hk1 hk) (Ty.at_getD s k hks))⟩
     case measure => simp [intOf]; omega
    ·obtain rfl : k = 4 := by omega
     go_wp2
     go_ret3
     exact ⟨by first | (unfold Ty.numV; rw [HN.out, HPV.out]; rfl) | (unfold Ty.numV; rw [HN.out]; rfl), rfl⟩
  ·have HN := Lib.hid (Ty.num_whole H0.out Hb.out Hf.out Hl.out (by show ¬ Ty.pv _ 4 < 16384; have := HPV.out 4; omega))
   go_enter Tryd.func92, Tryd.ntmps92
   go_wp2
   go_loop [8, 9] (fun n i => ∃ k : Nat, 1 ≤ k ∧ k ≤ 4 ∧ i = .int .i64 k ∧ n = .int .u64 (PV k)) (fun _ i => 4 - (intOf i).toNat)
   case atStart => exact ⟨1, by omega, by omega, rfl, by simp [HPV.out, Ty.pv, E0.out]⟩
   case round =>
    obtain ⟨k, hk1, hk2, rfl, rfl⟩ := hrel
    by_cases hk : k < 4
    ·have hks : k < s.size := by omega
     go_wp2
     go_round
     case rel => exact ⟨k + 1, by omega, by omega, by simp, by rw [HPV.out, HPV.out]; exact congrArg (Value.int .u64) (Ty.or_step _ _ k hk1 (Hst.out k hk1 hk) (Ty.at_getD s k hks))⟩
     case measure => simp [intOf]; omega
    ·obtain rfl : k = 4 := by omega
     go_wp2
     go_ret3
     exact ⟨by first | (unfold Ty.numV; rw [HN.out, HPV.out]; rfl) | (unfold Ty.numV; rw [HN.out]; rfl), rfl⟩
 ·have HN := Lib.hid (Ty.num_cut H0.out Hb.out Hf.out (by rw [HL.out]; simp [Ty.after]; omega))
  go_enter Tryd.func92, Tryd.ntmps92
  go_wp2
  go_ret3
  exact ⟨by first | (unfold Ty.numV; rw [HN.out, HPV.out]; rfl) | (unfold Ty.numV; rw [HN.out]; rfl), rfl⟩
set_option maxHeartbeats 1000000 in
theorem Ty.number_3 (s : ByteArray) (w : World) (h : Ty.Tabs w) (hs : s.size ≤ 9223372036854775807) (h0 : 0 < s.size) (h1 : (s[0].toNat : Int) ≤ 192) (h2 : (s[0].toNat : Int) / 64 = 3) :
 Calls Tryd.prog 92 #[.string s] w fun e w' => e = .returned (Ty.numV s.data.toList) ∧ w' = w := by
 obtain ⟨z0, z1, z2, z3, s0, s1, s2, s3, _⟩ := h
 have hne : s.toList.isEmpty = false := Ty.isEmpty_pos s h0
 have hll : s.data.toList.length = s.size := Ty.length_data s
 have e0 := Ty.at_getD s 0 h0
 have H0 : Hid (0 < s.data.toList.length) := Lib.hid (by omega)
 have Hb : Hid (¬ 192 < (s.data.toList.getD 0 0).toNat) := Lib.hid (by rw [← e0]; omega)
 have Hf : Hid ((s.data.toList.getD 0 0).toNat / 64 = 3) := Lib.hid (by rw [← e0]; omega)
 have HL := Lib.hid hll
 have E0 := Lib.hid e0
 clear e0 hll
 by_cases h4 : (9 : Int) ≤ s.size
 ·have Hl : Hid (¬ s.data.toList.length < 1 + Ty.after 3) := Lib.hid (by rw [HL.out]; simp [Ty.after]; omega)
  have Hst : Hid (∀ k, 1 ≤ k → k < 9 → Ty.pv s.data.toList k < 72057594037927936) := Lib.hid fun k a b => Ty.pv_small8 _ (by have := Hb.out; have := Hf.out; omega) k a (by omega)
  obtain ⟨PV, HPV⟩ : ∃ f : Nat → Int, Hid (∀ k, f k = (Ty.pv s.data.toList k : Int)) := ⟨fun k => (Ty.pv s.data.toList k : Int), fun _ => rfl⟩
  by_cases h5 : PV 9 < 1073741824
  ·have HN := Lib.hid (Ty.num_less H0.out Hb.out Hf.out Hl.out (by show Ty.pv _ 9 < 1073741824; have := HPV.out 9; omega))
   go_enter Tryd.func92, Tryd.ntmps92
   go_wp2
   go_loop [8, 9] (fun n i => ∃ k : Nat, 1 ≤ k ∧ k ≤ 9 ∧ i = .int .i64 k ∧ n = .int .u64 (PV k)) (fun _ i => 9 - (intOf i).toNat)
   case atStart => exact ⟨1, by omega, by omega, rfl, by simp [HPV.out, Ty.pv, E0.out]⟩
   case round =>
    obtain ⟨k, hk1, hk2, rfl, rfl⟩ := hrel
    by_cases hk : k < 9
    ·have hks : k < s.size := by omega
     go_wp2
     go_round
     case rel => exact ⟨k + 1, by omega, by omega, by simp, by rw [HPV.out, HPV.out]; exact congrArg (Value.int .u64) (Ty.or_step _ _ k hk1 (Hst.out k hk1 hk) (Ty.at_getD s k hks))⟩
     case measure => simp [intOf]; omega
    ·obtain rfl : k = 9 := by omega
     go_wp2
     go_ret3
     exact ⟨by first | (unfold Ty.numV; rw [HN.out, HPV.out]; rfl) | (unfold Ty.numV; rw [HN.out]; rfl), rfl⟩
  ·have HN := Lib.hid (Ty.num_whole H0.out Hb.out Hf.out Hl.out (by show ¬ Ty.pv _ 9 < 1073741824; have := HPV.out 9; omega))
   go_enter Tryd.func92, Tryd.ntmps92
   go_wp2
   go_loop [8, 9] (fun n i => ∃ k : Nat, 1 ≤ k ∧ k ≤ 9 ∧ i = .int .i64 k ∧ n = .int .u64 (PV k)) (fun _ i => 9 - (intOf i).toNat)
   case atStart => exact ⟨1, by omega, by omega, rfl, by simp [HPV.out, Ty.pv, E0.out]⟩
   case round =>
    obtain ⟨k, hk1, hk2, rfl, rfl⟩ := hrel
    by_cases hk : k < 9
    ·have hks : k < s.size := by omega
     go_wp2
     go_round
     case rel => exact ⟨k + 1, by omega, by omega, by simp, by rw [HPV.out, HPV.out]; exact congrArg (Value.int .u64) (Ty.or_step _ _ k hk1 (Hst.out k hk1 hk) (Ty.at_getD s k hks))⟩
     case measure => simp [intOf]; omega
    ·obtain rfl : k = 9 := by omega
     go_wp2
     go_ret3
     exact ⟨by first | (unfold Ty.numV; rw [HN.out, HPV.out]; rfl) | (unfold Ty.numV; rw [HN.out]; rfl), rfl⟩
 ·have HN := Lib.hid (Ty.num_cut H0.out Hb.out Hf.out (by rw [HL.out]; simp [Ty.after]; omega))
  go_enter Tryd.func92, Tryd.ntmps92
  go_wp2
  go_ret3
  exact ⟨by first | (unfold Ty.numV; rw [HN.out, HPV.out]; rfl) | (unfold Ty.numV; rw [HN.out]; rfl), rfl⟩
end Go.Proofs.YteaglaijkafphaaDoor
namespace Go.Proofs.YteaglaijkafphaaDoor
open Go.RowKit
set_option maxHeartbeats 400000 in
theorem Ty.number_c (s : ByteArray) (w : World) (h : Ty.Tabs w) (hs : s.size ≤ 9223372036854775807) :
 Calls Tryd.prog 92 #[.string s] w fun e w' => e = .returned (Ty.numV s.data.toList) ∧ w' = w := by
 by_cases h0 : 0 < s.size
 ·by_cases h1 : (s[0].toNat : Int) ≤ 192
  ·have hf : (s[0].toNat : Int) / 64 = 0 ∨ (s[0].toNat : Int) / 64 = 1 ∨ (s[0].toNat : Int) / 64 = 2 ∨ (s[0].toNat : Int) / 64 = 3 := by omega
   rcases hf with hf | hf | hf | hf
   ·exact Ty.number_0 s w h hs h0 h1 hf
   ·exact Ty.number_1 s w h hs h0 h1 hf
   ·exact Ty.number_2 s w h hs h0 h1 hf
   ·exact Ty.number_3 s w h hs h0 h1 hf
  ·have hne : s.toList.isEmpty = false := Ty.isEmpty_pos s h0
   have HN := Lib.hid (Ty.num_high (l := s.data.toList) (by rw [Ty.length_data]; exact h0) (by rw [← Ty.at_getD s 0 h0]; omega))
   go_enter Tryd.func92, Tryd.ntmps92
   go_wp2
   go_ret3
   exact ⟨by unfold Ty.numV; rw [HN.out]; rfl, rfl⟩
 ·have hz : s.size = 0 := by omega
  have he : s.toList.isEmpty = true := by rw [ByteArray.toList_eq, Ty.isEmpty_zero s hz]; rfl
  have HN := Lib.hid (Ty.isEmpty_zero s hz)
  clear h0 hz
  go_enter Tryd.func92, Tryd.ntmps92
  go_wp2
  go_ret3
  exact ⟨by rw [HN.out]; rfl, rfl⟩
def Ty.S (l : List UInt8) : ByteArray := ⟨l.toArray⟩
theorem Ty.data_S (l : List UInt8) : (Ty.S l).data.toList = l := rfl
theorem Ty.size_S (l : List UInt8) : (Ty.S l).size = l.length := rfl
theorem Ty.extract_S (s : ByteArray) (a b : Nat) : s.extract a b = Ty.S ((s.data.toList.drop a).take (b - a)) := ByteArray.extract_mk s.data.toList a b
def Ty.txtV (l : List UInt8) (most : Int) : Value := .tuple #[.string (Ty.S (Ty.txt l most).1), .int .i64 (Ty.txt l most).2.1, .int .i64 (Ty.txt l most).2.2]
set_option maxHeartbeats 400000 in
theorem Ty.text_bad (s : ByteArray) (most : Int) (w : World) (h : Ty.Tabs w) (hs : s.size ≤ 9223372036854775807) (he : (Ty.num s.data.toList).2.2 ≠ 0) :
 Calls Tryd.prog 107 #[.string s, .int .i64 most] w fun e w' => e = .returned (Ty.txtV s.data.toList most) ∧ w' = w := by
 have HT := Lib.hid (Ty.txt_bad (most := most) he)
 have hb : (((Ty.num s.data.toList).2.2 : Int) != 0) = true := by rw [bne_iff_ne]; omega
 clear he
 go_enter Tryd.func107, Tryd.ntmps107
 go_wp2_with fail
 refine (Ty.number_c s _ h hs).mono ?_
 rintro e w' ⟨rfl, rfl⟩
 unfold Ty.numV
 go_wp2
 go_ret3
 exact ⟨by unfold Ty.txtV; rw [HT.out]; rfl, rfl⟩
theorem Ty.number_is (s : ByteArray) (w : World) (h : Ty.Tabs w) (hs : s.size ≤ 9223372036854775807) {n sz : Nat} (hn : Ty.num s.data.toList = (n, sz, 0)) :
 Calls Tryd.prog 92 #[.string s] w fun e w' => e = .returned (.tuple #[.int .u64 n, .int .i64 sz, .int .i64 0]) ∧ w' = w := by
 have := Ty.number_c s w h hs
 unfold Ty.numV at this
 rw [hn] at this
 exact this
set_option maxHeartbeats 400000 in
theorem Ty.text_good (s : ByteArray) (most : Int) (w : World) (h : Ty.Tabs w) (hs : s.size ≤ 9223372036854775807) (hm : -9223372036854775808 ≤ most ∧ most ≤ 9223372036854775807) {n sz : Nat} (hn : Ty.num s.data.toList = (n, sz, 0)) :
 Calls Tryd.prog 107 #[.string s, .int .i64 most] w fun e w' => e = .returned (Ty.txtV s.data.toList most) ∧ w' = w := by
 have hsz : sz ≤ s.size := by have := Ty.num_size s.data.toList; rw [hn, Ty.length_data] at this; exact this
 have HN := Lib.hid hn
 have e1 : (Ty.num s.data.toList).1 = n := by rw [hn]
 have e2 : (Ty.num s.data.toList).2.1 = sz := by rw [hn]
 have e3 : (Ty.num s.data.toList).2.2 = 0 := by rw [hn]
 obtain ⟨hm1, hm2⟩ := hm
 clear hn
 by_cases h1 : most < 0
 ·have HT := Lib.hid (Ty.txt_long e3 (.inl h1))
  clear e1 e2 e3
  go_enter Tryd.func107, Tryd.ntmps107
  go_wp2_with fail
  refine (Ty.number_is s _ h hs HN.out).mono ?_
  rintro e w' ⟨rfl, rfl⟩
  go_wp2
  go_ret3
  exact ⟨by unfold Ty.txtV; rw [HT.out]; rfl, rfl⟩
 ·by_cases h2 : most < (n : Int)
  ·have HT := Lib.hid (Ty.txt_long e3 (.inr (by rw [e1]; exact h2)))
   clear e1 e2 e3
   go_enter Tryd.func107, Tryd.ntmps107
   go_wp2_with fail
   refine (Ty.number_is s _ h hs HN.out).mono ?_
   rintro e w' ⟨rfl, rfl⟩
   go_wp2
   go_ret3
   exact ⟨by unfold Ty.txtV; rw [HT.out]; rfl, rfl⟩
  ·by_cases h3 : (s.size : Int) - (sz : Int) < (n : Int)
   ·have HT := Lib.hid (Ty.txt_short e3 (most := most) (by rw [e1]; omega) (by rw [e1, e2, Ty.length_data]; omega))
    clear e1 e2 e3
    go_enter Tryd.func107, Tryd.ntmps107
    go_wp2_with fail
    refine (Ty.number_is s _ h hs HN.out).mono ?_
    rintro e w' ⟨rfl, rfl⟩
    go_wp2
    go_ret3
    exact ⟨by unfold Ty.txtV; rw [HT.out]; rfl, rfl⟩
   ·have HT := Lib.hid (Ty.txt_whole e3 (most := most) (by rw [e1]; omega) (by rw [e1, e2, Ty.length_data]; omega))
    have E1 := Lib.hid e1
    have E2 := Lib.hid e2
    clear e1 e2 e3
    have hns : n ≤ s.size := by omega
    have hes : sz + n ≤ s.size := by omega
    go_enter Tryd.func107, Tryd.ntmps107
    go_wp2_with fail
    refine (Ty.number_is s _ h hs HN.out).mono ?_
    rintro e w' ⟨rfl, rfl⟩
    go_wp2
    go_ret3
    refine ⟨?_, rfl⟩
    unfold Ty.txtV
    rw [HT.out]
    simp only [E1.out, E2.out, Ty.extract_S, Nat.add_sub_cancel_left, Int.natCast_add]
    rfl
theorem Ty.text_r (s : ByteArray) (most : Int) (w : World) (h : Ty.Tabs w) (hs : s.size ≤ 9223372036854775807) (hm : -9223372036854775808 ≤ most ∧ most ≤ 9223372036854775807) :
 Calls Tryd.prog 107 #[.string s, .int .i64 most] w fun e w' => e = .returned (Ty.txtV s.data.toList most) ∧ w' = w := by
 by_cases he : (Ty.num s.data.toList).2.2 = 0
 ·exact Ty.text_good s most w h hs hm (n := (Ty.num s.data.toList).1) (sz := (Ty.num s.data.toList).2.1) (by rw [← he])
 ·exact Ty.text_bad s most w h hs he
end Go.Proofs.YteaglaijkafphaaDoor
namespace Go.Proofs.YteaglaijkafphaaDoor
open Go.RowKit
def Ty.Cur (b : Nat) (w : World) (l : List UInt8) (e : Nat) : Prop := w.heap[b]? = some (.cells #[.string (Ty.S l), .int .i64 (e : Int)] 95 (0, 0))
theorem Ty.Cur.cells {b : Nat} {w : World} {l : List UInt8} {e : Nat} (h : Ty.Cur b w l e) : w.cell? ⟨b, 0, none⟩ = some (.string (Ty.S l)) ∧ w.cell? ⟨b, 1, none⟩ = some (.int .i64 (e : Int)) ∧ w.frozen? ⟨b, 0, none⟩ = false ∧ w.frozen? ⟨b, 1, none⟩ = false := by
 unfold Ty.Cur at h
 refine ⟨?_, ?_, ?_, ?_⟩ <;> simp [World.cell?, World.frozen?, h]
theorem Ty.Cur.lt {b : Nat} {w : World} {l : List UInt8} {e : Nat} (h : Ty.Cur b w l e) : b < w.heap.size := lt_of_block h
theorem Ty.two_set0 {w : World} {b : Nat} {x y u : Value} {t : TypeId} (h : w.heap[b]? = some (.cells #[x, y] t (0, 0))) : (w.setCell ⟨b, 0, none⟩ u).heap[b]? = some (.cells #[u, y] t (0, 0)) := by
 have hlt := lt_of_block h
 have h' : w.heap[b] = .cells #[x, y] t (0, 0) := by simpa [Array.getElem?_eq_getElem hlt] using h
 show (w.heap.modify b _)[b]? = _
 rw [Array.getElem?_eq_getElem (by simpa using hlt), Array.getElem_modify_self, h']
 rfl
theorem Ty.two_set1 {w : World} {b : Nat} {x y u : Value} {t : TypeId} (h : w.heap[b]? = some (.cells #[x, y] t (0, 0))) : (w.setCell ⟨b, 1, none⟩ u).heap[b]? = some (.cells #[x, u] t (0, 0)) := by
 have hlt := lt_of_block h
 have h' : w.heap[b] = .cells #[x, y] t (0, 0) := by simpa [Array.getElem?_eq_getElem hlt] using h
 show (w.heap.modify b _)[b]? = _
 rw [Array.getElem?_eq_getElem (by simpa using hlt), Array.getElem_modify_self, h']
 rfl
theorem Ty.by_set (w : World) (b o : Nat) (u : Value) : w.grownBy (w.setCell ⟨b, o, none⟩ u) (some b) :=
 ⟨rfl, rfl, rfl, by simp [World.setCell], fun k _ hk => Below.heap_setCell _ _ _ _ (fun e => hk (by rw [e]))⟩
theorem Ty.by_refl (w : World) (r : Option Nat) : w.grownBy w r := ⟨rfl, rfl, rfl, Nat.le_refl _, fun _ _ _ => rfl⟩
theorem Ty.by_trans {a b c : World} {r : Option Nat} (h : a.grownBy b r) (k : b.grownBy c r) : a.grownBy c r :=
 ⟨k.os.trans h.os, k.tape.trans h.tape, k.output.trans h.output, Nat.le_trans h.size k.size, fun i hi hn => (k.block i (Nat.lt_of_lt_of_le hi h.size) hn).trans (h.block i hi hn)⟩
theorem Ty.Tabs.kept {w w' : World} (h : Ty.Tabs w) (hs : w.heap.size ≤ w'.heap.size) (hb : ∀ k, k < Ty.G → w'.heap[k]? = w.heap[k]?) : Ty.Tabs w' := by
 have hc : ∀ k o v, k < Ty.G → w.cell? ⟨k, o, none⟩ = some v → w'.cell? ⟨k, o, none⟩ = some v := fun k o v hk hv => (World.cell?_of_block (a := ⟨k, o, none⟩) (hb k hk)).trans hv
 exact ⟨hc _ _ _ (by decide) h.z0, hc _ _ _ (by decide) h.z1, hc _ _ _ (by decide) h.z2, hc _ _ _ (by decide) h.z3, hc _ _ _ (by decide) h.s0, hc _ _ _ (by decide) h.s1, hc _ _ _ (by decide) h.s2, hc _ _ _ (by decide) h.s3, Nat.le_trans h.two hs⟩
theorem Ty.Tabs.by {w w' : World} {r : Option Nat} (h : Ty.Tabs w) (hg : w.grownBy w' r) (hr : ∀ k, r = some k → Ty.G ≤ k) : Ty.Tabs w' :=
 h.kept hg.size fun k hk => hg.block k (by have := h.two; omega) (fun e => by have := hr k e.symm; omega)
def Ty.Left (b : Nat) (w : World) (v : Value) (l : List UInt8) (e' : Nat) (e : Ending) (w' : World) : Prop := e = .returned v ∧ Ty.Cur b w' l e' ∧ w.grownBy w' (some b)
set_option maxHeartbeats 400000 in
theorem Ty.from_c (l : List UInt8) (w : World) :
 Calls Tryd.prog 28 #[.string (Ty.S l)] w fun e w' => e = .returned (.pointer (some ⟨w.heap.size, 0, none⟩)) ∧ w' = w.alloc (.cells #[.string (Ty.S l), .int .i64 0] 95 (0, 0)) := by
 go_enter Tryd.func28, Tryd.ntmps28
 go_wp2
 go_ret
 exact ⟨rfl, rfl⟩
set_option maxHeartbeats 400000 in
theorem Ty.err_c (b : Nat) (l : List UInt8) (er : Nat) (w : World) (h : Ty.Cur b w l er) :
 Calls Tryd.prog 53 #[.pointer (some ⟨b, 0, none⟩)] w fun e w' => e = .returned (.int .i64 (er : Int)) ∧ w' = w := by
 obtain ⟨c0, c1, _, _⟩ := h.cells
 go_enter Tryd.func53, Tryd.ntmps53
 go_wp2
 go_ret
 exact ⟨rfl, rfl⟩
set_option maxHeartbeats 400000 in
theorem Ty.left_c (b : Nat) (l : List UInt8) (er : Nat) (w : World) (h : Ty.Cur b w l er) :
 Calls Tryd.prog 54 #[.pointer (some ⟨b, 0, none⟩)] w fun e w' => e = .returned (.int .i64 (l.length : Int)) ∧ w' = w := by
 obtain ⟨c0, c1, _, _⟩ := h.cells
 go_enter Tryd.func54, Tryd.ntmps54
 go_wp2
 go_ret
 exact ⟨rfl, rfl⟩
set_option maxHeartbeats 400000 in
theorem Ty.advance_c (b : Nat) (l : List UInt8) (er sz e' : Nat) (w : World) (h : Ty.Cur b w l er) (hsz : sz ≤ l.length) (hl : l.length ≤ 9223372036854775807) :
 Calls Tryd.prog 93 #[.pointer (some ⟨b, 0, none⟩), .int .i64 (sz : Int), .int .i64 (e' : Int)] w (Ty.Left b w (.tuple #[]) (l.drop sz) e') := by
 obtain ⟨c0, c1, f0, f1⟩ := h.cells
 have hss : sz ≤ (Ty.S l).size := hsz
 have hsl : (Ty.S l).size ≤ 9223372036854775807 := hl
 go_enter Tryd.func93, Tryd.ntmps93
 go_wp2
 go_end0
 have e1 : (Ty.S l).extract sz (Ty.S l).size = Ty.S (l.drop sz) := by
  rw [Ty.extract_S, Ty.data_S, Ty.size_S, List.take_of_length_le (by simp)]
 rw [e1]
 exact ⟨rfl, Ty.two_set1 (Ty.two_set0 h), Ty.by_trans (Ty.by_set _ _ _ _) (Ty.by_set _ _ _ _)⟩
def Ty.rdU (l : List UInt8) (e : Nat) : Nat × List UInt8 × Nat := if e ≠ 0 then (0, l, e) else ((Ty.num l).1, l.drop (Ty.num l).2.1, (Ty.num l).2.2)
def Ty.rdT (most : Int) (l : List UInt8) (e : Nat) : List UInt8 × List UInt8 × Nat := if e ≠ 0 then ([], l, e) else ((Ty.txt l most).1, l.drop (Ty.txt l most).2.1, (Ty.txt l most).2.2)
def Ty.rdB (l : List UInt8) (e : Nat) : Nat × List UInt8 × Nat := if e ≠ 0 then (0, l, e) else match l with
 | [] => (0, [], 2)
 | b :: r => (b.toNat, r, 0)
set_option maxHeartbeats 400000 in
theorem Ty.cuint_c (b : Nat) (l : List UInt8) (er : Nat) (w : World) (hw : Ty.Tabs w) (h : Ty.Cur b w l er) (hl : l.length ≤ 9223372036854775807) :
 Calls Tryd.prog 70 #[.pointer (some ⟨b, 0, none⟩)] w (Ty.Left b w (.int .u64 ((Ty.rdU l er).1 : Int)) (Ty.rdU l er).2.1 (Ty.rdU l er).2.2) := by
 obtain ⟨c0, c1, f0, f1⟩ := h.cells
 by_cases he : er = 0
 ·subst he
  have hsz := Ty.num_size l
  have HR : Hid (Ty.rdU l 0 = ((Ty.num l).1, l.drop (Ty.num l).2.1, (Ty.num l).2.2)) := Lib.hid (by simp [Ty.rdU])
  rw [HR.out]
  go_enter Tryd.func70, Tryd.ntmps70
  go_wp2_with fail
  refine (Ty.err_c b l 0 _ h).mono ?_
  rintro e w' ⟨rfl, rfl⟩
  go_wp2_with fail
  refine (Ty.number_c (Ty.S l) _ hw hl).mono ?_
  rintro e w2 ⟨rfl, rfl⟩
  unfold Ty.numV
  rw [Ty.data_S]
  go_wp2_with fail
  refine (Ty.advance_c b l 0 _ _ _ h hsz hl).mono ?_
  rintro e w3 ⟨rfl, hc, hg⟩
  go_wp2
  go_ret
  exact ⟨rfl, hc, hg⟩
 ·have hne : ((er : Int) != 0) = true := by rw [bne_iff_ne]; omega
  have HR : Hid (Ty.rdU l er = (0, l, er)) := Lib.hid (by simp [Ty.rdU, he])
  rw [HR.out]
  clear he
  go_enter Tryd.func70, Tryd.ntmps70
  go_wp2_with fail
  refine (Ty.err_c b l er _ h).mono ?_
  rintro e w' ⟨rfl, rfl⟩
  go_wp2
  go_ret
  exact ⟨rfl, h, Ty.by_refl _ _⟩
end Go.Proofs.YteaglaijkafphaaDoor
namespace Go.Proofs.YteaglaijkafphaaDoor
open Go.RowKit
theorem Ty.rdU_u64 (l : List UInt8) (e : Nat) : Ty.U64 (Ty.rdU l e).1 := by
 unfold Ty.rdU
 split
 ·show (0 : Nat) < 2 ^ 64; omega
 ·exact Ty.num_u64 l
set_option maxHeartbeats 400000 in
theorem Ty.cint_c (b : Nat) (l : List UInt8) (er : Nat) (w : World) (hw : Ty.Tabs w) (h : Ty.Cur b w l er) (hl : l.length ≤ 9223372036854775807) :
 Calls Tryd.prog 94 #[.pointer (some ⟨b, 0, none⟩)] w (Ty.Left b w (.int .i64 (Ty.zag ((Ty.rdU l er).1 : Int))) (Ty.rdU l er).2.1 (Ty.rdU l er).2.2) := by
 have hu := Ty.rdU_u64 l er
 go_enter Tryd.func94, Tryd.ntmps94
 go_wp2_with fail
 refine (Ty.cuint_c b l er _ hw h hl).mono ?_
 rintro e w1 ⟨rfl, hc, hg⟩
 go_wp2_with fail
 refine (Ty.signed_nat _ _ hu).mono ?_
 rintro e w2 ⟨rfl, rfl⟩
 go_wp2
 go_ret
 exact ⟨rfl, hc, hg⟩
set_option maxHeartbeats 400000 in
theorem Ty.ctext_c (b : Nat) (l : List UInt8) (er : Nat) (most : Int) (hm : -9223372036854775808 ≤ most ∧ most ≤ 9223372036854775807) (w : World) (hw : Ty.Tabs w) (h : Ty.Cur b w l er) (hl : l.length ≤ 9223372036854775807) :
 Calls Tryd.prog 95 #[.pointer (some ⟨b, 0, none⟩), .int .i64 most] w (Ty.Left b w (.string (Ty.S (Ty.rdT most l er).1)) (Ty.rdT most l er).2.1 (Ty.rdT most l er).2.2) := by
 obtain ⟨c0, c1, f0, f1⟩ := h.cells
 by_cases he : er = 0
 ·subst he
  have hsz := Ty.txt_size l most
  have HR : Hid (Ty.rdT most l 0 = ((Ty.txt l most).1, l.drop (Ty.txt l most).2.1, (Ty.txt l most).2.2)) := Lib.hid (by simp [Ty.rdT])
  rw [HR.out]
  go_enter Tryd.func95, Tryd.ntmps95
  go_wp2_with fail
  refine (Ty.err_c b l 0 _ h).mono ?_
  rintro e w' ⟨rfl, rfl⟩
  go_wp2_with fail
  refine (Ty.text_r (Ty.S l) most _ hw hl hm).mono ?_
  rintro e w2 ⟨rfl, rfl⟩
  unfold Ty.txtV
  rw [Ty.data_S]
  go_wp2_with fail
  refine (Ty.advance_c b l 0 _ _ _ h hsz hl).mono ?_
  rintro e w3 ⟨rfl, hc, hg⟩
  go_wp2
  go_ret
  exact ⟨rfl, hc, hg⟩
 ·have hne : ((er : Int) != 0) = true := by rw [bne_iff_ne]; omega
  have HR : Hid (Ty.rdT most l er = ([], l, er)) := Lib.hid (by simp [Ty.rdT, he])
  rw [HR.out]
  clear he
  go_enter Tryd.func95, Tryd.ntmps95
  go_wp2_with fail
  refine (Ty.err_c b l er _ h).mono ?_
  rintro e w' ⟨rfl, rfl⟩
  go_wp2
  go_ret
  exact ⟨rfl, h, Ty.by_refl _ _⟩
def Ty.fin (l : List UInt8) (e : Nat) : Nat := if e = 0 ∧ l ≠ [] then 5 else e
set_option maxHeartbeats 400000 in
theorem Ty.done_c (b : Nat) (l : List UInt8) (er : Nat) (w : World) (h : Ty.Cur b w l er) :
 Calls Tryd.prog 30 #[.pointer (some ⟨b, 0, none⟩)] w fun e w' => e = .returned (.int .i64 (Ty.fin l er : Int)) ∧ w' = w := by
 by_cases he : er = 0
 ·subst he
  by_cases hl : (0 : Int) < l.length
  ·have HF : Hid (Ty.fin l 0 = 5) := Lib.hid (by unfold Ty.fin; rw [if_pos ⟨rfl, by intro e; subst e; simp at hl⟩])
   go_enter Tryd.func30, Tryd.ntmps30
   go_wp2_with fail
   refine (Ty.err_c b l 0 _ h).mono ?_
   rintro e w' ⟨rfl, rfl⟩
   go_wp2_with fail
   refine (Ty.left_c b l 0 _ h).mono ?_
   rintro e w' ⟨rfl, rfl⟩
   go_wp2
   go_ret
   exact ⟨by rw [HF.out]; rfl, rfl⟩
  ·have HF : Hid (Ty.fin l 0 = 0) := Lib.hid (by unfold Ty.fin; rw [if_neg (by rintro ⟨_, h2⟩; exact h2 (List.eq_nil_of_length_eq_zero (by omega)))])
   go_enter Tryd.func30, Tryd.ntmps30
   go_wp2_with fail
   refine (Ty.err_c b l 0 _ h).mono ?_
   rintro e w' ⟨rfl, rfl⟩
   go_wp2_with fail
   refine (Ty.left_c b l 0 _ h).mono ?_
   rintro e w' ⟨rfl, rfl⟩
   go_wp2_with fail
   refine (Ty.err_c b l 0 _ h).mono ?_
   rintro e w' ⟨rfl, rfl⟩
   go_wp2
   go_ret
   exact ⟨by rw [HF.out]; rfl, rfl⟩
 ·have hne : ((er : Int) == 0) = false := by rw [beq_eq_false_iff_ne]; omega
  have HF : Hid (Ty.fin l er = er) := Lib.hid (by unfold Ty.fin; rw [if_neg (by rintro ⟨h1, _⟩; exact he h1)])
  clear he
  go_enter Tryd.func30, Tryd.ntmps30
  go_wp2_with fail
  refine (Ty.err_c b l er _ h).mono ?_
  rintro e w' ⟨rfl, rfl⟩
  go_wp2_with fail
  refine (Ty.err_c b l er _ h).mono ?_
  rintro e w' ⟨rfl, rfl⟩
  go_wp2
  go_ret
  exact ⟨by rw [HF.out]; rfl, rfl⟩
end Go.Proofs.YteaglaijkafphaaDoor
