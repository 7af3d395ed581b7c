/-
  What the laws of tally want of a buffer that begins as nil.
-/
import Derived.Test.YtccjfmjgkkpndaaDoorL1
import Derived.RegionCalls
import Derived.Deep.RegionWith
namespace Go.Proofs.YtccjfmjgkkpndaaDoor
open Go.RowKit
theorem Ty.Tabs.drew {w : World} (h : Ty.Tabs w) : Ty.Tabs w.drew := h.kept (Nat.le_refl _) fun _ _ => rfl
theorem Ty.Buf.later {base : Nat} {w w' : World} {v : Value} {bs : List UInt8} (h : Ty.Buf base w v bs) (hb : Below w.heap.size w w') : Ty.Buf base w' v bs :=
  h.kept fun k hk => hb.block k (h.lt k hk).2
theorem Ty.Buf.str {base : Nat} {w : World} {v : Value} {bs : List UInt8} (h : Ty.Buf base w v bs) : (convert 47 9 v).run Tryd.prog w = .ok (.string (Ty.S bs)) w :=
  h.string 47 9 Tryd.underlying47 Tryd.underlying5 Tryd.underlying9
def Ty.Fresh (w : World) (bs : List UInt8) (e : Ending) (w' : World) : Prop := ∃ v', e = .returned v' ∧ Ty.Buf w.heap.size w' v' bs ∧ Ty.Tabs w' ∧ Below w.heap.size w w'
theorem Ty.Written.fresh {w : World} {bs : List UInt8} {e : Ending} {w' : World} (h : Ty.Written w.heap.size w (.slice none 0 0) bs e w') (hw : Ty.Tabs w) : Ty.Fresh w bs e w' := by
  obtain ⟨v', rfl, hB, hG⟩ := h
  have hb := Ty.below_by hG.by_ (Nat.le_refl w.heap.size) (by intro k hk; cases hk)
  exact ⟨v', rfl, hB, hw.below hb hw.two, hb⟩
theorem Ty.uintNil (z : Int) (h0 : 0 ≤ z) (hz : Ty.U64 z.toNat) (w : World) (hw : Ty.Tabs w) :
    Calls Tryd.prog 50 #[.slice none 0 0, .int .u64 z] w (Ty.Fresh w (Ty.encU z.toNat)) :=
  (Ty.uint_c w.heap.size _ [] z h0 hz w hw (Ty.Buf.nil _ _) (Nat.le_refl _) (by simp)).mono fun _ _ h => h.fresh hw
theorem Ty.textNil (s : ByteArray) (hs : s.size ≤ 140737488351232) (w : World) (hw : Ty.Tabs w) :
    Calls Tryd.prog 36 #[.slice none 0 0, .string s] w (Ty.Fresh w (Ty.encU s.size ++ s.data.toList)) :=
  (Ty.text_c w.heap.size _ [] s w hw (Ty.Buf.nil _ _) (Nat.le_refl _) (by simp; omega)).mono fun _ _ h => h.fresh hw
theorem Ty.from_f (l : List UInt8) (w : World) (hT : Ty.Tabs w) :
    Calls Tryd.prog 26 #[.string (Ty.S l)] w fun e w' => e = .returned (.pointer (some ⟨w.heap.size, 0, none⟩)) ∧ Ty.Cur w.heap.size w' l 0 ∧ Ty.Tabs w' ∧ w.grownBy w' none :=
  (Ty.from_c l w).mono fun e w' ⟨he, hw⟩ => by
    subst hw
    exact ⟨he, Ty.Cur.at_new w l, hT.alloc _, World.grownBy_alloc _ _ _⟩
theorem Ty.below_none {w w' : World} {B : Nat} (hg : w.grownBy w' none) (hB : B ≤ w.heap.size) : Below B w w' := Ty.below_by hg hB (by intro k hk; cases hk)
theorem Ty.below_at {w w' : World} {B b : Nat} (hg : w.grownBy w' (some b)) (hB : B ≤ w.heap.size) (hb : B ≤ b) : Below B w w' := Ty.below_by hg hB (by intro k hk; cases hk; exact hb)
theorem Ty.Tabs.at_ {w w' : World} {b : Nat} (h : Ty.Tabs w) (hg : w.grownBy w' (some b)) (hb : Ty.G ≤ b) : Ty.Tabs w' := h.by hg (by intro k hk; cases hk; exact hb)
theorem Ty.Cur.none_ {b : Nat} {w w' : World} {l : List UInt8} {e : Nat} (h : Ty.Cur b w l e) (hg : w.grownBy w' none) : Ty.Cur b w' l e := h.by hg (by intro h; cases h)
theorem Ty.Cur.at_ {b c : Nat} {w w' : World} {l : List UInt8} {e : Nat} (h : Ty.Cur b w l e) (hg : w.grownBy w' (some c)) (hb : c ≠ b) : Ty.Cur b w' l e := h.by hg (by intro h; exact hb (Option.some.inj h))
theorem Ty.Cur.below {b : Nat} {w w' : World} {l : List UInt8} {e B : Nat} (h : Ty.Cur b w l e) (hb : Below B w w') (hB : b < B) : Ty.Cur b w' l e := by
  unfold Ty.Cur at h ⊢
  rw [hb.block b hB]
  exact h
end Go.Proofs.YtccjfmjgkkpndaaDoor
