/-
  The laws of disk: what is sure is there.
-/
import Derived.Test.YtfkdkdkdpenblaaL94
namespace Go.Proofs.Ytfkdkdkdpenblaa
open Go.RowKit
abbrev Dk.nSure : Dk.Str := [115, 117, 114, 101]
/-- A file named so, of the bytes A that are sure and B that are not; nothing is to be done to the directory. -/
structure Dk.Su (d : Dk.D) (f : Nat) (A B : Dk.Str) : Prop where
  has : Dk.Has d Dk.nSure f (A ++ B, A.length)
  sure : d.sure = d.dir
  chg : d.chg = []
  room : d.room = 1099511627776
theorem Dk.Su.append {d : Dk.D} {f : Nat} {A B : Dk.Str} (h : Dk.Su d f A B) {k : Nat} (hg : Dk.Good k d) (hk : k ≤ 1000) (m : Dk.Str) (hm : m.length ≤ 1048576) :
    (Dk.append d Dk.nSure m).2 = 0 ∧ Dk.Su (Dk.append d Dk.nSure m).1 f A (B ++ m) := by
  have e := h.has.append hg.sz hk h.room m hm
  rw [e]
  refine ⟨rfl, ?_, h.sure, h.chg, h.room⟩
  have := h.has.put (y := ((A ++ B) ++ m, A.length)) (by simp)
  show Dk.Has (Dk.put (Dk.tick d) f ((A ++ B) ++ m, A.length)) Dk.nSure f (A ++ (B ++ m), A.length)
  rw [List.append_assoc] at this ⊢
  exact this
theorem Dk.sure_made {k : Nat} {d : Dk.D} (hg : Dk.Good k d) (hc : Dk.Calm d) (hk : k ≤ 900) (hn : Dk.look d.dir Dk.nSure = none) (A : Dk.Str) (hA : A.length ≤ 1048576) :
    (Dk.create d Dk.nSure).2 = 0 ∧ Dk.Good (k + 2) (Dk.space (Dk.create d Dk.nSure).1 1099511627776) ∧ (Dk.append (Dk.space (Dk.create d Dk.nSure).1 1099511627776) Dk.nSure A).2 = 0 ∧
    Dk.Good (k + 3) (Dk.append (Dk.space (Dk.create d Dk.nSure).1 1099511627776) Dk.nSure A).1 ∧ (Dk.sync (Dk.append (Dk.space (Dk.create d Dk.nSure).1 1099511627776) Dk.nSure A).1 Dk.nSure).2 = 0 ∧
    Dk.Good (k + 4) (Dk.sync (Dk.append (Dk.space (Dk.create d Dk.nSure).1 1099511627776) Dk.nSure A).1 Dk.nSure).1 ∧ (Dk.syncDir (Dk.sync (Dk.append (Dk.space (Dk.create d Dk.nSure).1 1099511627776) Dk.nSure A).1 Dk.nSure).1).2 = 0 ∧
    Dk.Good (k + 5) (Dk.syncDir (Dk.sync (Dk.append (Dk.space (Dk.create d Dk.nSure).1 1099511627776) Dk.nSure A).1 Dk.nSure).1).1 ∧
    Dk.Su (Dk.syncDir (Dk.sync (Dk.append (Dk.space (Dk.create d Dk.nSure).1 1099511627776) Dk.nSure A).1 Dk.nSure).1).1 d.files.length A [] := by
  obtain ⟨h0, h1⟩ := Dk.Has.create hg.inv hc (s := Dk.nSure) (by decide) hn
  have g1 : Dk.Good (k + 1) (Dk.create d Dk.nSure).1 := hg.step ⟨0, Dk.nSure, [], 0, []⟩ (by decide) (by decide) (by decide)
  have g2 : Dk.Good (k + 2) (Dk.space (Dk.create d Dk.nSure).1 1099511627776) := g1.step ⟨6, [], [], 1099511627776, []⟩ (by decide) (by decide) (by decide)
  have h2 := h1.space 1099511627776
  have hr2 : (Dk.space (Dk.create d Dk.nSure).1 1099511627776).room = 1099511627776 := rfl
  generalize Dk.space (Dk.create d Dk.nSure).1 1099511627776 = d2 at g2 h2 hr2 ⊢
  have e3 := h2.append g2.sz (by omega) hr2 A hA
  have g3 : Dk.Good (k + 3) (Dk.append d2 Dk.nSure A).1 := g2.step ⟨1, Dk.nSure, A, 0, []⟩ (show Dk.nSure.length ≤ 1048576 by decide) hA (by show (0 : Int) ≤ _; omega)
  have h3 := h2.put (y := (A, 0)) (Nat.zero_le _)
  have hr3 : (Dk.put (Dk.tick d2) d.files.length (A, 0)).room = 1099511627776 := hr2
  rw [List.nil_append] at e3
  rw [e3] at g3 ⊢
  simp only at g3 ⊢
  generalize Dk.put (Dk.tick d2) d.files.length (A, 0) = d3 at g3 h3 hr3 ⊢
  have e4 := h3.sync
  have g4 : Dk.Good (k + 4) (Dk.sync d3 Dk.nSure).1 := g3.step ⟨2, Dk.nSure, [], 0, []⟩ (by decide) (by decide) (by decide)
  have h4 := h3.put (y := (A, A.length)) (Nat.le_refl _)
  have hr4 : (Dk.put (Dk.tick d3) d.files.length (A, A.length)).room = 1099511627776 := hr3
  rw [e4] at g4 ⊢
  simp only at g4 ⊢
  generalize Dk.put (Dk.tick d3) d.files.length (A, A.length) = d4 at g4 h4 hr4 ⊢
  have e5 := h4.syncDir
  have g5 : Dk.Good (k + 5) (Dk.syncDir d4).1 := g4.step ⟨5, [], [], 0, []⟩ (by decide) (by decide) (by decide)
  rw [e5] at g5 ⊢
  refine ⟨h0, g2, by trivial, g3, by trivial, g4, by trivial, g5, ⟨⟨g5.inv, h4.look, ?_, h4.halt, h4.deny⟩, rfl, rfl, hr4⟩⟩
  rw [List.append_nil]
  exact h4.file
set_option maxHeartbeats 1000000 in
set_option maxRecDepth 100000 in
theorem Dk.has_c {base : Nat} (v : Value) (L : List Tx.Str) (s : Tx.Str) (w : World) (hv : Tx.Own base w v L) (hn : L.length ≤ 1048576) (hm : s ∈ L) :
    Calls Try.prog 26 #[v, .string (Ty.S s)] w fun e w' => e = .returned (.bool true) ∧ w' = w := by
  obtain ⟨a, c, rfl⟩ := Dk.own_slice hv
  have HV := Lib.hid hv
  have HX : Hid (∃ j, j < L.length ∧ L.getD j [] = s) := Lib.hid (by
    obtain ⟨j, hj, e⟩ := List.getElem_of_mem hm
    exact ⟨j, hj, by rw [List.getD, List.getElem?_eq_getElem hj]; exact e⟩)
  have HLN := Lib.hid hn
  clear hv hm hn
  go_enter Try.func26, Try.ntmps26
  go_wp2
  go_loop [5] (fun i => ∃ q : Nat, q ≤ L.length ∧ i = .int .i64 q ∧ ∀ j, j < q → L.getD j [] ≠ s) (fun i => L.length - (intOf i).toNat)
  case atStart => exact ⟨0, by omega, rfl, fun j hj => by omega⟩
  case round =>
    obtain ⟨q, hq, rfl, hp⟩ := hrel
    have HP := Lib.hid hp
    have hq0 : (0 : Int) ≤ (q : Int) := by omega
    clear hp
    by_cases hql : q < L.length
    · obtain ⟨g, c2, he, hc⟩ := Dk.own_at HV.out hql
      simp only [Value.slice.injEq, true_and] at he
      obtain ⟨rfl, rfl⟩ := he
      have hqi : (q : Int) < (L.length : Int) := by omega
      have hqs : (q : Int) < 1048576 := by have := HLN.out; omega
      by_cases hs : L.getD q [] = s
      · have hx := Tx.S_yes s
        rw [hs] at hc
        generalize Ty.S s = ss at hc hx ⊢
        clear hs hql
        go_wp2
        go_ret
        exact ⟨rfl, rfl⟩
      · have hx := Tx.S_no hs
        have HS := Lib.hid hs
        generalize Ty.S s = ss at hc hx ⊢
        generalize Ty.S (L.getD q []) = sq at hc hx
        clear hs hql
        go_wp2
        go_round
        case rel => exact ⟨q + 1, by omega, by simp, fun j hj => by
          by_cases e : j = q
          · rw [e]; exact HS.out
          · exact HP.out j (by omega)⟩
        case measure => simp [intOf]; omega
    · obtain ⟨j, hj, e⟩ := HX.out
      exact absurd e (HP.out j (by omega))
theorem Dk.crash_nil (d : Dk.D) (k : Nat) (h : Dk.Good k d) : Dk.Good (k + 1) (Dk.crash d 0 []) := h.crash 0 (by unfold Ty.I64; omega) []
set_option maxHeartbeats 8000000 in
set_option maxRecDepth 100000 in
theorem Dk.lawSure_w (v : Value) (L : List Dk.Step) (vm : Value) (Ms : List Tx.Str) (x : Dk.Step) (vx : Value) (w : World) (hv : Dk.Ops w.heap.size w v L) (hl : L.length ≤ 1048576) (hok : Dk.Steps L) (hx : x.Ok ∧ Ty.I64 x.n) (hvx : Ig.At w.heap.size w vx x.keep) (hvm : Tx.At w.heap.size w vm Ms) (hms : ∀ s ∈ Ms, s.length ≤ 1048576) (hml : Ms.length ≤ 1048576) :
    Calls Try.prog 4 #[v, vm, x.val vx] w fun e w' => e = .returned (.bool true) ∧ Below w.heap.size w w' := by
  obtain ⟨wb, hwb⟩ : ∃ wb, wb = w.alloc (.cells #[.int .i64 x.k, .string (Ty.S x.a), .string (Ty.S x.b), .int .i64 x.n, vx] 33) := ⟨_, rfl⟩
  have hb0 : Below w.heap.size w wb := by rw [hwb]; exact (Below.refl _ w).alloc (Nat.le_refl _) _
  have hlt : w.heap.size < wb.heap.size := by rw [hwb, World.size_alloc]; omega
  have x1 : wb.cell? ⟨w.heap.size, 1, none⟩ = some (.string (Ty.S x.a)) := by rw [hwb]; exact Kn.cell_new w _ _ 1 _ rfl
  have x3 : wb.cell? ⟨w.heap.size, 3, none⟩ = some (.int .i64 x.n) := by rw [hwb]; exact Kn.cell_new w _ _ 3 _ rfl
  have x4 : wb.cell? ⟨w.heap.size, 4, none⟩ = some vx := by rw [hwb]; exact Kn.cell_new w _ _ 4 _ rfl
  obtain ⟨ax, cx, hvx2⟩ : ∃ a c, vx = .slice a x.keep.length c := by obtain ⟨a, c, h, _⟩ := hvx.is; exact ⟨a, c, h⟩
  have HXY : Hid (∀ W, Below wb.heap.size wb W → W.cell? ⟨w.heap.size, 1, none⟩ = some (.string (Ty.S x.a)) ∧ W.cell? ⟨w.heap.size, 3, none⟩ = some (.int .i64 x.n) ∧ W.cell? ⟨w.heap.size, 4, none⟩ = some vx) := Lib.hid fun W g =>
    ⟨(g.cell (p := ⟨w.heap.size, 1, none⟩) hlt).trans x1, (g.cell (p := ⟨w.heap.size, 3, none⟩) hlt).trans x3, (g.cell (p := ⟨w.heap.size, 4, none⟩) hlt).trans x4⟩
  have HVB := Lib.hid (hv.below hb0)
  have HB0 := Lib.hid hb0
  have HX := Lib.hid hx
  have HVX := Lib.hid (hvx.below hb0)
  have HVM := Lib.hid (hvm.below hb0)
  have HMS := Lib.hid (And.intro hms hml)
  have HLT := Lib.hid hlt
  obtain ⟨am, cm, hvm2⟩ : ∃ a c, vm = .slice a Ms.length c := by obtain ⟨a, c, h, _⟩ := hvm; exact ⟨a, c, h⟩
  have HM : Hid (Dk.Steps (L.take 300) ∧ (L.take 300).length ≤ 300) := Lib.hid ⟨hok.take 300, List.length_take_le _ _⟩
  have CE : Hid (∀ W, Below wb.heap.size wb W → Calls Try.prog 12 #[v] W fun e w' => ∃ u, e = .returned u ∧ Dk.Ops w.heap.size W u (L.take 300) ∧ w' = W) := Lib.hid fun W g => Dk.early_c (HVB.out.below (g.mono (Nat.le_of_lt hlt))) hl
  have CN : Hid (∀ W, Below wb.heap.size wb W → Calls Try.prog 13 #[.int .i64 1073741824] W fun e w' => ∃ p, e = .returned (.pointer (some ⟨p, 0, none⟩)) ∧ Dk.PL wb.heap.size w' p (Dk.new 1073741824) ∧ Below wb.heap.size W w') := Lib.hid fun W g => Dk.new_PL (by unfold Ty.I64; omega) _ g.size
  have HG0 : Hid (Dk.Good 0 (Dk.new 1073741824)) := Lib.hid (Dk.Good.new 1073741824 (by decide))
  generalize L.take 300 = M at CE HM
  generalize hkx : x.keep = kx at hvx2 HVX
  have HKX := Lib.hid hkx
  unfold Dk.Step.val
  rw [hvx2] at hwb HXY HVX ⊢
  rw [hvm2] at HVM ⊢
  generalize hxa : Ty.S x.a = xa at hwb HXY ⊢
  have HXA := Lib.hid hxa
  generalize Ty.S x.b = xb at hwb ⊢
  clear hv hl hok hx hvx x1 x3 x4 hvx2 hkx hb0 hlt hvm hms hml hvm2 hxa
  go_enter Try.func4, Try.ntmps4
  go_wp2_with fail
  rw [← hwb]
  clear hwb
  with_reducible refine (Dk.lives_c _).mono ?_
  rintro e w1 ⟨rfl, g1⟩
  have ce := CE.out w1 g1
  have cn := CN.out w1 g1
  have HB1 := Lib.hid g1
  clear g1 CE CN
  go_wp2_with fail
  with_reducible refine ce.mono ?_
  rintro e w2 ⟨u, rfl, hu, h2⟩
  subst w2
  have HU := Lib.hid hu
  obtain ⟨aU, cU, hvU, _⟩ := hu.is
  subst hvU
  clear ce hu
  go_wp2_with fail
  with_reducible refine cn.mono ?_
  rintro e w3 ⟨p, rfl, hp, g3⟩
  have HU3 := Lib.hid (HU.out.below (g3.mono (Nat.le_of_lt HLT.out)))
  have HP3 := Lib.hid hp
  have HB3 := Lib.hid (HB1.out.trans g3)
  have hml := HM.out.2
  clear cn hp g3
  go_wp2_with fail
  go_loopw [8] (fun i wr => ∃ (q : Nat) (d : Dk.D), q ≤ M.length ∧ i = .int .i64 q ∧ Dk.Good q d ∧ Dk.PL wb.heap.size wr p d ∧ Below wb.heap.size wb wr ∧ Dk.Ops w.heap.size wr (.slice aU M.length cU) M) (fun i _ => M.length - (intOf i).toNat)
  case atStart => exact ⟨0, Dk.new 1073741824, by omega, rfl, HG0.out, HP3.out, HB3.out, HU3.out⟩
  case round =>
    obtain ⟨q, d, hq, rfl, hG, hP, hB, hU⟩ := hrel
    have HG := Lib.hid hG
    have HP := Lib.hid hP
    have HB := Lib.hid hB
    have HUU := Lib.hid hU
    have hq0 : (0 : Int) ≤ (q : Int) := by omega
    by_cases hql : q < M.length
    · obtain ⟨z, hz⟩ : ∃ z, M[q]? = some z := ⟨_, List.getElem?_eq_getElem hql⟩
      have hzo := HM.out.1 z (List.mem_of_getElem? hz)
      obtain ⟨a', c', he, _, hbB, hh2⟩ := hU.is
      simp only [Value.slice.injEq, true_and] at he
      obtain ⟨rfl, rfl⟩ := he
      rcases hh2 with ⟨h0, _⟩ | ⟨b, o, rfl, hbl, hh2⟩
      · rw [h0] at hql; simp at hql
      · obtain ⟨e0, e1, e2, e3, vK, e4, hK⟩ := hh2 q z hz
        obtain ⟨aK, cK, hvK, _⟩ := hK.is
        have cd := Dk.does_PL hP HG.out (by have := HM.out.2; omega) hzo (hK.mono (Nat.le_of_lt HLT.out) hB.size)
        have HGN := Lib.hid (HG.out.op hzo)
        rw [hvK] at cd e4
        generalize Ty.S z.a = sa at cd e1
        generalize Ty.S z.b = sb at cd e2
        have hqi : (q : Int) < (M.length : Int) := by omega
        clear hzo hh2 hK hvK hG hP hB hU hql hz
        go_wp2_with fail
        with_reducible refine cd.mono ?_
        rintro e wd ⟨rfl, hPd, gd⟩
        have HPd := Lib.hid hPd
        have HBd := Lib.hid (HB.out.trans gd)
        have HUd := Lib.hid (HUU.out.below (gd.mono (Nat.le_of_lt HLT.out)))
        clear cd hPd gd e0 e1 e2 e3 e4
        go_wp2
        go_roundw
        case rel => exact ⟨q + 1, _, by omega, by simp, HGN.out, HPd.out, HBd.out, HUd.out⟩
        case measure => simp [intOf]; omega
    · obtain rfl : q = M.length := by omega
      have hqi : ¬ (M.length : Int) < (M.length : Int) := by omega
      have cc : Calls Try.prog 24 #[.pointer (some ⟨p, 0, none⟩), .int .i64 0, .slice none 0 0] wr fun e w' => e = .returned (.tuple #[]) ∧ Dk.PL wb.heap.size w' p (Dk.crash d 0 []) ∧ Below wb.heap.size wr w' :=
        hP.call hB.size fun S h' _ => Dk.pcrash_c h' (hG.fit (by omega)) 0 (by unfold Ty.I64; omega) [] _ ⟨none, 0, rfl, Nat.zero_le _, .inl rfl⟩
      have HG1 := Lib.hid (Dk.crash_nil d M.length hG)
      have HC1 := Lib.hid (Dk.calm_crash hG.inv 0 [])
      have HBr := Lib.hid hB
      generalize Dk.crash d 0 [] = d1 at cc HG1 HC1
      clear hG hP hB hU hq
      go_wp2_with fail
      with_reducible refine cc.mono ?_
      rintro e wc ⟨rfl, hPc, gc⟩
      have HPC := Lib.hid hPc
      have HBC := Lib.hid (HBr.out.trans gc)
      have hqn : M.length + 1 ≤ 900 := by omega
      have ccr : Calls Try.prog 25 #[.pointer (some ⟨p, 0, none⟩), .string ⟨#[115, 117, 114, 101]⟩] wc fun e w' => e = .returned (.int .i64 (((Dk.create d1 Dk.nSure).2 : Nat) : Int)) ∧ Dk.PL wb.heap.size w' p (Dk.create d1 Dk.nSure).1 ∧ Below wb.heap.size wc w' := HPC.out.call HBC.out.size fun S h' _ => Dk.pcreate_c h' (HG1.out.fit (by omega)) Dk.nSure (by decide)
      clear cc hPc gc
      cases hlk : Dk.look d1.dir Dk.nSure with
      | some f =>
        have hcr : Dk.create d1 Dk.nSure = (Dk.tick d1, 12) := by
          unfold Dk.create
          rw [if_neg (by rw [HC1.out.callE]; simp), if_pos (.inr (by rw [hlk]; simp))]
        have hin : Dk.nSure ∈ Dk.names (Dk.tick d1) := List.mem_map.2 ⟨(Dk.nSure, f), (Dk.look_some HG1.out.inv.dir.asc).1 hlk, rfl⟩
        have hg2 : Dk.Good (M.length + 2) (Dk.create d1 Dk.nSure).1 := HG1.out.step ⟨0, Dk.nSure, [], 0, []⟩ (by decide) (by decide) (by decide)
        rw [hcr] at ccr hg2
        simp only at ccr hg2
        have HIN := Lib.hid hin
        have HG2 := Lib.hid hg2
        generalize Dk.tick d1 = d2 at ccr HIN HG2
        clear hcr hin hg2 hlk
        go_wp2_with fail
        with_reducible refine ccr.mono ?_
        rintro e w4 ⟨rfl, hP4, g4⟩
        have HB4 := Lib.hid (HBC.out.trans g4)
        have cnm := hP4.read fun S h' => Dk.pnames_c h' (HG2.out.fit (by omega))
        have hnl := Dk.names_len HG2.out
        clear ccr hP4 g4
        go_wp2_with fail
        with_reducible refine cnm.mono ?_
        rintro e w5 ⟨v5, rfl, hO5, g5⟩
        have HB5 := Lib.hid (HB4.out.trans (g5.mono HB4.out.size))
        have ch : Calls Try.prog 26 #[v5, .string ⟨#[115, 117, 114, 101]⟩] w5 fun e w' => e = .returned (.bool true) ∧ w' = w5 := Dk.has_c v5 (Dk.names d2) Dk.nSure w5 hO5 (by omega) HIN.out
        clear cnm hO5 g5 hnl
        go_wp2_with fail
        with_reducible refine ch.mono ?_
        rintro e w6 ⟨rfl, h6⟩
        subst w6
        clear ch
        go_wp2
        go_ret
        exact ⟨rfl, HB0.out.trans (HB5.out.mono HB0.out.size)⟩
      | none =>
        obtain ⟨s1, s2, s3, s4, s5, s6, s7, s8, s9⟩ := Dk.sure_made HG1.out HC1.out hqn hlk x.a HX.out.1.a
        have gA : Dk.Good (M.length + 2) (Dk.create d1 Dk.nSure).1 := HG1.out.step ⟨0, Dk.nSure, [], 0, []⟩ (by decide) (by decide) (by decide)
        rw [s1] at ccr
        obtain ⟨dA, hA⟩ : ∃ dA, dA = (Dk.create d1 Dk.nSure).1 := ⟨_, rfl⟩
        rw [← hA] at ccr gA s2 s3 s4 s5 s6 s7 s8 s9
        obtain ⟨d2, h2⟩ : ∃ d2, d2 = Dk.space dA 1099511627776 := ⟨_, rfl⟩
        rw [← h2] at s2 s3 s4 s5 s6 s7 s8 s9
        obtain ⟨d3, h3⟩ : ∃ d3, d3 = (Dk.append d2 Dk.nSure x.a).1 := ⟨_, rfl⟩
        rw [← h3] at s4 s5 s6 s7 s8 s9
        obtain ⟨d4, h4⟩ : ∃ d4, d4 = (Dk.sync d3 Dk.nSure).1 := ⟨_, rfl⟩
        rw [← h4] at s6 s7 s8 s9
        obtain ⟨d5, h5⟩ : ∃ d5, d5 = (Dk.syncDir d4).1 := ⟨_, rfl⟩
        rw [← h5] at s8 s9
        have K2 : Hid (∀ W, Dk.PL wb.heap.size W p dA → wb.heap.size ≤ W.heap.size → Calls Try.prog 27 #[.pointer (some ⟨p, 0, none⟩), .int .i64 1099511627776] W fun e w' => e = .returned (.tuple #[]) ∧ Dk.PL wb.heap.size w' p d2 ∧ Below wb.heap.size W w') := Lib.hid fun W h hB => h.call hB fun S h' _ => by
          rw [h2]; exact Dk.pspace_c h' (gA.fit (by omega)) 1099511627776 (by unfold Ty.I64; omega)
        have K3 : Hid (∀ W, Dk.PL wb.heap.size W p d2 → wb.heap.size ≤ W.heap.size → Calls Try.prog 28 #[.pointer (some ⟨p, 0, none⟩), .string ⟨#[115, 117, 114, 101]⟩, .string xa] W fun e w' => e = .returned (.int .i64 0) ∧ Dk.PL wb.heap.size w' p d3 ∧ Below wb.heap.size W w') := Lib.hid fun W h hB => h.call hB fun S h' _ => by
          have := Dk.pappend_c h' (s2.fit (by omega)) Dk.nSure x.a (by decide) (by have := HX.out.1.a; omega)
          rw [s3, ← h3, HXA.out] at this
          exact this
        have K4 : Hid (∀ W, Dk.PL wb.heap.size W p d3 → wb.heap.size ≤ W.heap.size → Calls Try.prog 29 #[.pointer (some ⟨p, 0, none⟩), .string ⟨#[115, 117, 114, 101]⟩] W fun e w' => e = .returned (.int .i64 0) ∧ Dk.PL wb.heap.size w' p d4 ∧ Below wb.heap.size W w') := Lib.hid fun W h hB => h.call hB fun S h' _ => by
          have := Dk.psync_c h' (s4.fit (by omega)) Dk.nSure (by decide)
          rw [s5, ← h4] at this
          exact this
        have K5 : Hid (∀ W, Dk.PL wb.heap.size W p d4 → wb.heap.size ≤ W.heap.size → Calls Try.prog 30 #[.pointer (some ⟨p, 0, none⟩)] W fun e w' => e = .returned (.int .i64 0) ∧ Dk.PL wb.heap.size w' p d5 ∧ Below wb.heap.size W w') := Lib.hid fun W h hB => h.call hB fun S h' _ => by
          have := Dk.psyncdir_c h' (s6.fit (by omega))
          rw [s7, ← h5] at this
          exact this
        have HG5 := Lib.hid s8
        have HSU := Lib.hid s9
        generalize d1.files.length = F at HSU
        clear s1 s2 s3 s4 s5 s6 s7 s8 s9 hA h2 h3 h4 h5 hlk gA
        go_wp2_with fail
        with_reducible refine ccr.mono ?_
        rintro e w4 ⟨rfl, hP4, g4⟩
        have HB4 := Lib.hid (HBC.out.trans g4)
        have k2 := K2.out w4 hP4 HB4.out.size
        clear ccr hP4 g4 K2
        go_wp2_with fail
        with_reducible refine k2.mono ?_
        rintro e w5 ⟨rfl, hP5, g5⟩
        have HB5 := Lib.hid (HB4.out.trans g5)
        have k3 := K3.out w5 hP5 HB5.out.size
        obtain ⟨x1, x3, x4⟩ := HXY.out w5 HB5.out
        clear k2 hP5 g5 K3
        go_wp2_with fail
        with_reducible refine k3.mono ?_
        rintro e w6 ⟨rfl, hP6, g6⟩
        have HB6 := Lib.hid (HB5.out.trans g6)
        have k4 := K4.out w6 hP6 HB6.out.size
        clear k3 hP6 g6 K4 x1 x3 x4
        go_wp2_with fail
        with_reducible refine k4.mono ?_
        rintro e w7 ⟨rfl, hP7, g7⟩
        have HB7 := Lib.hid (HB6.out.trans g7)
        have k5 := K5.out w7 hP7 HB7.out.size
        clear k4 hP7 g7 K5
        go_wp2_with fail
        with_reducible refine k5.mono ?_
        rintro e w8 ⟨rfl, hP8, g8⟩
        have HB8 := Lib.hid (HB7.out.trans g8)
        have HP8 := Lib.hid hP8
        obtain ⟨x1, x3, x4⟩ := HXY.out w8 HB8.out
        clear k5 hP8 g8
        go_wp2_with fail
        go_loopw [9, 10] (fun av i wr => ∃ (q : Nat) (dq : Dk.D) (B : Dk.Str), q ≤ Ms.length ∧ q ≤ 50 ∧ i = .int .i64 q ∧ av = .string (Ty.S (x.a ++ B)) ∧ Dk.Su dq F x.a B ∧ Dk.Good (M.length + 6 + q) dq ∧ Dk.PL wb.heap.size wr p dq ∧ Below wb.heap.size wb wr ∧ B.length ≤ q * 1048576) (fun _ i _ => Ms.length - (intOf i).toNat)
        case atStart => exact ⟨0, d5, [], by omega, by omega, rfl, by rw [List.append_nil, HXA.out], HSU.out, HG5.out.mono (by omega), HP8.out, HB8.out, by simp⟩
        case round =>
          obtain ⟨q, dq, B, hq, hq50, rfl, rfl, hSu, hG, hP, hB, hBl⟩ := hrel
          have HSUq := Lib.hid hSu
          have HGq := Lib.hid hG
          have HPq := Lib.hid hP
          have HBq := Lib.hid hB
          have HQ50 := Lib.hid hq50
          have HBL := Lib.hid hBl
          have hq0 : (0 : Int) ≤ (q : Int) := by omega
          by_cases hgo : q < Ms.length ∧ q < 50
          · obtain ⟨hql, hq5⟩ := hgo
            obtain ⟨a', c', he, _, _, hh⟩ := HVM.out
            simp only [Value.slice.injEq, true_and] at he
            obtain ⟨rfl, rfl⟩ := he
            rcases hh with ⟨h0, _⟩ | ⟨b, o, rfl, hbl, hh⟩
            · rw [h0] at hql; simp at hql
            · have hc : wr.cell? ⟨b, o + q, none⟩ = some (.string (Ty.S (Ms.getD q []))) := (hB.cell (p := ⟨b, o + q, none⟩) (Nat.lt_of_lt_of_le hbl (Nat.le_of_lt HLT.out))).trans (hh q hql)
              have hmq : (Ms.getD q []).length ≤ 1048576 := HMS.out.1 _ (by rw [List.getD, List.getElem?_eq_getElem hql]; exact List.getElem_mem _)
              obtain ⟨ha0, hsu2⟩ := hSu.append hG (by have := HM.out.2; omega) (Ms.getD q []) hmq
              have hg2 : Dk.Good (M.length + 6 + q + 1) (Dk.append dq Dk.nSure (Ms.getD q [])).1 := hG.step ⟨1, Dk.nSure, Ms.getD q [], 0, []⟩ (show Dk.nSure.length ≤ 1048576 by decide) hmq (by show (0 : Int) ≤ _; omega)
              have ca : Calls Try.prog 28 #[.pointer (some ⟨p, 0, none⟩), .string ⟨#[115, 117, 114, 101]⟩, .string (Ty.S (Ms.getD q []))] wr fun e w' => e = .returned (.int .i64 0) ∧ Dk.PL wb.heap.size w' p (Dk.append dq Dk.nSure (Ms.getD q [])).1 ∧ Below wb.heap.size wr w' := hP.call hB.size fun S h' _ => by
                have := Dk.pappend_c h' (hG.fit (by have := HM.out.2; omega)) Dk.nSure (Ms.getD q []) (by decide) (by omega)
                rw [ha0] at this
                exact this
              have HS2 := Lib.hid hsu2
              have HG2 := Lib.hid hg2
              have HC := Lib.hid (fun (W : World) (g : Below wb.heap.size wr W) => (g.cell (p := ⟨b, o + q, none⟩) (Nat.lt_of_lt_of_le hbl (Nat.le_of_lt HLT.out))).trans hc)
              have hsz1 : (Ty.S (x.a ++ B)).size = (x.a ++ B).length := Ty.size_S _
              have hsz2 : (Ty.S (Ms.getD q [])).size = (Ms.getD q []).length := Ty.size_S _
              have hcat : ¬ 9223372036854775807 < (Ty.S (x.a ++ B)).size + (Ty.S (Ms.getD q [])).size := by
                rw [hsz1, hsz2, List.length_append]
                have := HX.out.1.a
                omega
              have HADD : Hid (Ty.S (x.a ++ B) ++ Ty.S (Ms.getD q []) = Ty.S (x.a ++ (B ++ Ms.getD q []))) := Lib.hid (by rw [Dk.S_add, List.append_assoc])
              have HLB : Hid ((B ++ Ms.getD q []).length ≤ (q + 1) * 1048576) := Lib.hid (by rw [List.length_append]; omega)
              generalize (Dk.append dq Dk.nSure (Ms.getD q [])).1 = dn at ca HS2 HG2
              generalize Ms.getD q [] = mq at ca HS2 HC hcat HADD HLB hc
              generalize Ty.S (x.a ++ B) = sall at hcat HADD ⊢
              generalize hsm : Ty.S mq = sm at ca HC hcat HADD hc
              have hqi : (q : Int) < (Ms.length : Int) := by omega
              have hqj : (q : Int) < 50 := by omega
              clear hh hmq ha0 hsu2 hg2 hsz1 hsz2 hSu hG hP hB hBl hsm hql hq5
              go_wp2_with fail
              with_reducible refine ca.mono ?_
              rintro e wn ⟨rfl, hPn, gn⟩
              have HPn := Lib.hid hPn
              have HBn := Lib.hid (HBq.out.trans gn)
              have hc2 := HC.out wn gn
              clear ca hPn gn hc
              go_wp2
              go_roundw
              case rel => exact ⟨q + 1, dn, B ++ mq, by omega, by omega, by simp, by rw [← HADD.out], HS2.out, HG2.out.mono (by omega), HPn.out, HBn.out, HLB.out⟩
              case measure => simp [intOf]; omega
          · rcases (by omega : q = Ms.length ∨ (q < Ms.length ∧ q = 50)) with hz | ⟨hz1, hz2⟩
            · have hqi : ¬ (q : Int) < (Ms.length : Int) := by omega
              clear hgo hSu hG hP hB hBl hq hq50 hz
              have hG9 := HGq.out
              have hSu := HSUq.out
              obtain ⟨x1, x3, x4⟩ := HXY.out wr HBq.out
              have cc : Calls Try.prog 24 #[.pointer (some ⟨p, 0, none⟩), .int .i64 x.n, .slice ax kx.length cx] wr fun e w' => e = .returned (.tuple #[]) ∧ Dk.PL wb.heap.size w' p (Dk.crash dq x.n kx) ∧ Below wb.heap.size wr w' := by
                obtain ⟨S, hS1, hS2⟩ := HPq.out
                refine (Dk.pcrash_c hS1 (hG9.fit (by have := HM.out.2; have := HQ50.out; omega)) x.n HX.out.2 kx _ ?_).mono ?_
                · exact Dk.Keep.of (HVX.out.below (HBq.out.mono (Nat.le_of_lt HLT.out))) (fun b hb => Nat.le_trans (Nat.le_of_lt HLT.out) (hS2 b hb)) (by rw [← HKX.out]; exact HX.out.1.keep)
                · rintro e w' ⟨he, hd⟩
                  exact ⟨he, Dk.PL.did hS2 HBq.out.size hd⟩
              obtain ⟨tt, ht1, ht2, ht3, ht4⟩ := hSu.has.crash hSu.sure hSu.chg x.n kx
              have hG10 := hG9.crash x.n HX.out.2 kx
              have crd : ∀ W, Dk.PL wb.heap.size W p (Dk.crash dq x.n kx) → Calls Try.prog 19 #[.pointer (some ⟨p, 0, none⟩), .string ⟨#[115, 117, 114, 101]⟩] W fun e w' => e = .returned (.tuple #[.string (Ty.S tt), .int .i64 0]) ∧ Below W.heap.size W w' := fun W h => h.read fun S h' => by
                have := Dk.pread_c h' (hG10.fit (by have := HM.out.2; have := HQ50.out; omega)) Dk.nSure (by decide)
                rw [ht1] at this
                exact this
              have HRD := Lib.hid crd
              generalize Dk.crash dq x.n kx = d9 at cc HRD
              have hext : (Ty.S (x.a ++ B)).extract 0 tt.length = Ty.S tt := by
                rw [Ty.extract_S, Ty.data_S]
                show Ty.S (((x.a ++ B).drop 0).take (tt.length - 0)) = _
                rw [List.drop_zero, Nat.sub_zero, ← ht4]
              have hyes := Tx.S_yes tt
              have hs1 : (Ty.S tt).size = tt.length := Ty.size_S _
              have hs2 : (Ty.S (x.a ++ B)).size = (x.a ++ B).length := Ty.size_S _
              have hs3 : xa.size = x.a.length := by rw [← HXA.out]; exact Ty.size_S _
              have i1 : (tt.length : Int) ≥ (x.a.length : Int) := by have h := ht2; simp only at h; omega
              have i2 : (tt.length : Int) ≤ ((x.a ++ B).length : Int) := by have h := ht3; simp only at h; omega
              have i3 : (0 : Int) ≤ (tt.length : Int) := by omega
              have i4 : (tt.length : Int).toNat = tt.length := by omega
              generalize Ty.S (x.a ++ B) = sall at hext hs2 ⊢
              generalize Ty.S tt = st at HRD hext hyes hs1
              generalize (x.a ++ B).length = nall at hs2 i2
              generalize x.a.length = na at hs3 i1
              generalize tt.length = nt at hext hs1 i1 i2 i3 i4
              clear hG9 hSu ht1 ht2 ht3 ht4 hG10 crd x1
              go_wp2_with fail
              with_reducible refine cc.mono ?_
              rintro e wc2 ⟨rfl, hPc2, gc2⟩
              have HBc2 := Lib.hid (HBq.out.trans gc2)
              have cr := HRD.out wc2 hPc2
              clear cc hPc2 gc2 x3 x4
              go_wp2_with fail
              with_reducible refine cr.mono ?_
              rintro e wd2 ⟨rfl, gd2⟩
              have HBd2 := Lib.hid (HBc2.out.trans (gd2.mono HBc2.out.size))
              obtain ⟨x1, _, _⟩ := HXY.out wd2 HBd2.out
              clear cr gd2
              go_wp2
              go_ret
              exact ⟨rfl, HB0.out.trans (HBd2.out.mono HB0.out.size)⟩
            · have hqi : (q : Int) < (Ms.length : Int) := by omega
              have hqj : ¬ (q : Int) < 50 := by omega
              clear hgo hSu hG hP hB hBl hq hq50 hz1 hz2
              have hG9 := HGq.out
              have hSu := HSUq.out
              obtain ⟨x1, x3, x4⟩ := HXY.out wr HBq.out
              have cc : Calls Try.prog 24 #[.pointer (some ⟨p, 0, none⟩), .int .i64 x.n, .slice ax kx.length cx] wr fun e w' => e = .returned (.tuple #[]) ∧ Dk.PL wb.heap.size w' p (Dk.crash dq x.n kx) ∧ Below wb.heap.size wr w' := by
                obtain ⟨S, hS1, hS2⟩ := HPq.out
                refine (Dk.pcrash_c hS1 (hG9.fit (by have := HM.out.2; have := HQ50.out; omega)) x.n HX.out.2 kx _ ?_).mono ?_
                · exact Dk.Keep.of (HVX.out.below (HBq.out.mono (Nat.le_of_lt HLT.out))) (fun b hb => Nat.le_trans (Nat.le_of_lt HLT.out) (hS2 b hb)) (by rw [← HKX.out]; exact HX.out.1.keep)
                · rintro e w' ⟨he, hd⟩
                  exact ⟨he, Dk.PL.did hS2 HBq.out.size hd⟩
              obtain ⟨tt, ht1, ht2, ht3, ht4⟩ := hSu.has.crash hSu.sure hSu.chg x.n kx
              have hG10 := hG9.crash x.n HX.out.2 kx
              have crd : ∀ W, Dk.PL wb.heap.size W p (Dk.crash dq x.n kx) → Calls Try.prog 19 #[.pointer (some ⟨p, 0, none⟩), .string ⟨#[115, 117, 114, 101]⟩] W fun e w' => e = .returned (.tuple #[.string (Ty.S tt), .int .i64 0]) ∧ Below W.heap.size W w' := fun W h => h.read fun S h' => by
                have := Dk.pread_c h' (hG10.fit (by have := HM.out.2; have := HQ50.out; omega)) Dk.nSure (by decide)
                rw [ht1] at this
                exact this
              have HRD := Lib.hid crd
              generalize Dk.crash dq x.n kx = d9 at cc HRD
              have hext : (Ty.S (x.a ++ B)).extract 0 tt.length = Ty.S tt := by
                rw [Ty.extract_S, Ty.data_S]
                show Ty.S (((x.a ++ B).drop 0).take (tt.length - 0)) = _
                rw [List.drop_zero, Nat.sub_zero, ← ht4]
              have hyes := Tx.S_yes tt
              have hs1 : (Ty.S tt).size = tt.length := Ty.size_S _
              have hs2 : (Ty.S (x.a ++ B)).size = (x.a ++ B).length := Ty.size_S _
              have hs3 : xa.size = x.a.length := by rw [← HXA.out]; exact Ty.size_S _
              have i1 : (tt.length : Int) ≥ (x.a.length : Int) := by have h := ht2; simp only at h; omega
              have i2 : (tt.length : Int) ≤ ((x.a ++ B).length : Int) := by have h := ht3; simp only at h; omega
              have i3 : (0 : Int) ≤ (tt.length : Int) := by omega
              have i4 : (tt.length : Int).toNat = tt.length := by omega
              generalize Ty.S (x.a ++ B) = sall at hext hs2 ⊢
              generalize Ty.S tt = st at HRD hext hyes hs1
              generalize (x.a ++ B).length = nall at hs2 i2
              generalize x.a.length = na at hs3 i1
              generalize tt.length = nt at hext hs1 i1 i2 i3 i4
              clear hG9 hSu ht1 ht2 ht3 ht4 hG10 crd x1
              go_wp2_with fail
              with_reducible refine cc.mono ?_
              rintro e wc2 ⟨rfl, hPc2, gc2⟩
              have HBc2 := Lib.hid (HBq.out.trans gc2)
              have cr := HRD.out wc2 hPc2
              clear cc hPc2 gc2 x3 x4
              go_wp2_with fail
              with_reducible refine cr.mono ?_
              rintro e wd2 ⟨rfl, gd2⟩
              have HBd2 := Lib.hid (HBc2.out.trans (gd2.mono HBc2.out.size))
              obtain ⟨x1, _, _⟩ := HXY.out wd2 HBd2.out
              clear cr gd2
              go_wp2
              go_ret
              exact ⟨rfl, HB0.out.trans (HBd2.out.mono HB0.out.size)⟩
end Go.Proofs.Ytfkdkdkdpenblaa
