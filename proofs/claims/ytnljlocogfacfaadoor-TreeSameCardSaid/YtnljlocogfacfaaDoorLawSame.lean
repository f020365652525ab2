/-
  Walk of the law TreeSame.
-/
import Derived.Test.YtnljlocogfacfaaDoorSameV
import Derived.Test.YtnljlocogfacfaaDoorHeldK
import Derived.Test.YtnljlocogfacfaaDoorTwoX
import Derived.Deep.DeepCutAuto
namespace Go.Proofs.YtnljlocogfacfaaDoor
open Go.RowKit
namespace Lx
set_option maxRecDepth 100000
theorem Bx.bareX {w W : World} {g : Nat} {k : Int} {s : ByteArray} {n a : Int} {l : List Tr} {A : Option Addr} {c : Nat} (h : Bx w W g k s n a l A c) (hs : sizeT (.node k s n a l) ≤ 100000) : Calls Tryd.prog 21 #[.agg #[.int .i64 k, .string s, .int .i64 n, .int .i64 a, .slice A l.length c]] W fun e w' =>
    ∃ A' c', e = .returned (.agg #[.int .i64 k, .string s, .int .i64 n, .int .i64 0, .slice A' l.length c']) ∧ TIn w' (fun g => W.heap.size ≤ g ∧ g < w'.heap.size) (.node k s n 0 (bareL l)) A' ∧ Below W.heap.size W w' :=
  (bare_any _ (.node k s n a l) A c W (Nat.le_refl _) hs h.tin).mono fun e w' ⟨A', c', he, hT, hb⟩ => ⟨A', c', by rw [he, tv_bare]; rfl, by
    rw [bareT] at hT
    exact TIn.wide _ hT fun g h1 h2 => ⟨h1, h2⟩, hb⟩
theorem tvb (k : Int) (s : ByteArray) (n : Int) (l : List Tr) (A : Option Addr) (c : Nat) : tv (.node k s n 0 (bareL l)) A c = .agg #[.int .i64 k, .string s, .int .i64 n, .int .i64 0, .slice A l.length c] := by
  show Value.agg #[.int .i64 k, .string s, .int .i64 n, .int .i64 0, .slice A (bareL l).length c] = _
  rw [bareL_length]
/-- Two boxes with the bare trees. -/
structure Twin (W V : World) (g5 g6 : Nat) (k : Int) (s : ByteArray) (n : Int) (l : List Tr) (A : Option Addr) (c : Nat) (k' : Int) (s' : ByteArray) (n' : Int) (l' : List Tr) (A' : Option Addr) (c' : Nat) : Prop where
  b5 : Lies V g5 33 #[.int .i64 k, .string s, .int .i64 n, .int .i64 0, .slice A l.length c]
  b6 : Lies V g6 33 #[.int .i64 k', .string s', .int .i64 n', .int .i64 0, .slice A' l'.length c']
  t5 : TIn V Any (.node k s n 0 (bareL l)) A
  t6 : TIn V Any (.node k' s' n' 0 (bareL l')) A'
  bw : Below W.heap.size W V
set_option maxHeartbeats 16000000 in
theorem tsame_any (t : Tr) (A : Option Addr) (c : Nat) (t' : Tr) (A' : Option Addr) (c' : Nat) (w : World) (hI : TIn w Any t A) (hI' : TIn w Any t' A') (hg : Signs w) :
    Calls Tryd.prog 4 #[tv t A c, tv t' A' c'] w fun e w' => e = .returned (.bool true) ∧ Below w.heap.size w w' := by
  obtain ⟨k, s, n, a, l⟩ := t
  obtain ⟨k', s', n', a', l'⟩ := t'
  show Calls Tryd.prog 4 #[.agg #[.int .i64 k, .string s, .int .i64 n, .int .i64 a, .slice A l.length c], .agg #[.int .i64 k', .string s', .int .i64 n', .int .i64 a', .slice A' l'.length c']] w _
  have hA0 := Bx.new (c := c) hI hg
  have hB0 := Bx.new (c := c') (TIn.below _ hI' hA0.bw (Nat.le_refl _)) hA0.sg
  have hA0 := hA0.step hB0.bw
  have HW0 : w.heap.size < w.heap.size + 1 := by omega
  rw [show (w.alloc (.cells #[.int .i64 k, .string s, .int .i64 n, .int .i64 a, .slice A l.length c] 33)).heap.size = w.heap.size + 1 from by simp] at hB0
  obtain ⟨ga, hga⟩ : ∃ g, g = w.heap.size := ⟨_, rfl⟩
  have HSA := Lib.hid (fun W (h : Bx w W w.heap.size k s n a l A c) => h.small 500 (by omega) (by omega))
  have HSB := Lib.hid (fun w1 W g (h : Bx w1 W g k' s' n' a' l' A' c') => h.small 500 (by omega) (by omega))
  have HA0 := Lib.hid hA0
  have HB0 := Lib.hid hB0
  clear hI hI' hA0 hB0
  cases hsa : decide (0 ≤ fewT (.node k s n a l) 500 200) with
  | false =>
    rw [hsa] at HSA
    clear hsa
    go_enter Tryd.func4, Tryd.ntmps4
    go_wp2_with fail
    refine (fixT_any _ HA0.out.sg).mono ?_
    rintro e w1 ⟨rfl, hb1⟩
    have hA1 := HA0.out.step hb1
    obtain ⟨c0, c1, c2, c3, c4⟩ := hA1.five
    go_wp2_with fail
    refine (HSA.out _ hA1).mono ?_
    rintro e w2 ⟨rfl, hb2⟩
    have hA2 := hA1.step hb2
    go_wp2_with fail
    refine (fixT_any _ hA2.sg).mono ?_
    rintro e w3 ⟨rfl, hb3⟩
    go_wp2_with fail
    go_ret
    exact ⟨rfl, (hA2.step hb3).bw⟩
  | true =>
    have hza := (small_size hsa (by omega)).1
    rw [hsa] at HSA
    clear hsa
    cases hsb : decide (0 ≤ fewT (.node k' s' n' a' l') 500 200) with
    | false =>
      rw [hsb] at HSB
      clear hsb
      go_enter Tryd.func4, Tryd.ntmps4
      go_wp2_with fail
      refine (fixT_any _ HA0.out.sg).mono ?_
      rintro e w1 ⟨rfl, hb1⟩
      have hA1 := HA0.out.step hb1
      have hB1 := HB0.out.step hb1
      obtain ⟨c0, c1, c2, c3, c4⟩ := hA1.five
      go_wp2_with fail
      refine (HSA.out _ hA1).mono ?_
      rintro e w2 ⟨rfl, hb2⟩
      have hA2 := hA1.step hb2
      have hB2 := hB1.step hb2
      clear c0 c1 c2 c3 c4
      obtain ⟨c0, c1, c2, c3, c4⟩ := hB2.five
      go_wp2_with fail
      refine (HSB.out _ _ _ hB2).mono ?_
      rintro e w3 ⟨rfl, hb3⟩
      have hA3 := hA2.step hb3
      go_wp2_with fail
      refine (fixT_any _ hA3.sg).mono ?_
      rintro e w4 ⟨rfl, hb4⟩
      go_wp2_with fail
      go_ret
      exact ⟨rfl, (hA3.step hb4).bw⟩
    | true =>
      have hzb := (small_size hsb (by omega)).1
      rw [hsb] at HSB
      clear hsb
      have MA := Lib.hid (fun W (h : Bx w W w.heap.size k s n a l A c) => h.bareX (by omega))
      have MB := Lib.hid (fun w1 W g (h : Bx w1 W g k' s' n' a' l' A' c') => h.bareX (by omega))
      go_enter Tryd.func4, Tryd.ntmps4
      go_wp2_with fail
      refine (fixT_any _ HA0.out.sg).mono ?_
      rintro e w1 ⟨rfl, hb1⟩
      have hA1 := HA0.out.step hb1
      have hB1 := HB0.out.step hb1
      obtain ⟨c0, c1, c2, c3, c4⟩ := hA1.five
      go_wp2_with fail
      refine (HSA.out _ hA1).mono ?_
      rintro e w2 ⟨rfl, hb2⟩
      have hA2 := hA1.step hb2
      have hB2 := hB1.step hb2
      clear c0 c1 c2 c3 c4
      obtain ⟨c0, c1, c2, c3, c4⟩ := hB2.five
      go_wp2_with fail
      refine (HSB.out _ _ _ hB2).mono ?_
      rintro e w3 ⟨rfl, hb3⟩
      have hA3 := hA2.step hb3
      have hB3 := hB2.step hb3
      clear c0 c1 c2 c3 c4 hA1 hB1 hA2 hB2 hb1 hb2 hb3 HA0 HB0 HSA HSB
      go_upto_region 3 with fail
      obtain ⟨gb, hgb⟩ : ∃ g, g = w.heap.size + 1 := ⟨_, rfl⟩
      go_cut [5, 6] (fun u v wx => ∃ g5 g6 A1 c1 A2 c2, u = .pointer (some ⟨g5, 0, none⟩) ∧ v = .pointer (some ⟨g6, 0, none⟩) ∧ Twin w3 wx g5 g6 k s n l A1 c1 k' s' n' l' A2 c2)
      case first =>
        have hS : ∀ V, Below w3.heap.size w3 V → V.cell? ⟨w.heap.size, 0, none⟩ = some (.int .i64 k) ∧ V.cell? ⟨w.heap.size, 1, none⟩ = some (.string s) ∧ V.cell? ⟨w.heap.size, 2, none⟩ = some (.int .i64 n) ∧ V.cell? ⟨w.heap.size, 3, none⟩ = some (.int .i64 a) ∧ V.cell? ⟨w.heap.size, 4, none⟩ = some (.slice A l.length c) ∧ V.cell? ⟨w.heap.size + 1, 0, none⟩ = some (.int .i64 k') ∧ V.cell? ⟨w.heap.size + 1, 1, none⟩ = some (.string s') ∧ V.cell? ⟨w.heap.size + 1, 2, none⟩ = some (.int .i64 n') ∧ V.cell? ⟨w.heap.size + 1, 3, none⟩ = some (.int .i64 a') ∧ V.cell? ⟨w.heap.size + 1, 4, none⟩ = some (.slice A' l'.length c') := fun V hb =>
          have h1 := (hA3.step hb).five
          have h2 := (hB3.step hb).five
          ⟨h1.1, h1.2.1, h1.2.2.1, h1.2.2.2.1, h1.2.2.2.2, h2.1, h2.2.1, h2.2.2.1, h2.2.2.2.1, h2.2.2.2.2⟩
        have HS := Lib.hid hS
        have MA3 := Lib.hid (fun W (hb : Below w3.heap.size w3 W) => MA.out W (hA3.step hb))
        have MB3 := Lib.hid (fun W (hb : Below w3.heap.size w3 W) => MB.out _ W _ (hB3.step hb))
        clear MA MB hA3 hB3 hA0
        refine wp_region_held_drew (S := fun V => (V.cell? ⟨w.heap.size, 0, none⟩ = some (.int .i64 k) ∧ V.cell? ⟨w.heap.size, 1, none⟩ = some (.string s) ∧ V.cell? ⟨w.heap.size, 2, none⟩ = some (.int .i64 n) ∧ V.cell? ⟨w.heap.size, 3, none⟩ = some (.int .i64 a) ∧ V.cell? ⟨w.heap.size, 4, none⟩ = some (.slice A l.length c) ∧ V.cell? ⟨w.heap.size + 1, 0, none⟩ = some (.int .i64 k') ∧ V.cell? ⟨w.heap.size + 1, 1, none⟩ = some (.string s') ∧ V.cell? ⟨w.heap.size + 1, 2, none⟩ = some (.int .i64 n') ∧ V.cell? ⟨w.heap.size + 1, 3, none⟩ = some (.int .i64 a') ∧ V.cell? ⟨w.heap.size + 1, 4, none⟩ = some (.slice A' l'.length c'))) rfl (hS _ (Below.refl _ w3).drew) (fun hHeld => ?_)
        clear hS
        refine wpAnyH_take (i := 0) (v := (.agg #[.int .i64 k, .string s, .int .i64 n, .int .i64 a, .slice A l.length c])) rfl (by kernel_rfl) (by kernel_rfl) (by kernel_rfl) (fun _ _ _ h => h) (Or.inl ⟨by rfl, ?_⟩) hHeld ?_
        · intro V hSw
          obtain ⟨p0, p1, p2, p3, p4, q0, q1, q2, q3, q4⟩ := hSw
          go_simp
        refine wpAnyH_take (i := 2) (v := (.agg #[.int .i64 k', .string s', .int .i64 n', .int .i64 a', .slice A' l'.length c'])) rfl (by kernel_rfl) (by kernel_rfl) (by kernel_rfl) (fun _ _ _ h => h) (Or.inl ⟨by rfl, ?_⟩) hHeld ?_
        · intro V hSw
          obtain ⟨p0, p1, p2, p3, p4, q0, q1, q2, q3, q4⟩ := hSw
          go_simp
        simp only [Act.put, List.setIfInBounds_toArray, List.set_cons_zero, List.set_cons_succ]
        clear hHeld
        refine six_two (fun A c => .agg #[.int .i64 k, .string s, .int .i64 n, .int .i64 0, .slice A l.length c]) (fun A c => .agg #[.int .i64 k', .string s', .int .i64 n', .int .i64 0, .slice A l'.length c]) (.node k s n 0 (bareL l)) (.node k' s' n' 0 (bareL l')) ?_ ?_ HS.out ?_ ?_ ?_ ?_ ?_
        · kernel_rfl
        · intro pa pb x y hp hn
          cases pa <;> cases pb <;> cases x <;> cases y <;> first | (exfalso; simp [n6] at hp hn; done) | kernel_rfl
        · intro x y b V hs
          have hs' := Lib.hid hs
          obtain ⟨hbw, u22, u24, u5, u6, rfl, h1, h2, h3, h4, h5⟩ := hs
          simp only [a6, Act.put, List.setIfInBounds_toArray, List.set_cons_zero, List.set_cons_succ]
          refine wpOp_step rfl (fun K hK => ?_)
          go_simp
          refine (MA3.out _ hbw).mono ?_
          rintro e V' ⟨A1, c1, rfl, hT, hb⟩
          have hn := hs'.out.hA (c := c1) hb hT
          simp only [a6, Act.put, List.setIfInBounds_toArray, List.set_cons_zero, List.set_cons_succ] at hn
          exact hK _ _ hn
        · intro x y b V hs
          have hs' := Lib.hid hs
          obtain ⟨hbw, u22, u24, u5, u6, rfl, h1, h2, h3, h4, h5⟩ := hs
          simp only [a6, Act.put, List.setIfInBounds_toArray, List.set_cons_zero, List.set_cons_succ]
          refine wpOp_step rfl (fun K hK => ?_)
          go_simp
          refine (MB3.out _ hbw).mono ?_
          rintro e V' ⟨A1, c1, rfl, hT, hb⟩
          have hn := hs'.out.hB (c := c1) hb hT
          simp only [a6, Act.put, List.setIfInBounds_toArray, List.set_cons_zero, List.set_cons_succ] at hn
          exact hK _ _ hn
        · intro pa pb y b V hs
          have hs' := Lib.hid hs
          obtain ⟨hbw, u22, u24, u5, u6, rfl, h1, h2, h3, h4, h5⟩ := hs
          simp only [a6, Act.put, List.setIfInBounds_toArray, List.set_cons_zero, List.set_cons_succ]
          refine wpOp_step rfl (fun K hK => ?_)
          go_simp
          have hn := hs'.out.hX
          simp only [a6, Act.put, List.setIfInBounds_toArray, List.set_cons_zero, List.set_cons_succ] at hn
          exact hK _ _ hn
        · intro pa pb x b V hs
          have hs' := Lib.hid hs
          obtain ⟨hbw, u22, u24, u5, u6, rfl, h1, h2, h3, h4, h5⟩ := hs
          simp only [a6, Act.put, List.setIfInBounds_toArray, List.set_cons_zero, List.set_cons_succ]
          refine wpOp_step rfl (fun K hK => ?_)
          go_simp
          have hn := hs'.out.hY
          simp only [a6, Act.put, List.setIfInBounds_toArray, List.set_cons_zero, List.set_cons_succ] at hn
          exact hK _ _ hn
        · intro b V hs
          obtain ⟨hbw, u22, u24, u5, u6, rfl, h1, h2, h3, h4, h5⟩ := hs
          obtain ⟨A1, c1, rfl, hTa⟩ := h1 rfl
          obtain ⟨A2, c2, rfl, hTb⟩ := h2 rfl
          obtain ⟨g5, rfl, hg5, l5⟩ := h3 rfl
          obtain ⟨g6, rfl, hg6, l6⟩ := h4 rfl
          have hne : ¬ g5 = g6 := fun e => h5 rfl rfl (by rw [e])
          have hne' : g6 ≠ g5 := fun e => hne e.symm
          clear h1 h2 h3 h4 h5
          simp only [a6, Act.put, List.setIfInBounds_toArray, List.set_cons_zero, List.set_cons_succ]
          refine wpAnyH_ready (rs := [6]) (by kernel_rfl) (by simp) (AllReadyH.cons rfl (fun K hK => ?_) AllReadyH.nil)
          have m6 := (((((l6.far (p := ⟨g5, 0, none⟩) hne' (.int .i64 k)).far (p := ⟨g5, 1, none⟩) hne' (.string s)).far (p := ⟨g5, 2, none⟩) hne' (.int .i64 n)).far (p := ⟨g5, 3, none⟩) hne' (.int .i64 0)).far (p := ⟨g5, 4, none⟩) hne' (.slice A1 l.length c1))
          have m5 := l5.all5 (.int .i64 k) (.string s) (.int .i64 n) (.int .i64 0) (.slice A1 l.length c1)
          have hb5 := Below.all5 hbw hg5 (.int .i64 k) (.string s) (.int .i64 n) (.int .i64 0) (.slice A1 l.length c1)
          have nx5 : ¬ PX true true (.pointer (some ⟨g5, 0, none⟩)) (.pointer (some ⟨g6, 0, none⟩)) g5 := fun h => h.1 rfl rfl
          have nx6 : ¬ PX true true (.pointer (some ⟨g5, 0, none⟩)) (.pointer (some ⟨g6, 0, none⟩)) g6 := fun h => h.2 rfl rfl
          have t5 := TIn.setCell _ (TIn.setCell _ (TIn.setCell _ (TIn.setCell _ (TIn.setCell _ hTa ⟨g5, 0, none⟩ (.int .i64 k) nx5) ⟨g5, 1, none⟩ (.string s) nx5) ⟨g5, 2, none⟩ (.int .i64 n) nx5) ⟨g5, 3, none⟩ (.int .i64 0) nx5) ⟨g5, 4, none⟩ (.slice A1 l.length c1) nx5
          have t6 := TIn.setCell _ (TIn.setCell _ (TIn.setCell _ (TIn.setCell _ (TIn.setCell _ hTb ⟨g5, 0, none⟩ (.int .i64 k) nx5) ⟨g5, 1, none⟩ (.string s) nx5) ⟨g5, 2, none⟩ (.int .i64 n) nx5) ⟨g5, 3, none⟩ (.int .i64 0) nx5) ⟨g5, 4, none⟩ (.slice A1 l.length c1) nx5
          obtain ⟨W', hW'⟩ : ∃ W', W' = (((((V.setCell ⟨g5, 0, none⟩ (.int .i64 k)).setCell ⟨g5, 1, none⟩ (.string s)).setCell ⟨g5, 2, none⟩ (.int .i64 n)).setCell ⟨g5, 3, none⟩ (.int .i64 0)).setCell ⟨g5, 4, none⟩ (.slice A1 l.length c1)) := ⟨_, rfl⟩
          rw [← hW'] at m5 m6 hb5 t5 t6
          have M := Lib.hid (And.intro hW' (And.intro m5 (And.intro m6 (And.intro hb5 (And.intro t5 (And.intro t6 (And.intro nx6 (And.intro hg6 hne))))))))
          clear m5 m6 hb5 t5 t6 hW'
          have e0 := l5.cell 0
          have e1 := l5.cell 1
          have e2 := l5.cell 2
          have e3 := l5.cell 3
          have e4 := l5.cell 4
          have f0 := l5.frozen 0
          have f1 := l5.frozen 1
          have f2 := l5.frozen 2
          have f3 := l5.frozen 3
          have f4 := l5.frozen 4
          simp at e0 e1 e2 e3 e4
          clear l5 l6 hTa hTb hbw hg5 hg6 hne hne' hga HW0 hza hzb hg nx5 nx6
          go_simp
          obtain ⟨hW', m5, m6, hb5, t5, t6, nx6, hg6, hne⟩ := M.out
          refine hK.out _ _ (by rw [← hW']; exact HS.out _ hb5) (fun _ => ?_)
          rw [← hW']
          clear e0 e1 e2 e3 e4 f0 f1 f2 f3 f4 hK hW' M K
          refine wpAnyH_ready (rs := [7]) (by kernel_rfl) (by simp) (AllReadyH.cons rfl (fun K hK => ?_) AllReadyH.nil)
          have e0 := m6.cell 0
          have e1 := m6.cell 1
          have e2 := m6.cell 2
          have e3 := m6.cell 3
          have e4 := m6.cell 4
          have f0 := m6.frozen 0
          have f1 := m6.frozen 1
          have f2 := m6.frozen 2
          have f3 := m6.frozen 3
          have f4 := m6.frozen 4
          simp at e0 e1 e2 e3 e4
          have o6 := m6.all5 (.int .i64 k') (.string s') (.int .i64 n') (.int .i64 0) (.slice A2 l'.length c2)
          have o5 := (((((m5.far (p := ⟨g6, 0, none⟩) hne (.int .i64 k')).far (p := ⟨g6, 1, none⟩) hne (.string s')).far (p := ⟨g6, 2, none⟩) hne (.int .i64 n')).far (p := ⟨g6, 3, none⟩) hne (.int .i64 0)).far (p := ⟨g6, 4, none⟩) hne (.slice A2 l'.length c2))
          have t5' := TIn.setCell _ (TIn.setCell _ (TIn.setCell _ (TIn.setCell _ (TIn.setCell _ t5 ⟨g6, 0, none⟩ (.int .i64 k') nx6) ⟨g6, 1, none⟩ (.string s') nx6) ⟨g6, 2, none⟩ (.int .i64 n') nx6) ⟨g6, 3, none⟩ (.int .i64 0) nx6) ⟨g6, 4, none⟩ (.slice A2 l'.length c2) nx6
          have t6' := TIn.setCell _ (TIn.setCell _ (TIn.setCell _ (TIn.setCell _ (TIn.setCell _ t6 ⟨g6, 0, none⟩ (.int .i64 k') nx6) ⟨g6, 1, none⟩ (.string s') nx6) ⟨g6, 2, none⟩ (.int .i64 n') nx6) ⟨g6, 3, none⟩ (.int .i64 0) nx6) ⟨g6, 4, none⟩ (.slice A2 l'.length c2) nx6
          have hb6 := Below.all5 hb5 hg6 (.int .i64 k') (.string s') (.int .i64 n') (.int .i64 0) (.slice A2 l'.length c2)
          obtain ⟨W6, hW6⟩ : ∃ W6, W6 = (((((W'.setCell ⟨g6, 0, none⟩ (.int .i64 k')).setCell ⟨g6, 1, none⟩ (.string s')).setCell ⟨g6, 2, none⟩ (.int .i64 n')).setCell ⟨g6, 3, none⟩ (.int .i64 0)).setCell ⟨g6, 4, none⟩ (.slice A2 l'.length c2)) := ⟨_, rfl⟩
          rw [← hW6] at o5 o6 hb6 t5' t6'
          have M := Lib.hid (And.intro hW6 (And.intro o5 (And.intro o6 (And.intro t5' (And.intro t6' hb6)))))
          clear o5 o6 t5' t6' hb6 hW6 m5 m6 hb5 t5 t6 nx6 hg6 hne
          go_simp
          obtain ⟨hW6, o5, o6, t5, t6, hb6⟩ := M.out
          refine hK.out _ _ (by rw [← hW6]; exact HS.out _ hb6) (fun _ => ?_)
          rw [← hW6]
          clear e0 e1 e2 e3 e4 f0 f1 f2 f3 f4 hK hW6 M K
          refine wpAnyH_done (by kernel_rfl) ?_ _
          go_wp2_with fail
          go_meet
          exact ⟨g5, g6, A1, c1, A2, c2, rfl, rfl, o5, o6, TIn.any _ t5, TIn.any _ t6, hb6⟩
      case rest =>
        obtain ⟨g5, g6, A1, c1, A2, c2, rfl, rfl, hT⟩ := hcut
        have hA := hA3.step hT.bw
        have hB := hB3.step hT.bw
        clear hA3 hB3 MA MB
        have tX := fun W (hb : Below wc.heap.size wc W) => TIn.below _ hT.t5 hb (Nat.le_refl _)
        have tY := fun W (hb : Below wc.heap.size wc W) => TIn.below _ hT.t6 hb (Nat.le_refl _)
        have tA := fun W (hb : Below wc.heap.size wc W) => TIn.below _ hA.tin hb (Nat.le_refl _)
        have tB := fun W (hb : Below wc.heap.size wc W) => TIn.below _ hB.tin hb (Nat.le_refl _)
        have eX : bareT (.node k s n a l) = .node k s n 0 (bareL l) := by rw [bareT]
        have eY : bareT (.node k' s' n' a' l') = .node k' s' n' 0 (bareL l') := by rw [bareT]
        obtain ⟨is, his⟩ : ∃ is, sameT (.node k s n a l) (.node k' s' n' a' l') = is := ⟨_, rfl⟩
        have MS := Lib.hid (show ∀ W, Below wc.heap.size wc W → Calls Tryd.prog 22 #[.agg #[.int .i64 k, .string s, .int .i64 n, .int .i64 a, .slice A l.length c], .agg #[.int .i64 k', .string s', .int .i64 n', .int .i64 a', .slice A' l'.length c']] W fun e w' => e = .returned (.bool is) ∧ Below W.heap.size W w' from fun W hb => by
          have h := same_tree _ (.node k s n a l) (.node k' s' n' a' l') A A' c c' W (Nat.le_refl _) (tA W hb) (tB W hb)
          rw [his] at h
          exact h)
        have MS2 := Lib.hid (show ∀ W, Below wc.heap.size wc W → Calls Tryd.prog 22 #[.agg #[.int .i64 k', .string s', .int .i64 n', .int .i64 a', .slice A' l'.length c'], .agg #[.int .i64 k, .string s, .int .i64 n, .int .i64 a, .slice A l.length c]] W fun e w' => e = .returned (.bool is) ∧ Below W.heap.size W w' from fun W hb => by
          have h := same_tree _ (.node k' s' n' a' l') (.node k s n a l) A' A c' c W (Nat.le_refl _) (tB W hb) (tA W hb)
          rw [same_comm, his] at h
          exact h)
        have MO := Lib.hid (show ∀ W, Below wc.heap.size wc W → Calls Tryd.prog 23 #[.agg #[.int .i64 k, .string s, .int .i64 n, .int .i64 0, .slice A1 l.length c1], .agg #[.int .i64 k', .string s', .int .i64 n', .int .i64 0, .slice A2 l'.length c2]] W fun e w' => e = .returned (.bool is) ∧ Below W.heap.size W w' from fun W hb => by
          have h := one_tree _ (.node k s n 0 (bareL l)) (.node k' s' n' 0 (bareL l')) A1 A2 c1 c2 W (Nat.le_refl _) (tX W hb) (tY W hb)
          rw [tvb, tvb, ← eX, ← eY, one_bareT, his] at h
          exact h)
        have MAX := Lib.hid (show ∀ W, Below wc.heap.size wc W → Calls Tryd.prog 22 #[.agg #[.int .i64 k, .string s, .int .i64 n, .int .i64 a, .slice A l.length c], .agg #[.int .i64 k, .string s, .int .i64 n, .int .i64 0, .slice A1 l.length c1]] W fun e w' => e = .returned (.bool true) ∧ Below W.heap.size W w' from fun W hb => by
          have h := same_tree _ (.node k s n a l) (.node k s n 0 (bareL l)) A A1 c c1 W (Nat.le_refl _) (tA W hb) (tX W hb)
          rw [tvb, ← eX, same_bare] at h
          exact h)
        have MBX := Lib.hid (show ∀ W, Below wc.heap.size wc W → Calls Tryd.prog 21 #[.agg #[.int .i64 k, .string s, .int .i64 n, .int .i64 0, .slice A1 l.length c1]] W fun e w' => ∃ A3 c3, e = .returned (.agg #[.int .i64 k, .string s, .int .i64 n, .int .i64 0, .slice A3 l.length c3]) ∧ TIn w' Any (.node k s n 0 (bareL l)) A3 ∧ Below W.heap.size W w' from fun W hb => by
          have hsz : sizeT (.node k s n 0 (bareL l)) ≤ 100000 := by rw [← eX, size_bare]; omega
          have h := bare_any _ (.node k s n 0 (bareL l)) A1 c1 W (Nat.le_refl _) hsz (tX W hb)
          rw [tvb] at h
          refine h.mono ?_
          rintro e w' ⟨A3, c3, he, h3, hb3⟩
          have e3 : bareT (.node k s n 0 (bareL l)) = .node k s n 0 (bareL l) := by rw [← eX, bare_bare]
          rw [e3] at he h3
          exact ⟨A3, c3, by rw [he, tvb], TIn.any _ h3, hb3⟩)
        have MOX := Lib.hid (show ∀ W A3 c3, Below wc.heap.size wc W → TIn W Any (.node k s n 0 (bareL l)) A3 → Calls Tryd.prog 23 #[.agg #[.int .i64 k, .string s, .int .i64 n, .int .i64 0, .slice A3 l.length c3], .agg #[.int .i64 k, .string s, .int .i64 n, .int .i64 0, .slice A1 l.length c1]] W fun e w' => e = .returned (.bool true) ∧ Below W.heap.size W w' from fun W A3 c3 hb h3 => by
          have h := one_tree _ (.node k s n 0 (bareL l)) (.node k s n 0 (bareL l)) A3 A1 c3 c1 W (Nat.le_refl _) h3 (tX W hb)
          rw [tvb, tvb, one_refl] at h
          exact h)
        have hS : ∀ V, Below wc.heap.size wc V → V.cell? ⟨w.heap.size, 0, none⟩ = some (.int .i64 k) ∧ V.cell? ⟨w.heap.size, 1, none⟩ = some (.string s) ∧ V.cell? ⟨w.heap.size, 2, none⟩ = some (.int .i64 n) ∧ V.cell? ⟨w.heap.size, 3, none⟩ = some (.int .i64 a) ∧ V.cell? ⟨w.heap.size, 4, none⟩ = some (.slice A l.length c) ∧ V.cell? ⟨w.heap.size + 1, 0, none⟩ = some (.int .i64 k') ∧ V.cell? ⟨w.heap.size + 1, 1, none⟩ = some (.string s') ∧ V.cell? ⟨w.heap.size + 1, 2, none⟩ = some (.int .i64 n') ∧ V.cell? ⟨w.heap.size + 1, 3, none⟩ = some (.int .i64 a') ∧ V.cell? ⟨w.heap.size + 1, 4, none⟩ = some (.slice A' l'.length c') ∧ V.cell? ⟨g5, 0, none⟩ = some (.int .i64 k) ∧ V.cell? ⟨g5, 1, none⟩ = some (.string s) ∧ V.cell? ⟨g5, 2, none⟩ = some (.int .i64 n) ∧ V.cell? ⟨g5, 3, none⟩ = some (.int .i64 0) ∧ V.cell? ⟨g5, 4, none⟩ = some (.slice A1 l.length c1) ∧ V.cell? ⟨g6, 0, none⟩ = some (.int .i64 k') ∧ V.cell? ⟨g6, 1, none⟩ = some (.string s') ∧ V.cell? ⟨g6, 2, none⟩ = some (.int .i64 n') ∧ V.cell? ⟨g6, 3, none⟩ = some (.int .i64 0) ∧ V.cell? ⟨g6, 4, none⟩ = some (.slice A2 l'.length c2) := fun V hb =>
          have h1 := (hA.step hb).five
          have h2 := (hB.step hb).five
          have h3 := (hT.b5.below hb hT.b5.lt).five.1
          have h4 := (hT.b6.below hb hT.b6.lt).five.1
          ⟨h1.1, h1.2.1, h1.2.2.1, h1.2.2.2.1, h1.2.2.2.2, h2.1, h2.2.1, h2.2.2.1, h2.2.2.2.1, h2.2.2.2.2, h3.1, h3.2.1, h3.2.2.1, h3.2.2.2.1, h3.2.2.2.2, h4.1, h4.2.1, h4.2.2.1, h4.2.2.2.1, h4.2.2.2.2⟩
        have HS := Lib.hid hS
        have hBw : Below w.heap.size w wc := hA.bw
        obtain ⟨p0, p1, p2, p3, p4, q0, q1, q2, q3, q4, _⟩ := hS wc (Below.refl _ wc)
        clear hS
        have his2 : Hid (is = true → depthT (.node k s n a l) = depthT (.node k' s' n' a' l') ∧ sizeT (.node k s n a l) = sizeT (.node k' s' n' a' l') ∧ Tr.node k s n 0 (bareL l) = .node k' s' n' 0 (bareL l')) := fun h => by
          rw [h] at his
          exact ⟨same_depth his, same_size his, by rw [← eX, ← eY]; exact (same_iff _ _).1 his⟩
        go_wp2_with fail
        refine (MS.out _ (Below.refl _ wc)).mono ?_
        rintro e wd ⟨rfl, hbd⟩
        clear p0 p1 p2 p3 p4 q0 q1 q2 q3 q4
        have hd3 : Below wc.heap.size wc wd.drew := hbd.drew
        go_wp2_with fail
        cases is with
        | false =>
          go_region_held3 (fun V => V.cell? ⟨w.heap.size, 0, none⟩ = some (.int .i64 k) ∧ V.cell? ⟨w.heap.size, 1, none⟩ = some (.string s) ∧ V.cell? ⟨w.heap.size, 2, none⟩ = some (.int .i64 n) ∧ V.cell? ⟨w.heap.size, 3, none⟩ = some (.int .i64 a) ∧ V.cell? ⟨w.heap.size, 4, none⟩ = some (.slice A l.length c) ∧ V.cell? ⟨w.heap.size + 1, 0, none⟩ = some (.int .i64 k') ∧ V.cell? ⟨w.heap.size + 1, 1, none⟩ = some (.string s') ∧ V.cell? ⟨w.heap.size + 1, 2, none⟩ = some (.int .i64 n') ∧ V.cell? ⟨w.heap.size + 1, 3, none⟩ = some (.int .i64 a') ∧ V.cell? ⟨w.heap.size + 1, 4, none⟩ = some (.slice A' l'.length c') ∧ V.cell? ⟨g5, 0, none⟩ = some (.int .i64 k) ∧ V.cell? ⟨g5, 1, none⟩ = some (.string s) ∧ V.cell? ⟨g5, 2, none⟩ = some (.int .i64 n) ∧ V.cell? ⟨g5, 3, none⟩ = some (.int .i64 0) ∧ V.cell? ⟨g5, 4, none⟩ = some (.slice A1 l.length c1) ∧ V.cell? ⟨g6, 0, none⟩ = some (.int .i64 k') ∧ V.cell? ⟨g6, 1, none⟩ = some (.string s') ∧ V.cell? ⟨g6, 2, none⟩ = some (.int .i64 n') ∧ V.cell? ⟨g6, 3, none⟩ = some (.int .i64 0) ∧ V.cell? ⟨g6, 4, none⟩ = some (.slice A2 l'.length c2))
            (first | exact HS.out _ hd3 | exact HS.out _ hd4 | exact HS.out _ hd5 | exact HS.out _ hd6 | exact HS.out _ hd7 | exact HS.out _ hd8)
            ((first
              | (go_at_call 23; (with_reducible refine (MO.out _ ?_).mono ?_); exact hd3; rintro e w4 ⟨rfl, hb4⟩; have hd4 := hd3.trans (hb4.mono hd3.size))
              | (go_at_call 22; (with_reducible refine (MS2.out _ ?_).mono ?_); exact hd4; rintro e w5 ⟨rfl, hb5⟩; have hd5 := hd4.trans (hb5.mono hd4.size))
              | (go_at_call 22; (with_reducible refine (MAX.out _ ?_).mono ?_); exact hd5; rintro e w6 ⟨rfl, hb6⟩; have hd6 := hd5.trans (hb6.mono hd5.size))
              | (go_at_call 21; (with_reducible refine (MBX.out _ ?_).mono ?_); exact hd6; rintro e w7 ⟨A3, c3, rfl, h3, hb7⟩; have hd7 := hd6.trans (hb7.mono hd6.size))
              | (go_at_call 23; (with_reducible refine (MOX.out _ _ _ ?_ ?_).mono ?_); exact hd7; exact h3; rintro e w8 ⟨rfl, hb8⟩; have hd8 := hd7.trans (hb8.mono hd7.size))))
          go_wp2_with fail
          go_quiet (fail)
          go_wp2_with fail
          go_ret
          first | exact ⟨rfl, hBw.trans ((below_drewN hd8 _).mono hBw.size)⟩ | exact ⟨rfl, hBw.trans (hd8.drew.mono hBw.size)⟩ | exact ⟨rfl, hBw.trans (hd8.mono hBw.size)⟩
        | true =>
          obtain ⟨hdd, hzz, hxy⟩ := his2.out rfl
          obtain ⟨dd, hdd'⟩ : ∃ dd, dd = depthT (.node k s n a l) := ⟨_, rfl⟩
          obtain ⟨zz, hzz'⟩ : ∃ zz, zz = sizeT (.node k s n a l) := ⟨_, rfl⟩
          obtain ⟨m, hm⟩ : ∃ m, m = mayV (.node k s n 0 (bareL l)) := ⟨_, rfl⟩
          have MD := Lib.hid (show ∀ W, Below wc.heap.size wc W → Calls Tryd.prog 24 #[.agg #[.int .i64 k, .string s, .int .i64 n, .int .i64 a, .slice A l.length c]] W fun e w' => e = .returned (.int .i64 dd) ∧ Below W.heap.size W w' from fun W hb => by
            have h := (hA.step hb).depth (by omega)
            rw [← hdd'] at h
            exact h)
          have MD2 := Lib.hid (show ∀ W, Below wc.heap.size wc W → Calls Tryd.prog 24 #[.agg #[.int .i64 k', .string s', .int .i64 n', .int .i64 a', .slice A' l'.length c']] W fun e w' => e = .returned (.int .i64 dd) ∧ Below W.heap.size W w' from fun W hb => by
            have h := (hB.step hb).depth (by omega)
            rw [← hdd, ← hdd'] at h
            exact h)
          have MZ := Lib.hid (show ∀ W, Below wc.heap.size wc W → Calls Tryd.prog 25 #[.agg #[.int .i64 k, .string s, .int .i64 n, .int .i64 a, .slice A l.length c]] W fun e w' => e = .returned (.int .i64 zz) ∧ Below W.heap.size W w' from fun W hb => by
            have h := (hA.step hb).size (by omega)
            rw [← hzz'] at h
            exact h)
          have MZ2 := Lib.hid (show ∀ W, Below wc.heap.size wc W → Calls Tryd.prog 25 #[.agg #[.int .i64 k', .string s', .int .i64 n', .int .i64 a', .slice A' l'.length c']] W fun e w' => e = .returned (.int .i64 zz) ∧ Below W.heap.size W w' from fun W hb => by
            have h := (hB.step hb).size (by omega)
            rw [← hzz, ← hzz'] at h
            exact h)
          have MM := Lib.hid (show ∀ W, Below wc.heap.size wc W → Calls Tryd.prog 26 #[.agg #[.int .i64 k, .string s, .int .i64 n, .int .i64 0, .slice A1 l.length c1]] W fun e w' => e = .returned (.bool m) ∧ Below W.heap.size W w' from fun W hb => by
            have h := tmay_any (.node k s n 0 (bareL l)) A1 c1 W (tX W hb) (hA.step hb).sg
            rw [tvb, ← hm] at h
            exact h)
          have MM2 := Lib.hid (show ∀ W, Below wc.heap.size wc W → Calls Tryd.prog 26 #[.agg #[.int .i64 k', .string s', .int .i64 n', .int .i64 0, .slice A2 l'.length c2]] W fun e w' => e = .returned (.bool m) ∧ Below W.heap.size W w' from fun W hb => by
            have h := tmay_any (.node k' s' n' 0 (bareL l')) A2 c2 W (tY W hb) (hA.step hb).sg
            rw [tvb, ← hxy, ← hm] at h
            exact h)
          clear hdd hzz hxy hdd' hzz' hm his his2 tX tY tA tB hA hB hT
          go_region_held3 (fun V => V.cell? ⟨w.heap.size, 0, none⟩ = some (.int .i64 k) ∧ V.cell? ⟨w.heap.size, 1, none⟩ = some (.string s) ∧ V.cell? ⟨w.heap.size, 2, none⟩ = some (.int .i64 n) ∧ V.cell? ⟨w.heap.size, 3, none⟩ = some (.int .i64 a) ∧ V.cell? ⟨w.heap.size, 4, none⟩ = some (.slice A l.length c) ∧ V.cell? ⟨w.heap.size + 1, 0, none⟩ = some (.int .i64 k') ∧ V.cell? ⟨w.heap.size + 1, 1, none⟩ = some (.string s') ∧ V.cell? ⟨w.heap.size + 1, 2, none⟩ = some (.int .i64 n') ∧ V.cell? ⟨w.heap.size + 1, 3, none⟩ = some (.int .i64 a') ∧ V.cell? ⟨w.heap.size + 1, 4, none⟩ = some (.slice A' l'.length c') ∧ V.cell? ⟨g5, 0, none⟩ = some (.int .i64 k) ∧ V.cell? ⟨g5, 1, none⟩ = some (.string s) ∧ V.cell? ⟨g5, 2, none⟩ = some (.int .i64 n) ∧ V.cell? ⟨g5, 3, none⟩ = some (.int .i64 0) ∧ V.cell? ⟨g5, 4, none⟩ = some (.slice A1 l.length c1) ∧ V.cell? ⟨g6, 0, none⟩ = some (.int .i64 k') ∧ V.cell? ⟨g6, 1, none⟩ = some (.string s') ∧ V.cell? ⟨g6, 2, none⟩ = some (.int .i64 n') ∧ V.cell? ⟨g6, 3, none⟩ = some (.int .i64 0) ∧ V.cell? ⟨g6, 4, none⟩ = some (.slice A2 l'.length c2))
            (first | exact HS.out _ hd3 | exact HS.out _ hd4 | exact HS.out _ hd5 | exact HS.out _ hd6 | exact HS.out _ hd7 | exact HS.out _ hd8)
            ((first
              | (go_at_call 23; (with_reducible refine (MO.out _ ?_).mono ?_); exact hd3; rintro e w4 ⟨rfl, hb4⟩; have hd4 := hd3.trans (hb4.mono hd3.size))
              | (go_at_call 22; (with_reducible refine (MS2.out _ ?_).mono ?_); exact hd4; rintro e w5 ⟨rfl, hb5⟩; have hd5 := hd4.trans (hb5.mono hd4.size))
              | (go_at_call 22; (with_reducible refine (MAX.out _ ?_).mono ?_); exact hd5; rintro e w6 ⟨rfl, hb6⟩; have hd6 := hd5.trans (hb6.mono hd5.size))
              | (go_at_call 21; (with_reducible refine (MBX.out _ ?_).mono ?_); exact hd6; rintro e w7 ⟨A3, c3, rfl, h3, hb7⟩; have hd7 := hd6.trans (hb7.mono hd6.size))
              | (go_at_call 23; (with_reducible refine (MOX.out _ _ _ ?_ ?_).mono ?_); exact hd7; exact h3; rintro e w8 ⟨rfl, hb8⟩; have hd8 := hd7.trans (hb8.mono hd7.size))))
          go_wp2_with fail
          have hd9 : Below wc.heap.size wc w8.drew := hd8.drew
          go_region_held3 (fun V => V.cell? ⟨w.heap.size, 0, none⟩ = some (.int .i64 k) ∧ V.cell? ⟨w.heap.size, 1, none⟩ = some (.string s) ∧ V.cell? ⟨w.heap.size, 2, none⟩ = some (.int .i64 n) ∧ V.cell? ⟨w.heap.size, 3, none⟩ = some (.int .i64 a) ∧ V.cell? ⟨w.heap.size, 4, none⟩ = some (.slice A l.length c) ∧ V.cell? ⟨w.heap.size + 1, 0, none⟩ = some (.int .i64 k') ∧ V.cell? ⟨w.heap.size + 1, 1, none⟩ = some (.string s') ∧ V.cell? ⟨w.heap.size + 1, 2, none⟩ = some (.int .i64 n') ∧ V.cell? ⟨w.heap.size + 1, 3, none⟩ = some (.int .i64 a') ∧ V.cell? ⟨w.heap.size + 1, 4, none⟩ = some (.slice A' l'.length c') ∧ V.cell? ⟨g5, 0, none⟩ = some (.int .i64 k) ∧ V.cell? ⟨g5, 1, none⟩ = some (.string s) ∧ V.cell? ⟨g5, 2, none⟩ = some (.int .i64 n) ∧ V.cell? ⟨g5, 3, none⟩ = some (.int .i64 0) ∧ V.cell? ⟨g5, 4, none⟩ = some (.slice A1 l.length c1) ∧ V.cell? ⟨g6, 0, none⟩ = some (.int .i64 k') ∧ V.cell? ⟨g6, 1, none⟩ = some (.string s') ∧ V.cell? ⟨g6, 2, none⟩ = some (.int .i64 n') ∧ V.cell? ⟨g6, 3, none⟩ = some (.int .i64 0) ∧ V.cell? ⟨g6, 4, none⟩ = some (.slice A2 l'.length c2))
            (first | exact HS.out _ hd9 | exact HS.out _ hd10 | exact HS.out _ hd11 | exact HS.out _ hd12 | exact HS.out _ hd13 | exact HS.out _ hd14 | exact HS.out _ hd15)
            ((first
              | (go_at_call 24; (with_reducible refine (MD.out _ ?_).mono ?_); exact hd9; rintro e w10 ⟨rfl, hb10⟩; have hd10 := hd9.trans (hb10.mono hd9.size))
              | (go_at_call 24; (with_reducible refine (MD2.out _ ?_).mono ?_); exact hd10; rintro e w11 ⟨rfl, hb11⟩; have hd11 := hd10.trans (hb11.mono hd10.size))
              | (go_at_call 25; (with_reducible refine (MZ.out _ ?_).mono ?_); exact hd11; rintro e w12 ⟨rfl, hb12⟩; have hd12 := hd11.trans (hb12.mono hd11.size))
              | (go_at_call 25; (with_reducible refine (MZ2.out _ ?_).mono ?_); exact hd12; rintro e w13 ⟨rfl, hb13⟩; have hd13 := hd12.trans (hb13.mono hd12.size))
              | (go_at_call 26; (with_reducible refine (MM.out _ ?_).mono ?_); exact hd13; rintro e w14 ⟨rfl, hb14⟩; have hd14 := hd13.trans (hb14.mono hd13.size))
              | (go_at_call 26; (with_reducible refine (MM2.out _ ?_).mono ?_); exact hd14; rintro e w15 ⟨rfl, hb15⟩; have hd15 := hd14.trans (hb15.mono hd14.size))))
          go_wp2_with fail
          go_ret
          exact ⟨rfl, hBw.trans (hd15.mono hBw.size)⟩
end Lx
end Go.Proofs.YtnljlocogfacfaaDoor
