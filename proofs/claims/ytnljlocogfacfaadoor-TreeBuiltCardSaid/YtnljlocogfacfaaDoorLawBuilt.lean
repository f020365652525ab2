/-
  Walk of the law TreeBuilt.
-/
import Derived.Test.YtnljlocogfacfaaDoorBuilt
import Derived.Test.YtnljlocogfacfaaDoorHeldK
import Derived.Deep.DeepCutAuto
namespace Go.Proofs.YtnljlocogfacfaaDoor
open Go.RowKit
namespace Lx
set_option maxRecDepth 100000
theorem named_v (s : ByteArray) : mayV (.node 1 s 0 0 []) = nameV s.data.toList := by simp [mayV, Tr.kind, mayT, shapeV, fitsV, whatV, mayL]
set_option maxHeartbeats 16000000 in
theorem tbuilt_any (t : Tr) (A : Option Addr) (c : Nat) (t' : Tr) (A' : Option Addr) (c' : Nat) (nm : ByteArray) (w : World) (hI : TIn w Any t A) (hI' : TIn w Any t' A') (hg : Signs w) :
    Calls Tryd.prog 5 #[tv t A c, tv t' A' c', .string nm] w fun e w' => e = .returned (.bool true) ∧ Below w.heap.size w w' := by
  obtain ⟨k, s, n, a, l⟩ := t
  obtain ⟨k', s', n', a', l'⟩ := t'
  show Calls Tryd.prog 5 #[.agg #[.int .i64 k, .string s, .int .i64 n, .int .i64 a, .slice A l.length c], .agg #[.int .i64 k', .string s', .int .i64 n', .int .i64 a', .slice A' l'.length c'], .string nm] w _
  have hA0 := Bx.new (c := c) hI hg
  have hB0 := Bx.new (c := c') (TIn.below _ hI' hA0.bw (Nat.le_refl _)) hA0.sg
  have hA0 := hA0.step hB0.bw
  rw [show (w.alloc (.cells #[.int .i64 k, .string s, .int .i64 n, .int .i64 a, .slice A l.length c] 33)).heap.size = w.heap.size + 1 from by simp] at hB0
  have HSA := Lib.hid (fun W (h : Bx w W w.heap.size k s n a l A c) => h.small 300 (by omega) (by omega))
  have HSB := Lib.hid (fun w1 W g (h : Bx w1 W g k' s' n' a' l' A' c') => h.small 300 (by omega) (by omega))
  have HA0 := Lib.hid hA0
  have HB0 := Lib.hid hB0
  clear hI hI' hA0 hB0
  cases hsa : decide (0 ≤ fewT (.node k s n a l) 300 200) with
  | false =>
    rw [hsa] at HSA
    clear hsa
    go_enter Tryd.func5, Tryd.ntmps5
    go_wp2_with fail
    refine (fixT_any _ HA0.out.sg).mono ?_
    rintro e w1 ⟨rfl, hb1⟩
    have hA1 := HA0.out.step hb1
    have hB1 := HB0.out.step hb1
    obtain ⟨c0, c1, c2, c3, c4⟩ := hA1.five
    go_wp2_with fail
    refine (HSA.out _ hA1).mono ?_
    rintro e w2 ⟨rfl, hb2⟩
    have hA2 := hA1.step hb2
    have hB2 := hB1.step hb2
    clear c0 c1 c2 c3 c4
    go_wp2_with fail
    refine (fixT_any _ hA2.sg).mono ?_
    rintro e w9 ⟨rfl, hb9⟩
    go_wp2_with fail
    go_ret
    exact ⟨rfl, (hA2.step hb9).bw⟩
  | true =>
    have hza := (small_size hsa (by omega)).1
    rw [hsa] at HSA
    clear hsa
    cases hsb : decide (0 ≤ fewT (.node k' s' n' a' l') 300 200) with
    | false =>
      rw [hsb] at HSB
      clear hsb
      go_enter Tryd.func5, Tryd.ntmps5
      go_wp2_with fail
      refine (fixT_any _ HA0.out.sg).mono ?_
      rintro e w1 ⟨rfl, hb1⟩
      have hA1 := HA0.out.step hb1
      have hB1 := HB0.out.step hb1
      obtain ⟨c0, c1, c2, c3, c4⟩ := hA1.five
      go_wp2_with fail
      refine (HSA.out _ hA1).mono ?_
      rintro e w2 ⟨rfl, hb2⟩
      have hA2 := hA1.step hb2
      have hB2 := hB1.step hb2
      clear c0 c1 c2 c3 c4
      obtain ⟨c0, c1, c2, c3, c4⟩ := hB2.five
      go_wp2_with fail
      refine (HSB.out _ _ _ hB2).mono ?_
      rintro e w3 ⟨rfl, hb3⟩
      have hA3 := hA2.step hb3
      have hB3 := hB2.step hb3
      clear c0 c1 c2 c3 c4
      go_wp2_with fail
      refine (fixT_any _ hA3.sg).mono ?_
      rintro e w9 ⟨rfl, hb9⟩
      go_wp2_with fail
      go_ret
      exact ⟨rfl, (hA3.step hb9).bw⟩
    | true =>
      have hzb := (small_size hsb (by omega)).1
      rw [hsb] at HSB
      clear hsb
      by_cases hl : 50 < nm.size
      · have hl' : (50 : Int) < (nm.size : Int) := by omega
        go_enter Tryd.func5, Tryd.ntmps5
        go_wp2_with fail
        refine (fixT_any _ HA0.out.sg).mono ?_
        rintro e w1 ⟨rfl, hb1⟩
        have hA1 := HA0.out.step hb1
        have hB1 := HB0.out.step hb1
        obtain ⟨c0, c1, c2, c3, c4⟩ := hA1.five
        go_wp2_with fail
        refine (HSA.out _ hA1).mono ?_
        rintro e w2 ⟨rfl, hb2⟩
        have hA2 := hA1.step hb2
        have hB2 := hB1.step hb2
        clear c0 c1 c2 c3 c4
        obtain ⟨c0, c1, c2, c3, c4⟩ := hB2.five
        go_wp2_with fail
        refine (HSB.out _ _ _ hB2).mono ?_
        rintro e w3 ⟨rfl, hb3⟩
        have hA3 := hA2.step hb3
        have hB3 := hB2.step hb3
        clear c0 c1 c2 c3 c4
        go_wp2_with fail
        refine (fixT_any _ hA3.sg).mono ?_
        rintro e w9 ⟨rfl, hb9⟩
        go_wp2_with fail
        go_ret
        exact ⟨rfl, (hA3.step hb9).bw⟩
      · have hl' : ¬ (50 : Int) < (nm.size : Int) := by omega
        obtain ⟨nv, hnv⟩ : ∃ nv, nv = nameV nm.data.toList := ⟨_, rfl⟩
        obtain ⟨ma, hma⟩ : ∃ m, m = mayV (.node k s n a l) := ⟨_, rfl⟩
        obtain ⟨mb, hmb⟩ : ∃ m, m = mayV (.node k' s' n' a' l') := ⟨_, rfl⟩
        obtain ⟨za, hza'⟩ : ∃ z : Nat, z = sizeT (.node k s n a l) := ⟨_, rfl⟩
        obtain ⟨da, hda'⟩ : ∃ z : Nat, z = depthT (.node k s n a l) := ⟨_, rfl⟩
        have MV := Lib.hid (fun W (hs : Signs W) => tmay_any (.node 1 nm 0 0 []) none 0 W (TIn.leaf (by omega)) hs)
        have MA := Lib.hid (fun W (h : Bx w W w.heap.size k s n a l A c) => h.may)
        have MB := Lib.hid (fun w1 W g (h : Bx w1 W g k' s' n' a' l' A' c') => h.may)
        have MZA := Lib.hid (fun W (h : Bx w W w.heap.size k s n a l A c) => h.size (by omega))
        have MDA := Lib.hid (fun W (h : Bx w W w.heap.size k s n a l A c) => h.depth (by omega))
        have PM := Lib.hid (fun i hi => bl_may (.node k s n a l) (.node k' s' n' a' l') nm i hi)
        have PZ := Lib.hid (fun i hi => bl_size (.node k s n a l) (.node k' s' n' a' l') nm i hi)
        have PD := Lib.hid (fun i hi => bl_depth (.node k s n a l) (.node k' s' n' a' l') nm i hi)
        have PP := Lib.hid (fun i hi => bl_parts (.node k s n a l) (.node k' s' n' a' l') nm i hi)
        rw [named_v, ← hnv] at MV
        rw [← hma, ← hmb, ← hnv] at PM
        rw [← hma] at MA
        rw [← hmb] at MB
        rw [← hza'] at MZA PZ hza
        rw [← hda'] at MDA PD
        clear hnv hma hmb hza' hda'
        go_enter Tryd.func5, Tryd.ntmps5
        go_wp2_with fail
        refine (fixT_any _ HA0.out.sg).mono ?_
        rintro e w1 ⟨rfl, hb1⟩
        have hA1 := HA0.out.step hb1
        have hB1 := HB0.out.step hb1
        obtain ⟨c0, c1, c2, c3, c4⟩ := hA1.five
        go_wp2_with fail
        refine (HSA.out _ hA1).mono ?_
        rintro e w2 ⟨rfl, hb2⟩
        have hA2 := hA1.step hb2
        have hB2 := hB1.step hb2
        clear c0 c1 c2 c3 c4
        obtain ⟨c0, c1, c2, c3, c4⟩ := hB2.five
        go_wp2_with fail
        refine (HSB.out _ _ _ hB2).mono ?_
        rintro e w3 ⟨rfl, hb3⟩
        have hA3 := hA2.step hb3
        have hB3 := hB2.step hb3
        clear c0 c1 c2 c3 c4
        clear HA0 HB0 HSA HSB hA1 hB1 hA2 hB2 hb1 hb2 hb3
        go_wp2_with fail
        refine (MV.out _ (hA3.step ((Below.refl _ w3).alloc (Nat.le_refl _) _)).sg).mono ?_
        rintro e w4 ⟨rfl, hb4⟩
        have hA4 := (hA3.step ((Below.refl _ w3).alloc (Nat.le_refl _) _)).step hb4
        have hB4 := (hB3.step ((Below.refl _ w3).alloc (Nat.le_refl _) _)).step hb4
        clear hA3 hB3 hb4 MV
        obtain ⟨c0, c1, c2, c3, c4⟩ := hA4.five
        obtain ⟨d0, d1, d2, d3, d4⟩ := hB4.five
        have hbl := wl_below w4 (.node k s n a l) A c (.node k' s' n' a' l') A' c' nm
        have HT5 := Lib.hid (wl_lies w4 (c := c) (d := c') (s := nm) (by omega) hA4.tin hB4.tin)
        have HA5 := Lib.hid (hA4.step hbl)
        have HB5 := Lib.hid (hB4.step hbl)
        clear hbl
        have hq := hB4.box.lt
        clear hA4 hB4
        have Ral : ∀ (V : World) (o : Obj) (b i : Nat), b < V.heap.size → (V.alloc o).cell? ⟨b, i, none⟩ = V.cell? ⟨b, i, none⟩ := fun V o b i h => World.cell?_alloc_lt _ _ _ h
        have qa0 : w.heap.size < w4.heap.size := by omega
        have qb0 : w.heap.size ≤ w4.heap.size := by omega
        have qc0 : w.heap.size + 1 < w4.heap.size := by omega
        have qd0 : w.heap.size + 1 ≤ w4.heap.size := by omega
        have qa1 : w.heap.size < w4.heap.size + 1 := by omega
        have qb1 : w.heap.size ≤ w4.heap.size + 1 := by omega
        have qc1 : w.heap.size + 1 < w4.heap.size + 1 := by omega
        have qd1 : w.heap.size + 1 ≤ w4.heap.size + 1 := by omega
        have qa2 : w.heap.size < w4.heap.size + 1 + 1 := by omega
        have qb2 : w.heap.size ≤ w4.heap.size + 1 + 1 := by omega
        have qc2 : w.heap.size + 1 < w4.heap.size + 1 + 1 := by omega
        have qd2 : w.heap.size + 1 ≤ w4.heap.size + 1 + 1 := by omega
        have qa3 : w.heap.size < w4.heap.size + 1 + 1 + 1 := by omega
        have qb3 : w.heap.size ≤ w4.heap.size + 1 + 1 + 1 := by omega
        have qc3 : w.heap.size + 1 < w4.heap.size + 1 + 1 + 1 := by omega
        have qd3 : w.heap.size + 1 ≤ w4.heap.size + 1 + 1 + 1 := by omega
        have qa4 : w.heap.size < w4.heap.size + 1 + 1 + 1 + 1 := by omega
        have qb4 : w.heap.size ≤ w4.heap.size + 1 + 1 + 1 + 1 := by omega
        have qc4 : w.heap.size + 1 < w4.heap.size + 1 + 1 + 1 + 1 := by omega
        have qd4 : w.heap.size + 1 ≤ w4.heap.size + 1 + 1 + 1 + 1 := by omega
        have qa5 : w.heap.size < w4.heap.size + 1 + 1 + 1 + 1 + 1 := by omega
        have qb5 : w.heap.size ≤ w4.heap.size + 1 + 1 + 1 + 1 + 1 := by omega
        have qc5 : w.heap.size + 1 < w4.heap.size + 1 + 1 + 1 + 1 + 1 := by omega
        have qd5 : w.heap.size + 1 ≤ w4.heap.size + 1 + 1 + 1 + 1 + 1 := by omega
        have qa6 : w.heap.size < w4.heap.size + 1 + 1 + 1 + 1 + 1 + 1 := by omega
        have qb6 : w.heap.size ≤ w4.heap.size + 1 + 1 + 1 + 1 + 1 + 1 := by omega
        have qc6 : w.heap.size + 1 < w4.heap.size + 1 + 1 + 1 + 1 + 1 + 1 := by omega
        have qd6 : w.heap.size + 1 ≤ w4.heap.size + 1 + 1 + 1 + 1 + 1 + 1 := by omega
        go_wp2_with fail
        clear Ral qa0 qb0 qc0 qd0 qa1 qb1 qc1 qd1 qa2 qb2 qc2 qd2 qa3 qb3 qc3 qd3 qa4 qb4 qc4 qd4 qa5 qb5 qc5 qd5 qa6 qb6 qc6 qd6 hq
        clear c0 c1 c2 c3 c4 d0 d1 d2 d3 d4
        obtain ⟨G, hG⟩ : ∃ G, G = w4.heap.size + 1 + 1 + 1 + 1 + 1 + 1 := ⟨_, rfl⟩
        obtain ⟨gb, hgb⟩ : ∃ g, g = w.heap.size + 1 := ⟨_, rfl⟩
        clear hgb hG
        go_loopw [10] (fun x wr => ∃ i : Nat, i ≤ 6 ∧ x = .int .i64 i ∧ Bx w wr w.heap.size k s n a l A c ∧ Bx (w.alloc (.cells #[.int .i64 k, .string s, .int .i64 n, .int .i64 a, .slice A l.length c] 33)) wr (w.heap.size + 1) k' s' n' a' l' A' c' ∧ TIn wr Any (.node 0 ⟨#[]⟩ 0 0 (bl (.node k s n a l) (.node k' s' n' a' l') nm)) (some ⟨w4.heap.size + 1 + 1 + 1 + 1 + 1 + 1, 0, none⟩)) (fun x _ => 6 - (intOf x).toNat)
        case atStart => exact ⟨0, by omega, rfl, HA5.out, HB5.out, HT5.out⟩
        case round =>
          obtain ⟨i, hi, rfl, hA, hB, hT⟩ := hrel
          obtain ⟨G, hG⟩ : ∃ G, G = w4.heap.size + 1 + 1 + 1 + 1 + 1 + 1 := ⟨_, rfl⟩
          rw [← hG] at hT ⊢
          clear hG
          by_cases hlt : i < 6
          · have hlt' : i < (bl (.node k s n a l) (.node k' s' n' a' l') nm).length := hlt
            obtain ⟨g', o, A2, c2, ⟨hE, _⟩, d0, d1, d2, d3, d4, hIn⟩ := TIn.part hT i hlt'
            have PMi := PM.out i hlt'
            have PZi := PZ.out i hlt'
            have PDi := PD.out i hlt'
            have PPi := PP.out i hlt'
            simp only [Tr.parts] at d0 d1 d2 d3 d4 hIn
            obtain ⟨tr, hu⟩ : ∃ tr, tr = (bl (.node k s n a l) (.node k' s' n' a' l') nm)[i]'hlt' := ⟨_, rfl⟩
            rw [← hu] at d0 d1 d2 d3 d4 hIn PMi PZi PDi PPi
            clear hu
            obtain ⟨tk, ts, tn, ta, tl⟩ := tr
            simp only [Tr.kind, Tr.name, Tr.n, Tr.place, Tr.parts] at d0 d1 d2 d3 d4 PMi PPi
            injection hE with hE
            injection hE with hE1 hE2
            subst hE1 hE2
            rw [Nat.zero_add] at d0 d1 d2 d3 d4
            have hX := Bx.new (c := c2) hIn hA.sg
            have hbw := (Below.refl _ wr).alloc (Nat.le_refl _) (.cells #[.int .i64 tk, .string ts, .int .i64 tn, .int .i64 ta, .slice A2 tl.length c2] 33)
            have hA1 := hA.step hbw
            have hB1 := hB.step hbw
            have hT1 := TIn.below _ hT hbw (Nat.le_refl _)
            obtain ⟨c0, c1, c2', c3, c4⟩ := hA.five
            go_upto_region 10 with fail
            obtain ⟨W0, hW0⟩ : ∃ W0, W0 = wr.alloc (.cells #[.int .i64 tk, .string ts, .int .i64 tn, .int .i64 ta, .slice A2 tl.length c2] 33) := ⟨_, rfl⟩
            rw [← hW0] at hX hA1 hB1 hT1 ⊢
            obtain ⟨g2, hg2⟩ : ∃ g2, g2 = wr.heap.size := ⟨_, rfl⟩
            rw [← hg2] at hX ⊢
            clear hW0 hg2 hA hB hT hIn c0 c1 c2' c3 c4 d0 d1 d2 d3 d4 hbw PM PZ PD PP HT5 HA5 HB5
            obtain ⟨bo, hbo⟩ : ∃ bo, bo = (ma && (tl.length == 1 || mb)) := ⟨_, rfl⟩
            rw [← hbo] at PMi
            have HRA := Lib.hid (fun V (hb : Below W0.heap.size W0 V) => hA1.step hb)
            have HRB := Lib.hid (fun V (hb : Below W0.heap.size W0 V) => hB1.step hb)
            have HRX := Lib.hid (fun V (hb : Below W0.heap.size W0 V) => hX.step hb)
            have HR := Lib.hid (fun V (hb : Below W0.heap.size W0 V) => And.intro (hA1.step hb) (And.intro (hB1.step hb) (TIn.below _ hT1 hb (Nat.le_refl _))))
            have PMi := Lib.hid PMi
            have PZi := Lib.hid PZi
            have PDi := Lib.hid PDi
            go_cut [12] (fun v wx => v = .bool bo ∧ Below W0.heap.size W0 wx)
            case first =>
              obtain ⟨c0, c1, c2', c3, c4⟩ := hA1.five
              cases ma with
              | false =>
                obtain rfl : bo = false := by rw [hbo]; rfl
                clear hbo
                go_wp2_with fail
                refine (MA.out _ hA1).mono ?_
                rintro e w5 ⟨rfl, hb5⟩
                go_wp2_with fail
                go_meet
                exact ⟨rfl, hb5⟩
              | true =>
                go_wp2_with fail
                refine (MA.out _ hA1).mono ?_
                rintro e w5 ⟨rfl, hb5⟩
                clear c0 c1 c2' c3 c4
                obtain ⟨c0, c1, c2', c3, c4⟩ := (HRX.out _ hb5).five
                obtain ⟨d0, d1, d2', d3, d4⟩ := (HRB.out _ hb5).five
                by_cases h1 : tl.length = 1
                · obtain rfl : bo = true := by rw [hbo, h1]; rfl
                  clear hbo
                  have h1' : ((tl.length : Int) == 1) = true := by simp [h1]
                  have h1'' : (tl.length : Int) = 1 := by omega
                  go_wp2_with fail
                  go_meet
                  exact ⟨rfl, hb5⟩
                · obtain rfl : bo = mb := by rw [hbo]; simp [h1]
                  clear hbo
                  have h1' : ((tl.length : Int) == 1) = false := by simp; omega
                  have h1'' : ¬ (tl.length : Int) = 1 := by omega
                  go_wp2_with fail
                  refine (MB.out _ _ _ (HRB.out _ hb5)).mono ?_
                  rintro e w6 ⟨rfl, hb6⟩
                  go_wp2_with fail
                  go_meet
                  exact ⟨rfl, hb5.trans (hb6.mono hb5.size)⟩
            case rest =>
              obtain ⟨rfl, hdc⟩ := hcut
              clear hA1 hB1 hX hT1 hbo
              have HS := Lib.hid (show ∀ V, Below W0.heap.size W0 V → V.cell? ⟨w.heap.size, 0, none⟩ = some (.int .i64 k) ∧ V.cell? ⟨w.heap.size, 1, none⟩ = some (.string s) ∧ V.cell? ⟨w.heap.size, 2, none⟩ = some (.int .i64 n) ∧ V.cell? ⟨w.heap.size, 3, none⟩ = some (.int .i64 a) ∧ V.cell? ⟨w.heap.size, 4, none⟩ = some (.slice A l.length c) ∧ V.cell? ⟨g2, 0, none⟩ = some (.int .i64 tk) ∧ V.cell? ⟨g2, 1, none⟩ = some (.string ts) ∧ V.cell? ⟨g2, 2, none⟩ = some (.int .i64 tn) ∧ V.cell? ⟨g2, 3, none⟩ = some (.int .i64 ta) ∧ V.cell? ⟨g2, 4, none⟩ = some (.slice A2 tl.length c2) from fun V hb =>
                have h1 := (HRA.out V hb).five
                have h2 := (HRX.out V hb).five
                ⟨h1.1, h1.2.1, h1.2.2.1, h1.2.2.2.1, h1.2.2.2.2, h2.1, h2.2.1, h2.2.2.1, h2.2.2.2.1, h2.2.2.2.2⟩)
              obtain ⟨zt, hzt⟩ : ∃ z : Nat, z = sizeT (.node tk ts tn ta tl) := ⟨_, rfl⟩
              obtain ⟨dt, hdt⟩ : ∃ z : Nat, z = depthT (.node tk ts tn ta tl) := ⟨_, rfl⟩
              have hzb' := PZi.out
              have hdb' := PDi.out
              have MZX := Lib.hid (fun W (h : Bx wr W g2 tk ts tn ta tl A2 c2) => h.size (by omega))
              have MDX := Lib.hid (fun W (h : Bx wr W g2 tk ts tn ta tl A2 c2) => h.depth (by omega))
              have MX0 := fun W (h : Bx wr W g2 tk ts tn ta tl A2 c2) => h.may
              rw [PMi.out] at MX0
              have MX := Lib.hid MX0
              clear MX0
              rw [← hzt] at MZX hzb'
              rw [← hdt] at MDX hdb'
              have hz1 : ¬ (zt : Int) ≤ (za : Int) := by omega
              have hz2 : ¬ (dt : Int) ≤ (da : Int) := by omega
              clear hzt hdt hzb' hdb' PZi PDi PMi
              have hd0 : Below W0.heap.size W0 wc.drew := hdc.drew
              have hA0 := HRA.out _ hd0
              have hX0 := HRX.out _ hd0
              have hS0 := HS.out _ hd0
              clear hdc
              go_wp2_with fail
              cases bo with
              | false =>
                refine wp_region_held_drew (S := fun V => (V.cell? ⟨w.heap.size, 0, none⟩ = some (.int .i64 k) ∧ V.cell? ⟨w.heap.size, 1, none⟩ = some (.string s) ∧ V.cell? ⟨w.heap.size, 2, none⟩ = some (.int .i64 n) ∧ V.cell? ⟨w.heap.size, 3, none⟩ = some (.int .i64 a) ∧ V.cell? ⟨w.heap.size, 4, none⟩ = some (.slice A l.length c) ∧ V.cell? ⟨g2, 0, none⟩ = some (.int .i64 tk) ∧ V.cell? ⟨g2, 1, none⟩ = some (.string ts) ∧ V.cell? ⟨g2, 2, none⟩ = some (.int .i64 tn) ∧ V.cell? ⟨g2, 3, none⟩ = some (.int .i64 ta) ∧ V.cell? ⟨g2, 4, none⟩ = some (.slice A2 tl.length c2))) rfl hS0 (fun hS1 => ?_)
                change wpAnyH _ _ _ _ _ 29 (Array.replicate 29 false) _ _
                refine wpAnyH_take (i := 0) (v := .agg #[.int .i64 tk, .string ts, .int .i64 tn, .int .i64 ta, .slice A2 tl.length c2]) rfl (by kernel_rfl) (by kernel_rfl) (by kernel_rfl) (fun _ _ _ h => h) (.inl ⟨by kernel_rfl, fun W hW => by (obtain ⟨p0, p1, p2, p3, p4, q0, q1, q2, q3, q4⟩ := hW; go_simp)⟩) hS1 ?_
                try simp only [Act.put, List.setIfInBounds_toArray]
                refine wpAnyH_take (i := 2) (v := .bool false) rfl (by kernel_rfl) (by kernel_rfl) (by kernel_rfl) (fun _ _ _ h => h) (.inl ⟨by kernel_rfl, fun W hW => by kernel_rfl⟩) hS1 ?_
                try simp only [Act.put]
                refine wpAnyH_ready (rs := [1]) (by kernel_rfl) (by simp) (AllReadyH.cons rfl (fun K hK => ?_) AllReadyH.nil)
                go_simp
                refine (MX.out _ hX0).mono ?_
                rintro e w5 ⟨rfl, hb5⟩
                have hX5 := hX0.step hb5
                have hA5 := hA0.step hb5
                have hd5 := hd0.trans (hb5.mono hd0.size)
                refine hK.out _ _ (HS.out _ hd5) (fun hS2 => ?_)
                clear hK K
                try simp only [Act.put, List.setIfInBounds_toArray, List.set_cons_zero, List.set_cons_succ]
                refine wpAnyH_take (i := 3) (v := .bool false) rfl (by kernel_rfl) (by kernel_rfl) (by kernel_rfl) (fun _ _ _ h => h) (.inl ⟨by kernel_rfl, fun W hW => by kernel_rfl⟩) hS2 ?_
                try simp only [Act.put, List.setIfInBounds_toArray]
                refine wpAnyH_take (i := 4) (v := undef) rfl (by kernel_rfl) (by kernel_rfl) (by kernel_rfl) (fun _ _ _ h => h) (.inr ⟨by kernel_rfl, rfl⟩) hS2 ?_
                try simp only [Act.put]
                refine wpAnyH_take (i := 5) (v := undef) rfl (by kernel_rfl) (by kernel_rfl) (by kernel_rfl) (fun _ _ _ h => h) (.inr ⟨by kernel_rfl, rfl⟩) hS2 ?_
                try simp only [Act.put]
                refine wpAnyH_take (i := 6) (v := undef) rfl (by kernel_rfl) (by kernel_rfl) (by kernel_rfl) (fun _ _ _ h => h) (.inr ⟨by kernel_rfl, rfl⟩) hS2 ?_
                try simp only [Act.put]
                refine wpAnyH_take (i := 7) (v := undef) rfl (by kernel_rfl) (by kernel_rfl) (by kernel_rfl) (fun _ _ _ h => h) (.inr ⟨by kernel_rfl, rfl⟩) hS2 ?_
                try simp only [Act.put]
                refine wpAnyH_take (i := 8) (v := undef) rfl (by kernel_rfl) (by kernel_rfl) (by kernel_rfl) (fun _ _ _ h => h) (.inr ⟨by kernel_rfl, rfl⟩) hS2 ?_
                try simp only [Act.put]
                refine wpAnyH_take (i := 9) (v := undef) rfl (by kernel_rfl) (by kernel_rfl) (by kernel_rfl) (fun _ _ _ h => h) (.inr ⟨by kernel_rfl, rfl⟩) hS2 ?_
                try simp only [Act.put]
                refine wpAnyH_take (i := 10) (v := undef) rfl (by kernel_rfl) (by kernel_rfl) (by kernel_rfl) (fun _ _ _ h => h) (.inr ⟨by kernel_rfl, rfl⟩) hS2 ?_
                try simp only [Act.put]
                refine wpAnyH_take (i := 11) (v := undef) rfl (by kernel_rfl) (by kernel_rfl) (by kernel_rfl) (fun _ _ _ h => h) (.inr ⟨by kernel_rfl, rfl⟩) hS2 ?_
                try simp only [Act.put]
                refine wpAnyH_take (i := 12) (v := undef) rfl (by kernel_rfl) (by kernel_rfl) (by kernel_rfl) (fun _ _ _ h => h) (.inr ⟨by kernel_rfl, rfl⟩) hS2 ?_
                try simp only [Act.put]
                refine wpAnyH_take (i := 13) (v := .bool false) rfl (by kernel_rfl) (by kernel_rfl) (by kernel_rfl) (fun _ _ _ h => h) (.inl ⟨by kernel_rfl, fun W hW => by kernel_rfl⟩) hS2 ?_
                try simp only [Act.put]
                refine wpAnyH_take (i := 14) (v := .bool false) rfl (by kernel_rfl) (by kernel_rfl) (by kernel_rfl) (fun _ _ _ h => h) (.inl ⟨by kernel_rfl, fun W hW => by kernel_rfl⟩) hS2 ?_
                try simp only [Act.put]
                refine wpAnyH_take (i := 15) (v := .bool false) rfl (by kernel_rfl) (by kernel_rfl) (by kernel_rfl) (fun _ _ _ h => h) (.inl ⟨by kernel_rfl, fun W hW => by kernel_rfl⟩) hS2 ?_
                try simp only [Act.put]
                refine wpAnyH_take (i := 16) (v := .agg #[.int .i64 tk, .string ts, .int .i64 tn, .int .i64 ta, .slice A2 tl.length c2]) rfl (by kernel_rfl) (by kernel_rfl) (by kernel_rfl) (fun _ _ _ h => h) (.inl ⟨by kernel_rfl, fun W hW => by (obtain ⟨p0, p1, p2, p3, p4, q0, q1, q2, q3, q4⟩ := hW; go_simp)⟩) hS2 ?_
                try simp only [Act.put]
                refine wpAnyH_take (i := 18) (v := .agg #[.int .i64 k, .string s, .int .i64 n, .int .i64 a, .slice A l.length c]) rfl (by kernel_rfl) (by kernel_rfl) (by kernel_rfl) (fun _ _ _ h => h) (.inl ⟨by kernel_rfl, fun W hW => by (obtain ⟨p0, p1, p2, p3, p4, q0, q1, q2, q3, q4⟩ := hW; go_simp)⟩) hS2 ?_
                try simp only [Act.put]
                refine wpAnyH_ready (rs := [17]) (by kernel_rfl) (by simp) (AllReadyH.cons rfl (fun K hK => ?_) AllReadyH.nil)
                go_simp
                refine (MZX.out _ hX5).mono ?_
                rintro e w6 ⟨rfl, hb6⟩
                have hX6 := hX5.step hb6
                have hA6 := hA5.step hb6
                have hd6 := hd5.trans (hb6.mono hd5.size)
                refine hK.out _ _ (HS.out _ hd6) (fun hS3 => ?_)
                clear hK K
                try simp only [Act.put, List.setIfInBounds_toArray, List.set_cons_zero, List.set_cons_succ]
                refine wpAnyH_ready (rs := [19]) (by kernel_rfl) (by simp) (AllReadyH.cons rfl (fun K hK => ?_) AllReadyH.nil)
                go_simp
                refine (MZA.out _ hA6).mono ?_
                rintro e w7 ⟨rfl, hb7⟩
                have hX7 := hX6.step hb7
                have hA7 := hA6.step hb7
                have hd7 := hd6.trans (hb7.mono hd6.size)
                refine hK.out _ _ (HS.out _ hd7) (fun hS4 => ?_)
                clear hK K
                try simp only [Act.put, List.setIfInBounds_toArray, List.set_cons_zero, List.set_cons_succ]
                refine wpAnyH_take (i := 20) (v := .bool false) rfl (by kernel_rfl) (by kernel_rfl) (by kernel_rfl) (fun _ _ _ h => h) (.inl ⟨by kernel_rfl, fun W hW => by first | (go_simp; done) | (go_simp; omega)⟩) hS4 ?_
                try simp only [Act.put, List.setIfInBounds_toArray]
                refine wpAnyH_take (i := 21) (v := .bool false) rfl (by kernel_rfl) (by kernel_rfl) (by kernel_rfl) (fun _ _ _ h => h) (.inl ⟨by kernel_rfl, fun W hW => by kernel_rfl⟩) hS4 ?_
                try simp only [Act.put]
                refine wpAnyH_take (i := 22) (v := .bool false) rfl (by kernel_rfl) (by kernel_rfl) (by kernel_rfl) (fun _ _ _ h => h) (.inl ⟨by kernel_rfl, fun W hW => by kernel_rfl⟩) hS4 ?_
                try simp only [Act.put]
                refine wpAnyH_take (i := 23) (v := .agg #[.int .i64 tk, .string ts, .int .i64 tn, .int .i64 ta, .slice A2 tl.length c2]) rfl (by kernel_rfl) (by kernel_rfl) (by kernel_rfl) (fun _ _ _ h => h) (.inl ⟨by kernel_rfl, fun W hW => by (obtain ⟨p0, p1, p2, p3, p4, q0, q1, q2, q3, q4⟩ := hW; go_simp)⟩) hS4 ?_
                try simp only [Act.put]
                refine wpAnyH_take (i := 25) (v := .agg #[.int .i64 k, .string s, .int .i64 n, .int .i64 a, .slice A l.length c]) rfl (by kernel_rfl) (by kernel_rfl) (by kernel_rfl) (fun _ _ _ h => h) (.inl ⟨by kernel_rfl, fun W hW => by (obtain ⟨p0, p1, p2, p3, p4, q0, q1, q2, q3, q4⟩ := hW; go_simp)⟩) hS4 ?_
                try simp only [Act.put]
                refine wpAnyH_ready (rs := [24]) (by kernel_rfl) (by simp) (AllReadyH.cons rfl (fun K hK => ?_) AllReadyH.nil)
                go_simp
                refine (MDX.out _ hX7).mono ?_
                rintro e w8 ⟨rfl, hb8⟩
                have hA8 := hA7.step hb8
                have hd8 := hd7.trans (hb8.mono hd7.size)
                refine hK.out _ _ (HS.out _ hd8) (fun hS5 => ?_)
                clear hK K
                try simp only [Act.put, List.setIfInBounds_toArray, List.set_cons_zero, List.set_cons_succ]
                refine wpAnyH_ready (rs := [26]) (by kernel_rfl) (by simp) (AllReadyH.cons rfl (fun K hK => ?_) AllReadyH.nil)
                go_simp
                refine (MDA.out _ hA8).mono ?_
                rintro e w9 ⟨rfl, hb9⟩
                have hd9 := hd8.trans (hb9.mono hd8.size)
                refine hK.out _ _ (HS.out _ hd9) (fun hS6 => ?_)
                clear hK K
                try simp only [Act.put, List.setIfInBounds_toArray, List.set_cons_zero, List.set_cons_succ]
                refine wpAnyH_take (i := 27) (v := .bool false) rfl (by kernel_rfl) (by kernel_rfl) (by kernel_rfl) (fun _ _ _ h => h) (.inl ⟨by kernel_rfl, fun W hW => by first | (go_simp; done) | (go_simp; omega)⟩) hS6 ?_
                try simp only [Act.put, List.setIfInBounds_toArray]
                refine wpAnyH_take (i := 28) (v := .bool false) rfl (by kernel_rfl) (by kernel_rfl) (by kernel_rfl) (fun _ _ _ h => h) (.inl ⟨by kernel_rfl, fun W hW => by kernel_rfl⟩) hS6 ?_
                try simp only [Act.put]
                refine wpAnyH_done (by kernel_rfl) ?_ _
                go_wp2_with fail
                go_roundw
                case rel => exact ⟨i + 1, by omega, by go_num, HR.out _ hd9⟩
                case measure => simp [intOf]; omega
              | true =>
                cases nv with
                | true =>
                  refine wp_region_held_drew (S := fun V => (V.cell? ⟨w.heap.size, 0, none⟩ = some (.int .i64 k) ∧ V.cell? ⟨w.heap.size, 1, none⟩ = some (.string s) ∧ V.cell? ⟨w.heap.size, 2, none⟩ = some (.int .i64 n) ∧ V.cell? ⟨w.heap.size, 3, none⟩ = some (.int .i64 a) ∧ V.cell? ⟨w.heap.size, 4, none⟩ = some (.slice A l.length c) ∧ V.cell? ⟨g2, 0, none⟩ = some (.int .i64 tk) ∧ V.cell? ⟨g2, 1, none⟩ = some (.string ts) ∧ V.cell? ⟨g2, 2, none⟩ = some (.int .i64 tn) ∧ V.cell? ⟨g2, 3, none⟩ = some (.int .i64 ta) ∧ V.cell? ⟨g2, 4, none⟩ = some (.slice A2 tl.length c2))) rfl hS0 (fun hS1 => ?_)
                  change wpAnyH _ _ _ _ _ 29 (Array.replicate 29 false) _ _
                  refine wpAnyH_take (i := 0) (v := .agg #[.int .i64 tk, .string ts, .int .i64 tn, .int .i64 ta, .slice A2 tl.length c2]) rfl (by kernel_rfl) (by kernel_rfl) (by kernel_rfl) (fun _ _ _ h => h) (.inl ⟨by kernel_rfl, fun W hW => by (obtain ⟨p0, p1, p2, p3, p4, q0, q1, q2, q3, q4⟩ := hW; go_simp)⟩) hS1 ?_
                  try simp only [Act.put, List.setIfInBounds_toArray]
                  refine wpAnyH_take (i := 2) (v := .bool true) rfl (by kernel_rfl) (by kernel_rfl) (by kernel_rfl) (fun _ _ _ h => h) (.inl ⟨by kernel_rfl, fun W hW => by kernel_rfl⟩) hS1 ?_
                  try simp only [Act.put]
                  refine wpAnyH_ready (rs := [1]) (by kernel_rfl) (by simp) (AllReadyH.cons rfl (fun K hK => ?_) AllReadyH.nil)
                  go_simp
                  refine (MX.out _ hX0).mono ?_
                  rintro e w5 ⟨rfl, hb5⟩
                  have hX5 := hX0.step hb5
                  have hA5 := hA0.step hb5
                  have hd5 := hd0.trans (hb5.mono hd0.size)
                  refine hK.out _ _ (HS.out _ hd5) (fun hS2 => ?_)
                  clear hK K
                  try simp only [Act.put, List.setIfInBounds_toArray, List.set_cons_zero, List.set_cons_succ]
                  refine wpAnyH_take (i := 3) (v := .bool true) rfl (by kernel_rfl) (by kernel_rfl) (by kernel_rfl) (fun _ _ _ h => h) (.inl ⟨by kernel_rfl, fun W hW => by kernel_rfl⟩) hS2 ?_
                  try simp only [Act.put, List.setIfInBounds_toArray]
                  refine wpAnyH_take (i := 4) (v := .bool true) rfl (by kernel_rfl) (by kernel_rfl) (by kernel_rfl) (fun _ _ _ h => h) (.inl ⟨by kernel_rfl, fun W hW => by kernel_rfl⟩) hS2 ?_
                  try simp only [Act.put]
                  refine wpAnyH_take (i := 5) (v := .bool true) rfl (by kernel_rfl) (by kernel_rfl) (by kernel_rfl) (fun _ _ _ h => h) (.inl ⟨by kernel_rfl, fun W hW => by kernel_rfl⟩) hS2 ?_
                  try simp only [Act.put]
                  refine wpAnyH_take (i := 6) (v := undef) rfl (by kernel_rfl) (by kernel_rfl) (by kernel_rfl) (fun _ _ _ h => h) (.inr ⟨by kernel_rfl, rfl⟩) hS2 ?_
                  try simp only [Act.put]
                  refine wpAnyH_take (i := 7) (v := undef) rfl (by kernel_rfl) (by kernel_rfl) (by kernel_rfl) (fun _ _ _ h => h) (.inr ⟨by kernel_rfl, rfl⟩) hS2 ?_
                  try simp only [Act.put]
                  refine wpAnyH_take (i := 8) (v := .bool true) rfl (by kernel_rfl) (by kernel_rfl) (by kernel_rfl) (fun _ _ _ h => h) (.inl ⟨by kernel_rfl, fun W hW => by kernel_rfl⟩) hS2 ?_
                  try simp only [Act.put]
                  refine wpAnyH_take (i := 9) (v := .bool true) rfl (by kernel_rfl) (by kernel_rfl) (by kernel_rfl) (fun _ _ _ h => h) (.inl ⟨by kernel_rfl, fun W hW => by kernel_rfl⟩) hS2 ?_
                  try simp only [Act.put]
                  refine wpAnyH_take (i := 10) (v := undef) rfl (by kernel_rfl) (by kernel_rfl) (by kernel_rfl) (fun _ _ _ h => h) (.inr ⟨by kernel_rfl, rfl⟩) hS2 ?_
                  try simp only [Act.put]
                  refine wpAnyH_take (i := 11) (v := undef) rfl (by kernel_rfl) (by kernel_rfl) (by kernel_rfl) (fun _ _ _ h => h) (.inr ⟨by kernel_rfl, rfl⟩) hS2 ?_
                  try simp only [Act.put]
                  refine wpAnyH_take (i := 12) (v := .bool true) rfl (by kernel_rfl) (by kernel_rfl) (by kernel_rfl) (fun _ _ _ h => h) (.inl ⟨by kernel_rfl, fun W hW => by kernel_rfl⟩) hS2 ?_
                  try simp only [Act.put]
                  refine wpAnyH_take (i := 13) (v := .bool true) rfl (by kernel_rfl) (by kernel_rfl) (by kernel_rfl) (fun _ _ _ h => h) (.inl ⟨by kernel_rfl, fun W hW => by kernel_rfl⟩) hS2 ?_
                  try simp only [Act.put]
                  refine wpAnyH_take (i := 14) (v := .bool false) rfl (by kernel_rfl) (by kernel_rfl) (by kernel_rfl) (fun _ _ _ h => h) (.inl ⟨by kernel_rfl, fun W hW => by kernel_rfl⟩) hS2 ?_
                  try simp only [Act.put]
                  refine wpAnyH_take (i := 15) (v := .bool false) rfl (by kernel_rfl) (by kernel_rfl) (by kernel_rfl) (fun _ _ _ h => h) (.inl ⟨by kernel_rfl, fun W hW => by kernel_rfl⟩) hS2 ?_
                  try simp only [Act.put]
                  refine wpAnyH_take (i := 16) (v := .agg #[.int .i64 tk, .string ts, .int .i64 tn, .int .i64 ta, .slice A2 tl.length c2]) rfl (by kernel_rfl) (by kernel_rfl) (by kernel_rfl) (fun _ _ _ h => h) (.inl ⟨by kernel_rfl, fun W hW => by (obtain ⟨p0, p1, p2, p3, p4, q0, q1, q2, q3, q4⟩ := hW; go_simp)⟩) hS2 ?_
                  try simp only [Act.put]
                  refine wpAnyH_take (i := 18) (v := .agg #[.int .i64 k, .string s, .int .i64 n, .int .i64 a, .slice A l.length c]) rfl (by kernel_rfl) (by kernel_rfl) (by kernel_rfl) (fun _ _ _ h => h) (.inl ⟨by kernel_rfl, fun W hW => by (obtain ⟨p0, p1, p2, p3, p4, q0, q1, q2, q3, q4⟩ := hW; go_simp)⟩) hS2 ?_
                  try simp only [Act.put]
                  refine wpAnyH_ready (rs := [17]) (by kernel_rfl) (by simp) (AllReadyH.cons rfl (fun K hK => ?_) AllReadyH.nil)
                  go_simp
                  refine (MZX.out _ hX5).mono ?_
                  rintro e w6 ⟨rfl, hb6⟩
                  have hX6 := hX5.step hb6
                  have hA6 := hA5.step hb6
                  have hd6 := hd5.trans (hb6.mono hd5.size)
                  refine hK.out _ _ (HS.out _ hd6) (fun hS3 => ?_)
                  clear hK K
                  try simp only [Act.put, List.setIfInBounds_toArray, List.set_cons_zero, List.set_cons_succ]
                  refine wpAnyH_ready (rs := [19]) (by kernel_rfl) (by simp) (AllReadyH.cons rfl (fun K hK => ?_) AllReadyH.nil)
                  go_simp
                  refine (MZA.out _ hA6).mono ?_
                  rintro e w7 ⟨rfl, hb7⟩
                  have hX7 := hX6.step hb7
                  have hA7 := hA6.step hb7
                  have hd7 := hd6.trans (hb7.mono hd6.size)
                  refine hK.out _ _ (HS.out _ hd7) (fun hS4 => ?_)
                  clear hK K
                  try simp only [Act.put, List.setIfInBounds_toArray, List.set_cons_zero, List.set_cons_succ]
                  refine wpAnyH_take (i := 20) (v := .bool false) rfl (by kernel_rfl) (by kernel_rfl) (by kernel_rfl) (fun _ _ _ h => h) (.inl ⟨by kernel_rfl, fun W hW => by first | (go_simp; done) | (go_simp; omega)⟩) hS4 ?_
                  try simp only [Act.put, List.setIfInBounds_toArray]
                  refine wpAnyH_take (i := 21) (v := .bool false) rfl (by kernel_rfl) (by kernel_rfl) (by kernel_rfl) (fun _ _ _ h => h) (.inl ⟨by kernel_rfl, fun W hW => by kernel_rfl⟩) hS4 ?_
                  try simp only [Act.put]
                  refine wpAnyH_take (i := 22) (v := .bool false) rfl (by kernel_rfl) (by kernel_rfl) (by kernel_rfl) (fun _ _ _ h => h) (.inl ⟨by kernel_rfl, fun W hW => by kernel_rfl⟩) hS4 ?_
                  try simp only [Act.put]
                  refine wpAnyH_take (i := 23) (v := .agg #[.int .i64 tk, .string ts, .int .i64 tn, .int .i64 ta, .slice A2 tl.length c2]) rfl (by kernel_rfl) (by kernel_rfl) (by kernel_rfl) (fun _ _ _ h => h) (.inl ⟨by kernel_rfl, fun W hW => by (obtain ⟨p0, p1, p2, p3, p4, q0, q1, q2, q3, q4⟩ := hW; go_simp)⟩) hS4 ?_
                  try simp only [Act.put]
                  refine wpAnyH_take (i := 25) (v := .agg #[.int .i64 k, .string s, .int .i64 n, .int .i64 a, .slice A l.length c]) rfl (by kernel_rfl) (by kernel_rfl) (by kernel_rfl) (fun _ _ _ h => h) (.inl ⟨by kernel_rfl, fun W hW => by (obtain ⟨p0, p1, p2, p3, p4, q0, q1, q2, q3, q4⟩ := hW; go_simp)⟩) hS4 ?_
                  try simp only [Act.put]
                  refine wpAnyH_ready (rs := [24]) (by kernel_rfl) (by simp) (AllReadyH.cons rfl (fun K hK => ?_) AllReadyH.nil)
                  go_simp
                  refine (MDX.out _ hX7).mono ?_
                  rintro e w8 ⟨rfl, hb8⟩
                  have hA8 := hA7.step hb8
                  have hd8 := hd7.trans (hb8.mono hd7.size)
                  refine hK.out _ _ (HS.out _ hd8) (fun hS5 => ?_)
                  clear hK K
                  try simp only [Act.put, List.setIfInBounds_toArray, List.set_cons_zero, List.set_cons_succ]
                  refine wpAnyH_ready (rs := [26]) (by kernel_rfl) (by simp) (AllReadyH.cons rfl (fun K hK => ?_) AllReadyH.nil)
                  go_simp
                  refine (MDA.out _ hA8).mono ?_
                  rintro e w9 ⟨rfl, hb9⟩
                  have hd9 := hd8.trans (hb9.mono hd8.size)
                  refine hK.out _ _ (HS.out _ hd9) (fun hS6 => ?_)
                  clear hK K
                  try simp only [Act.put, List.setIfInBounds_toArray, List.set_cons_zero, List.set_cons_succ]
                  refine wpAnyH_take (i := 27) (v := .bool false) rfl (by kernel_rfl) (by kernel_rfl) (by kernel_rfl) (fun _ _ _ h => h) (.inl ⟨by kernel_rfl, fun W hW => by first | (go_simp; done) | (go_simp; omega)⟩) hS6 ?_
                  try simp only [Act.put, List.setIfInBounds_toArray]
                  refine wpAnyH_take (i := 28) (v := .bool false) rfl (by kernel_rfl) (by kernel_rfl) (by kernel_rfl) (fun _ _ _ h => h) (.inl ⟨by kernel_rfl, fun W hW => by kernel_rfl⟩) hS6 ?_
                  try simp only [Act.put]
                  refine wpAnyH_done (by kernel_rfl) ?_ _
                  go_wp2_with fail
                  go_roundw
                  case rel => exact ⟨i + 1, by omega, by go_num, HR.out _ hd9⟩
                  case measure => simp [intOf]; omega
                | false =>
                  by_cases h1 : i = 1
                  · have h1' : ((i : Int) == 1) = true := by simp [h1]
                    have h1'' : decide (i = 1) = true := by simp [h1]
                    rw [h1''] at MX
                    clear h1''
                    refine wp_region_held_drew (S := fun V => (V.cell? ⟨w.heap.size, 0, none⟩ = some (.int .i64 k) ∧ V.cell? ⟨w.heap.size, 1, none⟩ = some (.string s) ∧ V.cell? ⟨w.heap.size, 2, none⟩ = some (.int .i64 n) ∧ V.cell? ⟨w.heap.size, 3, none⟩ = some (.int .i64 a) ∧ V.cell? ⟨w.heap.size, 4, none⟩ = some (.slice A l.length c) ∧ V.cell? ⟨g2, 0, none⟩ = some (.int .i64 tk) ∧ V.cell? ⟨g2, 1, none⟩ = some (.string ts) ∧ V.cell? ⟨g2, 2, none⟩ = some (.int .i64 tn) ∧ V.cell? ⟨g2, 3, none⟩ = some (.int .i64 ta) ∧ V.cell? ⟨g2, 4, none⟩ = some (.slice A2 tl.length c2))) rfl hS0 (fun hS1 => ?_)
                    change wpAnyH _ _ _ _ _ 29 (Array.replicate 29 false) _ _
                    refine wpAnyH_take (i := 0) (v := .agg #[.int .i64 tk, .string ts, .int .i64 tn, .int .i64 ta, .slice A2 tl.length c2]) rfl (by kernel_rfl) (by kernel_rfl) (by kernel_rfl) (fun _ _ _ h => h) (.inl ⟨by kernel_rfl, fun W hW => by (obtain ⟨p0, p1, p2, p3, p4, q0, q1, q2, q3, q4⟩ := hW; go_simp)⟩) hS1 ?_
                    try simp only [Act.put, List.setIfInBounds_toArray]
                    refine wpAnyH_take (i := 2) (v := .bool true) rfl (by kernel_rfl) (by kernel_rfl) (by kernel_rfl) (fun _ _ _ h => h) (.inl ⟨by kernel_rfl, fun W hW => by kernel_rfl⟩) hS1 ?_
                    try simp only [Act.put]
                    refine wpAnyH_ready (rs := [1]) (by kernel_rfl) (by simp) (AllReadyH.cons rfl (fun K hK => ?_) AllReadyH.nil)
                    go_simp
                    refine (MX.out _ hX0).mono ?_
                    rintro e w5 ⟨rfl, hb5⟩
                    have hX5 := hX0.step hb5
                    have hA5 := hA0.step hb5
                    have hd5 := hd0.trans (hb5.mono hd0.size)
                    refine hK.out _ _ (HS.out _ hd5) (fun hS2 => ?_)
                    clear hK K
                    try simp only [Act.put, List.setIfInBounds_toArray, List.set_cons_zero, List.set_cons_succ]
                    refine wpAnyH_take (i := 3) (v := .bool true) rfl (by kernel_rfl) (by kernel_rfl) (by kernel_rfl) (fun _ _ _ h => h) (.inl ⟨by kernel_rfl, fun W hW => by kernel_rfl⟩) hS2 ?_
                    try simp only [Act.put, List.setIfInBounds_toArray]
                    refine wpAnyH_take (i := 4) (v := .bool false) rfl (by kernel_rfl) (by kernel_rfl) (by kernel_rfl) (fun _ _ _ h => h) (.inl ⟨by kernel_rfl, fun W hW => by kernel_rfl⟩) hS2 ?_
                    try simp only [Act.put]
                    refine wpAnyH_take (i := 5) (v := .bool false) rfl (by kernel_rfl) (by kernel_rfl) (by kernel_rfl) (fun _ _ _ h => h) (.inl ⟨by kernel_rfl, fun W hW => by kernel_rfl⟩) hS2 ?_
                    try simp only [Act.put]
                    refine wpAnyH_take (i := 6) (v := .int .i64 i) rfl (by kernel_rfl) (by kernel_rfl) (by kernel_rfl) (fun _ _ _ h => h) (.inl ⟨by kernel_rfl, fun W hW => by first | (go_simp; done) | (go_simp; omega)⟩) hS2 ?_
                    try simp only [Act.put]
                    refine wpAnyH_take (i := 7) (v := .bool true) rfl (by kernel_rfl) (by kernel_rfl) (by kernel_rfl) (fun _ _ _ h => h) (.inl ⟨by kernel_rfl, fun W hW => by first | (go_simp; done) | (go_simp; omega)⟩) hS2 ?_
                    try simp only [Act.put]
                    refine wpAnyH_take (i := 8) (v := .bool true) rfl (by kernel_rfl) (by kernel_rfl) (by kernel_rfl) (fun _ _ _ h => h) (.inl ⟨by kernel_rfl, fun W hW => by kernel_rfl⟩) hS2 ?_
                    try simp only [Act.put]
                    refine wpAnyH_take (i := 9) (v := .bool true) rfl (by kernel_rfl) (by kernel_rfl) (by kernel_rfl) (fun _ _ _ h => h) (.inl ⟨by kernel_rfl, fun W hW => by kernel_rfl⟩) hS2 ?_
                    try simp only [Act.put]
                    refine wpAnyH_take (i := 10) (v := undef) rfl (by kernel_rfl) (by kernel_rfl) (by kernel_rfl) (fun _ _ _ h => h) (.inr ⟨by kernel_rfl, rfl⟩) hS2 ?_
                    try simp only [Act.put]
                    refine wpAnyH_take (i := 11) (v := undef) rfl (by kernel_rfl) (by kernel_rfl) (by kernel_rfl) (fun _ _ _ h => h) (.inr ⟨by kernel_rfl, rfl⟩) hS2 ?_
                    try simp only [Act.put]
                    refine wpAnyH_take (i := 12) (v := .bool true) rfl (by kernel_rfl) (by kernel_rfl) (by kernel_rfl) (fun _ _ _ h => h) (.inl ⟨by kernel_rfl, fun W hW => by kernel_rfl⟩) hS2 ?_
                    try simp only [Act.put]
                    refine wpAnyH_take (i := 13) (v := .bool true) rfl (by kernel_rfl) (by kernel_rfl) (by kernel_rfl) (fun _ _ _ h => h) (.inl ⟨by kernel_rfl, fun W hW => by kernel_rfl⟩) hS2 ?_
                    try simp only [Act.put]
                    refine wpAnyH_take (i := 14) (v := .bool false) rfl (by kernel_rfl) (by kernel_rfl) (by kernel_rfl) (fun _ _ _ h => h) (.inl ⟨by kernel_rfl, fun W hW => by kernel_rfl⟩) hS2 ?_
                    try simp only [Act.put]
                    refine wpAnyH_take (i := 15) (v := .bool false) rfl (by kernel_rfl) (by kernel_rfl) (by kernel_rfl) (fun _ _ _ h => h) (.inl ⟨by kernel_rfl, fun W hW => by kernel_rfl⟩) hS2 ?_
                    try simp only [Act.put]
                    refine wpAnyH_take (i := 16) (v := .agg #[.int .i64 tk, .string ts, .int .i64 tn, .int .i64 ta, .slice A2 tl.length c2]) rfl (by kernel_rfl) (by kernel_rfl) (by kernel_rfl) (fun _ _ _ h => h) (.inl ⟨by kernel_rfl, fun W hW => by (obtain ⟨p0, p1, p2, p3, p4, q0, q1, q2, q3, q4⟩ := hW; go_simp)⟩) hS2 ?_
                    try simp only [Act.put]
                    refine wpAnyH_take (i := 18) (v := .agg #[.int .i64 k, .string s, .int .i64 n, .int .i64 a, .slice A l.length c]) rfl (by kernel_rfl) (by kernel_rfl) (by kernel_rfl) (fun _ _ _ h => h) (.inl ⟨by kernel_rfl, fun W hW => by (obtain ⟨p0, p1, p2, p3, p4, q0, q1, q2, q3, q4⟩ := hW; go_simp)⟩) hS2 ?_
                    try simp only [Act.put]
                    refine wpAnyH_ready (rs := [17]) (by kernel_rfl) (by simp) (AllReadyH.cons rfl (fun K hK => ?_) AllReadyH.nil)
                    go_simp
                    refine (MZX.out _ hX5).mono ?_
                    rintro e w6 ⟨rfl, hb6⟩
                    have hX6 := hX5.step hb6
                    have hA6 := hA5.step hb6
                    have hd6 := hd5.trans (hb6.mono hd5.size)
                    refine hK.out _ _ (HS.out _ hd6) (fun hS3 => ?_)
                    clear hK K
                    try simp only [Act.put, List.setIfInBounds_toArray, List.set_cons_zero, List.set_cons_succ]
                    refine wpAnyH_ready (rs := [19]) (by kernel_rfl) (by simp) (AllReadyH.cons rfl (fun K hK => ?_) AllReadyH.nil)
                    go_simp
                    refine (MZA.out _ hA6).mono ?_
                    rintro e w7 ⟨rfl, hb7⟩
                    have hX7 := hX6.step hb7
                    have hA7 := hA6.step hb7
                    have hd7 := hd6.trans (hb7.mono hd6.size)
                    refine hK.out _ _ (HS.out _ hd7) (fun hS4 => ?_)
                    clear hK K
                    try simp only [Act.put, List.setIfInBounds_toArray, List.set_cons_zero, List.set_cons_succ]
                    refine wpAnyH_take (i := 20) (v := .bool false) rfl (by kernel_rfl) (by kernel_rfl) (by kernel_rfl) (fun _ _ _ h => h) (.inl ⟨by kernel_rfl, fun W hW => by first | (go_simp; done) | (go_simp; omega)⟩) hS4 ?_
                    try simp only [Act.put, List.setIfInBounds_toArray]
                    refine wpAnyH_take (i := 21) (v := .bool false) rfl (by kernel_rfl) (by kernel_rfl) (by kernel_rfl) (fun _ _ _ h => h) (.inl ⟨by kernel_rfl, fun W hW => by kernel_rfl⟩) hS4 ?_
                    try simp only [Act.put]
                    refine wpAnyH_take (i := 22) (v := .bool false) rfl (by kernel_rfl) (by kernel_rfl) (by kernel_rfl) (fun _ _ _ h => h) (.inl ⟨by kernel_rfl, fun W hW => by kernel_rfl⟩) hS4 ?_
                    try simp only [Act.put]
                    refine wpAnyH_take (i := 23) (v := .agg #[.int .i64 tk, .string ts, .int .i64 tn, .int .i64 ta, .slice A2 tl.length c2]) rfl (by kernel_rfl) (by kernel_rfl) (by kernel_rfl) (fun _ _ _ h => h) (.inl ⟨by kernel_rfl, fun W hW => by (obtain ⟨p0, p1, p2, p3, p4, q0, q1, q2, q3, q4⟩ := hW; go_simp)⟩) hS4 ?_
                    try simp only [Act.put]
                    refine wpAnyH_take (i := 25) (v := .agg #[.int .i64 k, .string s, .int .i64 n, .int .i64 a, .slice A l.length c]) rfl (by kernel_rfl) (by kernel_rfl) (by kernel_rfl) (fun _ _ _ h => h) (.inl ⟨by kernel_rfl, fun W hW => by (obtain ⟨p0, p1, p2, p3, p4, q0, q1, q2, q3, q4⟩ := hW; go_simp)⟩) hS4 ?_
                    try simp only [Act.put]
                    refine wpAnyH_ready (rs := [24]) (by kernel_rfl) (by simp) (AllReadyH.cons rfl (fun K hK => ?_) AllReadyH.nil)
                    go_simp
                    refine (MDX.out _ hX7).mono ?_
                    rintro e w8 ⟨rfl, hb8⟩
                    have hA8 := hA7.step hb8
                    have hd8 := hd7.trans (hb8.mono hd7.size)
                    refine hK.out _ _ (HS.out _ hd8) (fun hS5 => ?_)
                    clear hK K
                    try simp only [Act.put, List.setIfInBounds_toArray, List.set_cons_zero, List.set_cons_succ]
                    refine wpAnyH_ready (rs := [26]) (by kernel_rfl) (by simp) (AllReadyH.cons rfl (fun K hK => ?_) AllReadyH.nil)
                    go_simp
                    refine (MDA.out _ hA8).mono ?_
                    rintro e w9 ⟨rfl, hb9⟩
                    have hd9 := hd8.trans (hb9.mono hd8.size)
                    refine hK.out _ _ (HS.out _ hd9) (fun hS6 => ?_)
                    clear hK K
                    try simp only [Act.put, List.setIfInBounds_toArray, List.set_cons_zero, List.set_cons_succ]
                    refine wpAnyH_take (i := 27) (v := .bool false) rfl (by kernel_rfl) (by kernel_rfl) (by kernel_rfl) (fun _ _ _ h => h) (.inl ⟨by kernel_rfl, fun W hW => by first | (go_simp; done) | (go_simp; omega)⟩) hS6 ?_
                    try simp only [Act.put, List.setIfInBounds_toArray]
                    refine wpAnyH_take (i := 28) (v := .bool false) rfl (by kernel_rfl) (by kernel_rfl) (by kernel_rfl) (fun _ _ _ h => h) (.inl ⟨by kernel_rfl, fun W hW => by kernel_rfl⟩) hS6 ?_
                    try simp only [Act.put]
                    refine wpAnyH_done (by kernel_rfl) ?_ _
                    go_wp2_with fail
                    go_roundw
                    case rel => exact ⟨i + 1, by omega, by go_num, HR.out _ hd9⟩
                    case measure => simp [intOf]; omega
                  · have h1' : ((i : Int) == 1) = false := by simp; omega
                    have h1'' : decide (i = 1) = false := by simp [h1]
                    rw [h1''] at MX
                    clear h1''
                    by_cases h3 : 3 < i
                    · have h3' : (3 : Int) < (i : Int) := by omega
                      have h3'' : decide (3 < i) = true := by simp [h3]
                      rw [h3''] at MX
                      clear h3''
                      refine wp_region_held_drew (S := fun V => (V.cell? ⟨w.heap.size, 0, none⟩ = some (.int .i64 k) ∧ V.cell? ⟨w.heap.size, 1, none⟩ = some (.string s) ∧ V.cell? ⟨w.heap.size, 2, none⟩ = some (.int .i64 n) ∧ V.cell? ⟨w.heap.size, 3, none⟩ = some (.int .i64 a) ∧ V.cell? ⟨w.heap.size, 4, none⟩ = some (.slice A l.length c) ∧ V.cell? ⟨g2, 0, none⟩ = some (.int .i64 tk) ∧ V.cell? ⟨g2, 1, none⟩ = some (.string ts) ∧ V.cell? ⟨g2, 2, none⟩ = some (.int .i64 tn) ∧ V.cell? ⟨g2, 3, none⟩ = some (.int .i64 ta) ∧ V.cell? ⟨g2, 4, none⟩ = some (.slice A2 tl.length c2))) rfl hS0 (fun hS1 => ?_)
                      change wpAnyH _ _ _ _ _ 29 (Array.replicate 29 false) _ _
                      refine wpAnyH_take (i := 0) (v := .agg #[.int .i64 tk, .string ts, .int .i64 tn, .int .i64 ta, .slice A2 tl.length c2]) rfl (by kernel_rfl) (by kernel_rfl) (by kernel_rfl) (fun _ _ _ h => h) (.inl ⟨by kernel_rfl, fun W hW => by (obtain ⟨p0, p1, p2, p3, p4, q0, q1, q2, q3, q4⟩ := hW; go_simp)⟩) hS1 ?_
                      try simp only [Act.put, List.setIfInBounds_toArray]
                      refine wpAnyH_take (i := 2) (v := .bool true) rfl (by kernel_rfl) (by kernel_rfl) (by kernel_rfl) (fun _ _ _ h => h) (.inl ⟨by kernel_rfl, fun W hW => by kernel_rfl⟩) hS1 ?_
                      try simp only [Act.put]
                      refine wpAnyH_ready (rs := [1]) (by kernel_rfl) (by simp) (AllReadyH.cons rfl (fun K hK => ?_) AllReadyH.nil)
                      go_simp
                      refine (MX.out _ hX0).mono ?_
                      rintro e w5 ⟨rfl, hb5⟩
                      have hX5 := hX0.step hb5
                      have hA5 := hA0.step hb5
                      have hd5 := hd0.trans (hb5.mono hd0.size)
                      refine hK.out _ _ (HS.out _ hd5) (fun hS2 => ?_)
                      clear hK K
                      try simp only [Act.put, List.setIfInBounds_toArray, List.set_cons_zero, List.set_cons_succ]
                      refine wpAnyH_take (i := 3) (v := .bool true) rfl (by kernel_rfl) (by kernel_rfl) (by kernel_rfl) (fun _ _ _ h => h) (.inl ⟨by kernel_rfl, fun W hW => by kernel_rfl⟩) hS2 ?_
                      try simp only [Act.put, List.setIfInBounds_toArray]
                      refine wpAnyH_take (i := 4) (v := .bool false) rfl (by kernel_rfl) (by kernel_rfl) (by kernel_rfl) (fun _ _ _ h => h) (.inl ⟨by kernel_rfl, fun W hW => by kernel_rfl⟩) hS2 ?_
                      try simp only [Act.put]
                      refine wpAnyH_take (i := 5) (v := .bool false) rfl (by kernel_rfl) (by kernel_rfl) (by kernel_rfl) (fun _ _ _ h => h) (.inl ⟨by kernel_rfl, fun W hW => by kernel_rfl⟩) hS2 ?_
                      try simp only [Act.put]
                      refine wpAnyH_take (i := 6) (v := .int .i64 i) rfl (by kernel_rfl) (by kernel_rfl) (by kernel_rfl) (fun _ _ _ h => h) (.inl ⟨by kernel_rfl, fun W hW => by first | (go_simp; done) | (go_simp; omega)⟩) hS2 ?_
                      try simp only [Act.put]
                      refine wpAnyH_take (i := 7) (v := .bool false) rfl (by kernel_rfl) (by kernel_rfl) (by kernel_rfl) (fun _ _ _ h => h) (.inl ⟨by kernel_rfl, fun W hW => by first | (go_simp; done) | (go_simp; omega)⟩) hS2 ?_
                      try simp only [Act.put]
                      refine wpAnyH_take (i := 8) (v := .bool false) rfl (by kernel_rfl) (by kernel_rfl) (by kernel_rfl) (fun _ _ _ h => h) (.inl ⟨by kernel_rfl, fun W hW => by kernel_rfl⟩) hS2 ?_
                      try simp only [Act.put]
                      refine wpAnyH_take (i := 9) (v := .bool false) rfl (by kernel_rfl) (by kernel_rfl) (by kernel_rfl) (fun _ _ _ h => h) (.inl ⟨by kernel_rfl, fun W hW => by kernel_rfl⟩) hS2 ?_
                      try simp only [Act.put]
                      refine wpAnyH_take (i := 10) (v := .int .i64 i) rfl (by kernel_rfl) (by kernel_rfl) (by kernel_rfl) (fun _ _ _ h => h) (.inl ⟨by kernel_rfl, fun W hW => by first | (go_simp; done) | (go_simp; omega)⟩) hS2 ?_
                      try simp only [Act.put]
                      refine wpAnyH_take (i := 11) (v := .bool true) rfl (by kernel_rfl) (by kernel_rfl) (by kernel_rfl) (fun _ _ _ h => h) (.inl ⟨by kernel_rfl, fun W hW => by first | (go_simp; done) | (go_simp; omega)⟩) hS2 ?_
                      try simp only [Act.put]
                      refine wpAnyH_take (i := 12) (v := .bool true) rfl (by kernel_rfl) (by kernel_rfl) (by kernel_rfl) (fun _ _ _ h => h) (.inl ⟨by kernel_rfl, fun W hW => by kernel_rfl⟩) hS2 ?_
                      try simp only [Act.put]
                      refine wpAnyH_take (i := 13) (v := .bool true) rfl (by kernel_rfl) (by kernel_rfl) (by kernel_rfl) (fun _ _ _ h => h) (.inl ⟨by kernel_rfl, fun W hW => by kernel_rfl⟩) hS2 ?_
                      try simp only [Act.put]
                      refine wpAnyH_take (i := 14) (v := .bool false) rfl (by kernel_rfl) (by kernel_rfl) (by kernel_rfl) (fun _ _ _ h => h) (.inl ⟨by kernel_rfl, fun W hW => by kernel_rfl⟩) hS2 ?_
                      try simp only [Act.put]
                      refine wpAnyH_take (i := 15) (v := .bool false) rfl (by kernel_rfl) (by kernel_rfl) (by kernel_rfl) (fun _ _ _ h => h) (.inl ⟨by kernel_rfl, fun W hW => by kernel_rfl⟩) hS2 ?_
                      try simp only [Act.put]
                      refine wpAnyH_take (i := 16) (v := .agg #[.int .i64 tk, .string ts, .int .i64 tn, .int .i64 ta, .slice A2 tl.length c2]) rfl (by kernel_rfl) (by kernel_rfl) (by kernel_rfl) (fun _ _ _ h => h) (.inl ⟨by kernel_rfl, fun W hW => by (obtain ⟨p0, p1, p2, p3, p4, q0, q1, q2, q3, q4⟩ := hW; go_simp)⟩) hS2 ?_
                      try simp only [Act.put]
                      refine wpAnyH_take (i := 18) (v := .agg #[.int .i64 k, .string s, .int .i64 n, .int .i64 a, .slice A l.length c]) rfl (by kernel_rfl) (by kernel_rfl) (by kernel_rfl) (fun _ _ _ h => h) (.inl ⟨by kernel_rfl, fun W hW => by (obtain ⟨p0, p1, p2, p3, p4, q0, q1, q2, q3, q4⟩ := hW; go_simp)⟩) hS2 ?_
                      try simp only [Act.put]
                      refine wpAnyH_ready (rs := [17]) (by kernel_rfl) (by simp) (AllReadyH.cons rfl (fun K hK => ?_) AllReadyH.nil)
                      go_simp
                      refine (MZX.out _ hX5).mono ?_
                      rintro e w6 ⟨rfl, hb6⟩
                      have hX6 := hX5.step hb6
                      have hA6 := hA5.step hb6
                      have hd6 := hd5.trans (hb6.mono hd5.size)
                      refine hK.out _ _ (HS.out _ hd6) (fun hS3 => ?_)
                      clear hK K
                      try simp only [Act.put, List.setIfInBounds_toArray, List.set_cons_zero, List.set_cons_succ]
                      refine wpAnyH_ready (rs := [19]) (by kernel_rfl) (by simp) (AllReadyH.cons rfl (fun K hK => ?_) AllReadyH.nil)
                      go_simp
                      refine (MZA.out _ hA6).mono ?_
                      rintro e w7 ⟨rfl, hb7⟩
                      have hX7 := hX6.step hb7
                      have hA7 := hA6.step hb7
                      have hd7 := hd6.trans (hb7.mono hd6.size)
                      refine hK.out _ _ (HS.out _ hd7) (fun hS4 => ?_)
                      clear hK K
                      try simp only [Act.put, List.setIfInBounds_toArray, List.set_cons_zero, List.set_cons_succ]
                      refine wpAnyH_take (i := 20) (v := .bool false) rfl (by kernel_rfl) (by kernel_rfl) (by kernel_rfl) (fun _ _ _ h => h) (.inl ⟨by kernel_rfl, fun W hW => by first | (go_simp; done) | (go_simp; omega)⟩) hS4 ?_
                      try simp only [Act.put, List.setIfInBounds_toArray]
                      refine wpAnyH_take (i := 21) (v := .bool false) rfl (by kernel_rfl) (by kernel_rfl) (by kernel_rfl) (fun _ _ _ h => h) (.inl ⟨by kernel_rfl, fun W hW => by kernel_rfl⟩) hS4 ?_
                      try simp only [Act.put]
                      refine wpAnyH_take (i := 22) (v := .bool false) rfl (by kernel_rfl) (by kernel_rfl) (by kernel_rfl) (fun _ _ _ h => h) (.inl ⟨by kernel_rfl, fun W hW => by kernel_rfl⟩) hS4 ?_
                      try simp only [Act.put]
                      refine wpAnyH_take (i := 23) (v := .agg #[.int .i64 tk, .string ts, .int .i64 tn, .int .i64 ta, .slice A2 tl.length c2]) rfl (by kernel_rfl) (by kernel_rfl) (by kernel_rfl) (fun _ _ _ h => h) (.inl ⟨by kernel_rfl, fun W hW => by (obtain ⟨p0, p1, p2, p3, p4, q0, q1, q2, q3, q4⟩ := hW; go_simp)⟩) hS4 ?_
                      try simp only [Act.put]
                      refine wpAnyH_take (i := 25) (v := .agg #[.int .i64 k, .string s, .int .i64 n, .int .i64 a, .slice A l.length c]) rfl (by kernel_rfl) (by kernel_rfl) (by kernel_rfl) (fun _ _ _ h => h) (.inl ⟨by kernel_rfl, fun W hW => by (obtain ⟨p0, p1, p2, p3, p4, q0, q1, q2, q3, q4⟩ := hW; go_simp)⟩) hS4 ?_
                      try simp only [Act.put]
                      refine wpAnyH_ready (rs := [24]) (by kernel_rfl) (by simp) (AllReadyH.cons rfl (fun K hK => ?_) AllReadyH.nil)
                      go_simp
                      refine (MDX.out _ hX7).mono ?_
                      rintro e w8 ⟨rfl, hb8⟩
                      have hA8 := hA7.step hb8
                      have hd8 := hd7.trans (hb8.mono hd7.size)
                      refine hK.out _ _ (HS.out _ hd8) (fun hS5 => ?_)
                      clear hK K
                      try simp only [Act.put, List.setIfInBounds_toArray, List.set_cons_zero, List.set_cons_succ]
                      refine wpAnyH_ready (rs := [26]) (by kernel_rfl) (by simp) (AllReadyH.cons rfl (fun K hK => ?_) AllReadyH.nil)
                      go_simp
                      refine (MDA.out _ hA8).mono ?_
                      rintro e w9 ⟨rfl, hb9⟩
                      have hd9 := hd8.trans (hb9.mono hd8.size)
                      refine hK.out _ _ (HS.out _ hd9) (fun hS6 => ?_)
                      clear hK K
                      try simp only [Act.put, List.setIfInBounds_toArray, List.set_cons_zero, List.set_cons_succ]
                      refine wpAnyH_take (i := 27) (v := .bool false) rfl (by kernel_rfl) (by kernel_rfl) (by kernel_rfl) (fun _ _ _ h => h) (.inl ⟨by kernel_rfl, fun W hW => by first | (go_simp; done) | (go_simp; omega)⟩) hS6 ?_
                      try simp only [Act.put, List.setIfInBounds_toArray]
                      refine wpAnyH_take (i := 28) (v := .bool false) rfl (by kernel_rfl) (by kernel_rfl) (by kernel_rfl) (fun _ _ _ h => h) (.inl ⟨by kernel_rfl, fun W hW => by kernel_rfl⟩) hS6 ?_
                      try simp only [Act.put]
                      refine wpAnyH_done (by kernel_rfl) ?_ _
                      go_wp2_with fail
                      go_roundw
                      case rel => exact ⟨i + 1, by omega, by go_num, HR.out _ hd9⟩
                      case measure => simp [intOf]; omega
                    · have h3' : ¬ (3 : Int) < (i : Int) := by omega
                      have h3'' : decide (3 < i) = false := by simp [h3]
                      rw [h3''] at MX
                      clear h3''
                      refine wp_region_held_drew (S := fun V => (V.cell? ⟨w.heap.size, 0, none⟩ = some (.int .i64 k) ∧ V.cell? ⟨w.heap.size, 1, none⟩ = some (.string s) ∧ V.cell? ⟨w.heap.size, 2, none⟩ = some (.int .i64 n) ∧ V.cell? ⟨w.heap.size, 3, none⟩ = some (.int .i64 a) ∧ V.cell? ⟨w.heap.size, 4, none⟩ = some (.slice A l.length c) ∧ V.cell? ⟨g2, 0, none⟩ = some (.int .i64 tk) ∧ V.cell? ⟨g2, 1, none⟩ = some (.string ts) ∧ V.cell? ⟨g2, 2, none⟩ = some (.int .i64 tn) ∧ V.cell? ⟨g2, 3, none⟩ = some (.int .i64 ta) ∧ V.cell? ⟨g2, 4, none⟩ = some (.slice A2 tl.length c2))) rfl hS0 (fun hS1 => ?_)
                      change wpAnyH _ _ _ _ _ 29 (Array.replicate 29 false) _ _
                      refine wpAnyH_take (i := 0) (v := .agg #[.int .i64 tk, .string ts, .int .i64 tn, .int .i64 ta, .slice A2 tl.length c2]) rfl (by kernel_rfl) (by kernel_rfl) (by kernel_rfl) (fun _ _ _ h => h) (.inl ⟨by kernel_rfl, fun W hW => by (obtain ⟨p0, p1, p2, p3, p4, q0, q1, q2, q3, q4⟩ := hW; go_simp)⟩) hS1 ?_
                      try simp only [Act.put, List.setIfInBounds_toArray]
                      refine wpAnyH_take (i := 2) (v := .bool true) rfl (by kernel_rfl) (by kernel_rfl) (by kernel_rfl) (fun _ _ _ h => h) (.inl ⟨by kernel_rfl, fun W hW => by kernel_rfl⟩) hS1 ?_
                      try simp only [Act.put]
                      refine wpAnyH_ready (rs := [1]) (by kernel_rfl) (by simp) (AllReadyH.cons rfl (fun K hK => ?_) AllReadyH.nil)
                      go_simp
                      refine (MX.out _ hX0).mono ?_
                      rintro e w5 ⟨rfl, hb5⟩
                      have hX5 := hX0.step hb5
                      have hA5 := hA0.step hb5
                      have hd5 := hd0.trans (hb5.mono hd0.size)
                      refine hK.out _ _ (HS.out _ hd5) (fun hS2 => ?_)
                      clear hK K
                      try simp only [Act.put, List.setIfInBounds_toArray, List.set_cons_zero, List.set_cons_succ]
                      refine wpAnyH_take (i := 3) (v := .bool true) rfl (by kernel_rfl) (by kernel_rfl) (by kernel_rfl) (fun _ _ _ h => h) (.inl ⟨by kernel_rfl, fun W hW => by kernel_rfl⟩) hS2 ?_
                      try simp only [Act.put, List.setIfInBounds_toArray]
                      refine wpAnyH_take (i := 4) (v := .bool false) rfl (by kernel_rfl) (by kernel_rfl) (by kernel_rfl) (fun _ _ _ h => h) (.inl ⟨by kernel_rfl, fun W hW => by kernel_rfl⟩) hS2 ?_
                      try simp only [Act.put]
                      refine wpAnyH_take (i := 5) (v := .bool false) rfl (by kernel_rfl) (by kernel_rfl) (by kernel_rfl) (fun _ _ _ h => h) (.inl ⟨by kernel_rfl, fun W hW => by kernel_rfl⟩) hS2 ?_
                      try simp only [Act.put]
                      refine wpAnyH_take (i := 6) (v := .int .i64 i) rfl (by kernel_rfl) (by kernel_rfl) (by kernel_rfl) (fun _ _ _ h => h) (.inl ⟨by kernel_rfl, fun W hW => by first | (go_simp; done) | (go_simp; omega)⟩) hS2 ?_
                      try simp only [Act.put]
                      refine wpAnyH_take (i := 7) (v := .bool false) rfl (by kernel_rfl) (by kernel_rfl) (by kernel_rfl) (fun _ _ _ h => h) (.inl ⟨by kernel_rfl, fun W hW => by first | (go_simp; done) | (go_simp; omega)⟩) hS2 ?_
                      try simp only [Act.put]
                      refine wpAnyH_take (i := 8) (v := .bool false) rfl (by kernel_rfl) (by kernel_rfl) (by kernel_rfl) (fun _ _ _ h => h) (.inl ⟨by kernel_rfl, fun W hW => by kernel_rfl⟩) hS2 ?_
                      try simp only [Act.put]
                      refine wpAnyH_take (i := 9) (v := .bool false) rfl (by kernel_rfl) (by kernel_rfl) (by kernel_rfl) (fun _ _ _ h => h) (.inl ⟨by kernel_rfl, fun W hW => by kernel_rfl⟩) hS2 ?_
                      try simp only [Act.put]
                      refine wpAnyH_take (i := 10) (v := .int .i64 i) rfl (by kernel_rfl) (by kernel_rfl) (by kernel_rfl) (fun _ _ _ h => h) (.inl ⟨by kernel_rfl, fun W hW => by first | (go_simp; done) | (go_simp; omega)⟩) hS2 ?_
                      try simp only [Act.put]
                      refine wpAnyH_take (i := 11) (v := .bool false) rfl (by kernel_rfl) (by kernel_rfl) (by kernel_rfl) (fun _ _ _ h => h) (.inl ⟨by kernel_rfl, fun W hW => by first | (go_simp; done) | (go_simp; omega)⟩) hS2 ?_
                      try simp only [Act.put]
                      refine wpAnyH_take (i := 12) (v := .bool false) rfl (by kernel_rfl) (by kernel_rfl) (by kernel_rfl) (fun _ _ _ h => h) (.inl ⟨by kernel_rfl, fun W hW => by kernel_rfl⟩) hS2 ?_
                      try simp only [Act.put]
                      refine wpAnyH_take (i := 13) (v := .bool false) rfl (by kernel_rfl) (by kernel_rfl) (by kernel_rfl) (fun _ _ _ h => h) (.inl ⟨by kernel_rfl, fun W hW => by kernel_rfl⟩) hS2 ?_
                      try simp only [Act.put]
                      refine wpAnyH_take (i := 14) (v := .bool false) rfl (by kernel_rfl) (by kernel_rfl) (by kernel_rfl) (fun _ _ _ h => h) (.inl ⟨by kernel_rfl, fun W hW => by kernel_rfl⟩) hS2 ?_
                      try simp only [Act.put]
                      refine wpAnyH_take (i := 15) (v := .bool false) rfl (by kernel_rfl) (by kernel_rfl) (by kernel_rfl) (fun _ _ _ h => h) (.inl ⟨by kernel_rfl, fun W hW => by kernel_rfl⟩) hS2 ?_
                      try simp only [Act.put]
                      refine wpAnyH_take (i := 16) (v := .agg #[.int .i64 tk, .string ts, .int .i64 tn, .int .i64 ta, .slice A2 tl.length c2]) rfl (by kernel_rfl) (by kernel_rfl) (by kernel_rfl) (fun _ _ _ h => h) (.inl ⟨by kernel_rfl, fun W hW => by (obtain ⟨p0, p1, p2, p3, p4, q0, q1, q2, q3, q4⟩ := hW; go_simp)⟩) hS2 ?_
                      try simp only [Act.put]
                      refine wpAnyH_take (i := 18) (v := .agg #[.int .i64 k, .string s, .int .i64 n, .int .i64 a, .slice A l.length c]) rfl (by kernel_rfl) (by kernel_rfl) (by kernel_rfl) (fun _ _ _ h => h) (.inl ⟨by kernel_rfl, fun W hW => by (obtain ⟨p0, p1, p2, p3, p4, q0, q1, q2, q3, q4⟩ := hW; go_simp)⟩) hS2 ?_
                      try simp only [Act.put]
                      refine wpAnyH_ready (rs := [17]) (by kernel_rfl) (by simp) (AllReadyH.cons rfl (fun K hK => ?_) AllReadyH.nil)
                      go_simp
                      refine (MZX.out _ hX5).mono ?_
                      rintro e w6 ⟨rfl, hb6⟩
                      have hX6 := hX5.step hb6
                      have hA6 := hA5.step hb6
                      have hd6 := hd5.trans (hb6.mono hd5.size)
                      refine hK.out _ _ (HS.out _ hd6) (fun hS3 => ?_)
                      clear hK K
                      try simp only [Act.put, List.setIfInBounds_toArray, List.set_cons_zero, List.set_cons_succ]
                      refine wpAnyH_ready (rs := [19]) (by kernel_rfl) (by simp) (AllReadyH.cons rfl (fun K hK => ?_) AllReadyH.nil)
                      go_simp
                      refine (MZA.out _ hA6).mono ?_
                      rintro e w7 ⟨rfl, hb7⟩
                      have hX7 := hX6.step hb7
                      have hA7 := hA6.step hb7
                      have hd7 := hd6.trans (hb7.mono hd6.size)
                      refine hK.out _ _ (HS.out _ hd7) (fun hS4 => ?_)
                      clear hK K
                      try simp only [Act.put, List.setIfInBounds_toArray, List.set_cons_zero, List.set_cons_succ]
                      refine wpAnyH_take (i := 20) (v := .bool false) rfl (by kernel_rfl) (by kernel_rfl) (by kernel_rfl) (fun _ _ _ h => h) (.inl ⟨by kernel_rfl, fun W hW => by first | (go_simp; done) | (go_simp; omega)⟩) hS4 ?_
                      try simp only [Act.put, List.setIfInBounds_toArray]
                      refine wpAnyH_take (i := 21) (v := .bool false) rfl (by kernel_rfl) (by kernel_rfl) (by kernel_rfl) (fun _ _ _ h => h) (.inl ⟨by kernel_rfl, fun W hW => by kernel_rfl⟩) hS4 ?_
                      try simp only [Act.put]
                      refine wpAnyH_take (i := 22) (v := .bool false) rfl (by kernel_rfl) (by kernel_rfl) (by kernel_rfl) (fun _ _ _ h => h) (.inl ⟨by kernel_rfl, fun W hW => by kernel_rfl⟩) hS4 ?_
                      try simp only [Act.put]
                      refine wpAnyH_take (i := 23) (v := .agg #[.int .i64 tk, .string ts, .int .i64 tn, .int .i64 ta, .slice A2 tl.length c2]) rfl (by kernel_rfl) (by kernel_rfl) (by kernel_rfl) (fun _ _ _ h => h) (.inl ⟨by kernel_rfl, fun W hW => by (obtain ⟨p0, p1, p2, p3, p4, q0, q1, q2, q3, q4⟩ := hW; go_simp)⟩) hS4 ?_
                      try simp only [Act.put]
                      refine wpAnyH_take (i := 25) (v := .agg #[.int .i64 k, .string s, .int .i64 n, .int .i64 a, .slice A l.length c]) rfl (by kernel_rfl) (by kernel_rfl) (by kernel_rfl) (fun _ _ _ h => h) (.inl ⟨by kernel_rfl, fun W hW => by (obtain ⟨p0, p1, p2, p3, p4, q0, q1, q2, q3, q4⟩ := hW; go_simp)⟩) hS4 ?_
                      try simp only [Act.put]
                      refine wpAnyH_ready (rs := [24]) (by kernel_rfl) (by simp) (AllReadyH.cons rfl (fun K hK => ?_) AllReadyH.nil)
                      go_simp
                      refine (MDX.out _ hX7).mono ?_
                      rintro e w8 ⟨rfl, hb8⟩
                      have hA8 := hA7.step hb8
                      have hd8 := hd7.trans (hb8.mono hd7.size)
                      refine hK.out _ _ (HS.out _ hd8) (fun hS5 => ?_)
                      clear hK K
                      try simp only [Act.put, List.setIfInBounds_toArray, List.set_cons_zero, List.set_cons_succ]
                      refine wpAnyH_ready (rs := [26]) (by kernel_rfl) (by simp) (AllReadyH.cons rfl (fun K hK => ?_) AllReadyH.nil)
                      go_simp
                      refine (MDA.out _ hA8).mono ?_
                      rintro e w9 ⟨rfl, hb9⟩
                      have hd9 := hd8.trans (hb9.mono hd8.size)
                      refine hK.out _ _ (HS.out _ hd9) (fun hS6 => ?_)
                      clear hK K
                      try simp only [Act.put, List.setIfInBounds_toArray, List.set_cons_zero, List.set_cons_succ]
                      refine wpAnyH_take (i := 27) (v := .bool false) rfl (by kernel_rfl) (by kernel_rfl) (by kernel_rfl) (fun _ _ _ h => h) (.inl ⟨by kernel_rfl, fun W hW => by first | (go_simp; done) | (go_simp; omega)⟩) hS6 ?_
                      try simp only [Act.put, List.setIfInBounds_toArray]
                      refine wpAnyH_take (i := 28) (v := .bool false) rfl (by kernel_rfl) (by kernel_rfl) (by kernel_rfl) (fun _ _ _ h => h) (.inl ⟨by kernel_rfl, fun W hW => by kernel_rfl⟩) hS6 ?_
                      try simp only [Act.put]
                      refine wpAnyH_done (by kernel_rfl) ?_ _
                      go_wp2_with fail
                      go_roundw
                      case rel => exact ⟨i + 1, by omega, by go_num, HR.out _ hd9⟩
                      case measure => simp [intOf]; omega
          · go_wp2_with fail
            go_ret
            exact ⟨rfl, hA.bw⟩
end Lx
end Go.Proofs.YtnljlocogfacfaaDoor
