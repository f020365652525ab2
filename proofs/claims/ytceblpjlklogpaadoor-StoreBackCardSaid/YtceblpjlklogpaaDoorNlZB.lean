/-
  The law StoreBack, walked.
-/
import Derived.Test.YtceblpjlklogpaaDoorC9
import Derived.Test.YtceblpjlklogpaaDoorNlZP
import Derived.Test.YtceblpjlklogpaaDoorC8
import Derived.Deep.DeepCutAuto
import Derived.Deep.RegionHeld3
namespace Go.Proofs.YtceblpjlklogpaaDoor
open Go Go.RowKit
namespace Lx
set_option maxRecDepth 100000
set_option maxHeartbeats 40000000 in
theorem storeBack_law (l : List Nd) (A : Option Addr) (m c : Nat) (cap : Int) (x : Nd) (B C : Option Addr) (b cx : Nat) (w : World) (hm : m = l.length) (hm2 : m ≤ 140737488351232) (hN : NdsIn w AnyB l A) (hI : NdIn w AnyB x B C) (hT : PTab w) :
    Calls Tryd.prog 3 #[.agg #[.slice A m c, .int .i64 cap], ndv x B b C cx] w fun e w' => e = .returned (.bool true) ∧ Below w.heap.size w w' := by
  obtain ⟨ma, hma⟩ : ∃ q, q = x.alts.length := ⟨_, rfl⟩
  obtain ⟨mt, hmt⟩ : ∃ q, q = x.to.length := ⟨_, rfl⟩
  unfold ndv
  rw [← hma, ← hmt]
  have HMA := Lib.hid hma
  have HMT := Lib.hid hmt
  have HI := Lib.hid hI
  clear hma hmt hI
  obtain ⟨W, hW⟩ : ∃ W, W = ((w.alloc (.cells #[.slice A m c, .int .i64 cap] 24)).alloc (.cells #[.int .i64 x.kind, .int .i64 x.level, .int .i64 x.n, .string x.name, .slice B ma (capN ma b), .slice C mt (capN mt cx)] 28)) := ⟨_, rfl⟩
  have hb : Below w.heap.size w W := by rw [hW]; exact (((Below.refl _ w).alloc (Nat.le_refl _) _).alloc (by simp) _)
  have BN : Hid (Lies W (w.heap.size) 24 #[.slice A m c, .int .i64 cap]) := Lib.hid (by rw [hW]; exact (Lies.old (Lies.new (w) 24 #[.slice A m c, .int .i64 cap]) _))
  have BX : Hid (Lies W (w.heap.size + 1) 28 #[.int .i64 x.kind, .int .i64 x.level, .int .i64 x.n, .string x.name, .slice B ma (capN ma b), .slice C mt (capN mt cx)]) := Lib.hid (by rw [hW]; exact (by simpa using Lies.new ((w).alloc (.cells #[.slice A m c, .int .i64 cap] 24)) 28 #[.int .i64 x.kind, .int .i64 x.level, .int .i64 x.n, .string x.name, .slice B ma (capN ma b), .slice C mt (capN mt cx)] : Lies _ (w.heap.size + 1) 28 #[.int .i64 x.kind, .int .i64 x.level, .int .i64 x.n, .string x.name, .slice B ma (capN ma b), .slice C mt (capN mt cx)]))
  have HN : Hid (NdsIn W AnyB l A) := Lib.hid (hN.below hb (Nat.le_refl _))
  have HB := Lib.hid hb
  have HM := Lib.hid hm
  have HT := Lib.hid hT
  clear hN hm hb hT
  go_enter Tryd.func3, Tryd.ntmps3
  go_upto_region 1 with fail
  rw [← hW]
  clear hW
  have HC1 := Lib.hid (fixed12_any W (HT.out.below HB.out (Nat.le_refl _)))
  go_wp2_with fail
  refine HC1.out.mono ?_
  rintro e V1 ⟨rfl, hb⟩
  clear  HC1
  replace BN := Lib.hid (BN.out.below hb BN.out.lt)
  replace BX := Lib.hid (BX.out.below hb BX.out.lt)
  replace HN := Lib.hid (HN.out.below hb (Nat.le_refl _))
  replace HB := Lib.hid (HB.out.trans (hb.mono HB.out.size))
  clear hb
  have HC2 := Lib.hid (small_any l A m c cap 150 V1 HM.out hm2 HN.out.any)
  obtain ⟨BNc0, BNc1⟩ := two_cells BN.out
  go_wp2_with fail
  refine HC2.out.mono ?_
  rintro e V2 ⟨rfl, hb⟩
  clear BNc0 BNc1 HC2
  replace BN := Lib.hid (BN.out.below hb BN.out.lt)
  replace BX := Lib.hid (BX.out.below hb BX.out.lt)
  replace HN := Lib.hid (HN.out.below hb (Nat.le_refl _))
  replace HB := Lib.hid (HB.out.trans (hb.mono HB.out.size))
  clear hb
  cases hs : smallV l 150 with
  | false =>
    have HC3 := Lib.hid (fixed12_any V2 (HT.out.below HB.out (Nat.le_refl _)))
    go_wp2_with fail
    refine HC3.out.mono ?_
    rintro e V3 ⟨rfl, hb⟩
    clear  HC3
    replace BN := Lib.hid (BN.out.below hb BN.out.lt)
    replace BX := Lib.hid (BX.out.below hb BX.out.lt)
    replace HN := Lib.hid (HN.out.below hb (Nat.le_refl _))
    replace HB := Lib.hid (HB.out.trans (hb.mono HB.out.size))
    clear hb
    go_wp2_with fail
    go_ret
    exact ⟨rfl, HB.out⟩
  | true =>
    obtain ⟨hm150', hfew, hfa⟩ := small_nl hs
    have hm150 : m ≤ 150 := by have := HM.out; omega
    have HF9 := Lib.hid hfew
    have HFA := Lib.hid hfa
    clear hs hm150' hfew hfa
    obtain ⟨ck, hck0⟩ : ∃ q, q = checkV l cap := ⟨_, rfl⟩
    have HCK := Lib.hid hck0
    clear hck0
    cases ck with
    | false =>
      have HC4 := Lib.hid (show Calls Tryd.prog 10 _ _ (fun e w' => e = .returned (.int .i64 120) ∧ Below V2.heap.size V2 w') from by
        have h := rcheck_any l A m c cap V2 HM.out hm2 HN.out.any
        rw [checkI, ← HCK.out] at h
        simpa using h)
      obtain ⟨BNc0, BNc1⟩ := two_cells BN.out
      go_wp2_with fail
      refine HC4.out.mono ?_
      rintro e V4 ⟨rfl, hb⟩
      clear BNc0 BNc1 HC4
      replace BN := Lib.hid (BN.out.below hb BN.out.lt)
      replace BX := Lib.hid (BX.out.below hb BX.out.lt)
      replace HN := Lib.hid (HN.out.below hb (Nat.le_refl _))
      replace HB := Lib.hid (HB.out.trans (hb.mono HB.out.size))
      clear hb
      have HC5 := Lib.hid (fixed12_any V4 (HT.out.below HB.out (Nat.le_refl _)))
      go_wp2_with fail
      refine HC5.out.mono ?_
      rintro e V5 ⟨rfl, hb⟩
      clear  HC5
      replace BN := Lib.hid (BN.out.below hb BN.out.lt)
      replace BX := Lib.hid (BX.out.below hb BX.out.lt)
      replace HN := Lib.hid (HN.out.below hb (Nat.le_refl _))
      replace HB := Lib.hid (HB.out.trans (hb.mono HB.out.size))
      clear hb
      go_wp2_with fail
      go_ret
      exact ⟨rfl, HB.out⟩
    | true =>
      have HC6 := Lib.hid (show Calls Tryd.prog 10 _ _ (fun e w' => e = .returned (.int .i64 0) ∧ Below V2.heap.size V2 w') from by
        have h := rcheck_any l A m c cap V2 HM.out hm2 HN.out.any
        rw [checkI, ← HCK.out] at h
        simpa using h)
      obtain ⟨BNc0, BNc1⟩ := two_cells BN.out
      go_wp2_with fail
      refine HC6.out.mono ?_
      rintro e V6 ⟨rfl, hb⟩
      clear BNc0 BNc1 HC6
      replace BN := Lib.hid (BN.out.below hb BN.out.lt)
      replace BX := Lib.hid (BX.out.below hb BX.out.lt)
      replace HN := Lib.hid (HN.out.below hb (Nat.le_refl _))
      replace HB := Lib.hid (HB.out.trans (hb.mono HB.out.size))
      clear hb
      by_cases k1 : 20 < mt
      · have ek1 : decide (20 < (mt : Int)) = true := decide_eq_true (by omega)
        have HC7 := Lib.hid (fixed12_any V6 (HT.out.below HB.out (Nat.le_refl _)))
        obtain ⟨BXc0, BXc1, BXc2, BXc3, BXc4, BXc5⟩ := six_cells BX.out
        go_wp2_with fail
        refine HC7.out.mono ?_
        rintro e V7 ⟨rfl, hb⟩
        clear BXc0 BXc1 BXc2 BXc3 BXc4 BXc5 HC7
        replace BN := Lib.hid (BN.out.below hb BN.out.lt)
        replace BX := Lib.hid (BX.out.below hb BX.out.lt)
        replace HN := Lib.hid (HN.out.below hb (Nat.le_refl _))
        replace HB := Lib.hid (HB.out.trans (hb.mono HB.out.size))
        clear hb
        go_wp2_with fail
        go_ret
        exact ⟨rfl, HB.out⟩
      · have ek1 : decide (20 < (mt : Int)) = false := decide_eq_false (by omega)
        by_cases k2 : 20 < ma
        · have ek2 : decide (20 < (ma : Int)) = true := decide_eq_true (by omega)
          have HC8 := Lib.hid (fixed12_any V6 (HT.out.below HB.out (Nat.le_refl _)))
          obtain ⟨BXc0, BXc1, BXc2, BXc3, BXc4, BXc5⟩ := six_cells BX.out
          go_wp2_with fail
          refine HC8.out.mono ?_
          rintro e V8 ⟨rfl, hb⟩
          clear BXc0 BXc1 BXc2 BXc3 BXc4 BXc5 HC8
          replace BN := Lib.hid (BN.out.below hb BN.out.lt)
          replace BX := Lib.hid (BX.out.below hb BX.out.lt)
          replace HN := Lib.hid (HN.out.below hb (Nat.le_refl _))
          replace HB := Lib.hid (HB.out.trans (hb.mono HB.out.size))
          clear hb
          go_wp2_with fail
          go_ret
          exact ⟨rfl, HB.out⟩
        · have ek2 : decide (20 < (ma : Int)) = false := decide_eq_false (by omega)
          by_cases k3 : x.kind < 2
          · have ek3 : decide (x.kind < 2) = true := decide_eq_true (by omega)
            have HC9 := Lib.hid (fixed12_any V6 (HT.out.below HB.out (Nat.le_refl _)))
            obtain ⟨BXc0, BXc1, BXc2, BXc3, BXc4, BXc5⟩ := six_cells BX.out
            go_wp2_with fail
            refine HC9.out.mono ?_
            rintro e V9 ⟨rfl, hb⟩
            clear BXc0 BXc1 BXc2 BXc3 BXc4 BXc5 HC9
            replace BN := Lib.hid (BN.out.below hb BN.out.lt)
            replace BX := Lib.hid (BX.out.below hb BX.out.lt)
            replace HN := Lib.hid (HN.out.below hb (Nat.le_refl _))
            replace HB := Lib.hid (HB.out.trans (hb.mono HB.out.size))
            clear hb
            go_wp2_with fail
            go_ret
            exact ⟨rfl, HB.out⟩
          · have ek3 : decide (x.kind < 2) = false := decide_eq_false (by omega)
            cases hv : nodeV x with
            | false =>
              have HC10 := Lib.hid (show Calls Tryd.prog 11 #[.agg #[.int .i64 x.kind, .int .i64 x.level, .int .i64 x.n, .string x.name, .slice B ma (capN ma b), .slice C mt (capN mt cx)]] V6 (fun e w' => e = .returned (.bool false) ∧ Below V6.heap.size V6 w') from by
                have h := rnode_any x B C b cx V6 (HI.out.below HB.out (Nat.le_refl _))
                rw [hv] at h
                rw [HMA.out, HMT.out]
                exact h)
              obtain ⟨BXc0, BXc1, BXc2, BXc3, BXc4, BXc5⟩ := six_cells BX.out
              go_wp2_with fail
              refine HC10.out.mono ?_
              rintro e V10 ⟨rfl, hb⟩
              clear BXc0 BXc1 BXc2 BXc3 BXc4 BXc5 HC10
              replace BN := Lib.hid (BN.out.below hb BN.out.lt)
              replace BX := Lib.hid (BX.out.below hb BX.out.lt)
              replace HN := Lib.hid (HN.out.below hb (Nat.le_refl _))
              replace HB := Lib.hid (HB.out.trans (hb.mono HB.out.size))
              clear hb
              have HC11 := Lib.hid (fixed12_any V10 (HT.out.below HB.out (Nat.le_refl _)))
              go_wp2_with fail
              refine HC11.out.mono ?_
              rintro e V11 ⟨rfl, hb⟩
              clear  HC11
              replace BN := Lib.hid (BN.out.below hb BN.out.lt)
              replace BX := Lib.hid (BX.out.below hb BX.out.lt)
              replace HN := Lib.hid (HN.out.below hb (Nat.le_refl _))
              replace HB := Lib.hid (HB.out.trans (hb.mono HB.out.size))
              clear hb
              go_wp2_with fail
              go_ret
              exact ⟨rfl, HB.out⟩
            | true =>
              have HC12 := Lib.hid (show Calls Tryd.prog 11 #[.agg #[.int .i64 x.kind, .int .i64 x.level, .int .i64 x.n, .string x.name, .slice B ma (capN ma b), .slice C mt (capN mt cx)]] V6 (fun e w' => e = .returned (.bool true) ∧ Below V6.heap.size V6 w') from by
                have h := rnode_any x B C b cx V6 (HI.out.below HB.out (Nat.le_refl _))
                rw [hv] at h
                rw [HMA.out, HMT.out]
                exact h)
              obtain ⟨BXc0, BXc1, BXc2, BXc3, BXc4, BXc5⟩ := six_cells BX.out
              go_wp2_with fail
              refine HC12.out.mono ?_
              rintro e V12 ⟨rfl, hb⟩
              clear BXc0 BXc1 BXc2 BXc3 BXc4 BXc5 HC12
              replace BN := Lib.hid (BN.out.below hb BN.out.lt)
              replace BX := Lib.hid (BX.out.below hb BX.out.lt)
              replace HN := Lib.hid (HN.out.below hb (Nat.le_refl _))
              replace HB := Lib.hid (HB.out.trans (hb.mono HB.out.size))
              clear hb
              have HV := Lib.hid hv
              clear hv ek1 ek2 ek3
              have hck := HCK.out.symm
              have HCH := Lib.hid hck
              obtain ⟨hpos0, hcap0⟩ := check_pos hck
              have hpos : 0 < m := by have := HM.out; omega
              have hpp := ports_pos HV.out (by omega)
              have hal8 := node_lens HV.out
              have HMK : Hid (makeable x = true) := Lib.hid (by simp only [makeable, HV.out, Bool.and_true, decide_eq_true_eq]; omega)
              obtain ⟨un, hun⟩ : ∃ q, q = usedV l := ⟨_, rfl⟩
              have hun2 : un ≤ 150 := by have := usedV_le l; have := HM.out; omega
              have HUN := Lib.hid hun
              clear hck hpos0 hcap0 hun
              by_cases hu : (usedV l : Int) < cap
              · skip
                have hk1 := (at_node (node_of HCH.out 0 (by have := HM.out; omega))).2.2.1.1 rfl
                obtain ⟨ms, i, f1, f2, f3, f4, f5, f6, f7, f8, f9, f10⟩ := make_ok (x := x) HMK.out hu
                have hi0 : 0 < i := by
                  rcases Nat.eq_zero_or_pos i with e | e
                  · rw [e, hk1] at f4; exact absurd f4 (by decide)
                  · exact e
                have hbk := back_ok HCH.out f4 f2 (by rw [f5, fresh_kind]; have := hpp; omega) f8
                have hfm : ∀ q, q < ms.length → (ndAt ms q).to.length ≤ 100000 ∧ (ndAt ms q).alts.length ≤ 100000 := fun q hq => by
                  by_cases e : q = i
                  · rw [e, f5]
                    simp only [freshV, List.length_replicate]
                    omega
                  · obtain ⟨g1, g2⟩ := f6 q e hq
                    rw [g2]
                    exact HF9.out q g1
                obtain ⟨mi, hmi⟩ : ∃ q, q = ms.length := ⟨_, rfl⟩
                have him : i < mi := by omega
                have hmi2 : mi ≤ 152 := by
                  rcases Nat.lt_or_ge ms.length (l.length + 2) with h9 | h9
                  · have := HM.out; omega
                  · exfalso
                    obtain ⟨h10, _⟩ := f6 (ms.length - 1) (by omega) (by omega)
                    omega
                have HMI := Lib.hid hmi
                have HF1 := Lib.hid f1
                have HF4 := Lib.hid f4
                have HF5 := Lib.hid f5
                have HF6 := Lib.hid f6
                have HF7 := Lib.hid f7
                have HBK := Lib.hid hbk
                have HFM := Lib.hid hfm
                have hu2 : decide ((un : Int) < cap) = true := decide_eq_true (by rw [HUN.out]; exact hu)
                have hu3 : decide (cap < (un : Int) + 1) = false := decide_eq_false (by have := HUN.out; omega)
                clear hk1 f1 f2 f3 f4 f5 f6 f7 f8 f9 f10 hbk hfm hmi hu
                have HC13 := Lib.hid (show Calls Tryd.prog 12 #[.agg #[.slice A m c, .int .i64 cap], .agg #[.int .i64 x.kind, .int .i64 x.level, .int .i64 x.n, .string x.name, .slice B ma (capN ma b), .slice C mt (capN mt cx)]] V12 (fun e w' => ∃ A c, e = .returned (.tuple #[.agg #[.slice A mi c, .int .i64 cap], .int .i64 (i : Int), .int .i64 0]) ∧ NdsIn w' AnyB ms A ∧ Below V12.heap.size V12 w') from by
                  have h := make_any l A m c cap x B C b cx V12 HM.out hpos (by omega) HF9.out HN.out.any (HI.out.below HB.out (Nat.le_refl _)) (by omega) (by omega) (HT.out.below HB.out (Nat.le_refl _))
                  rw [HF1.out] at h
                  rw [HMA.out, HMT.out]
                  refine h.mono ?_
                  rintro e w' ⟨A', d, rfl, hn, hb⟩
                  rw [HMI.out]
                  exact ⟨A', _, rfl, hn.any, hb⟩)
                obtain ⟨BNc0, BNc1⟩ := two_cells BN.out
                obtain ⟨BXc0, BXc1, BXc2, BXc3, BXc4, BXc5⟩ := six_cells BX.out
                go_wp2_with fail
                refine HC13.out.mono ?_
                rintro e V13 ⟨A5, c5, rfl, hn, hb⟩
                clear BNc0 BNc1 BXc0 BXc1 BXc2 BXc3 BXc4 BXc5 HC13
                replace BN := Lib.hid (BN.out.below hb BN.out.lt)
                replace BX := Lib.hid (BX.out.below hb BX.out.lt)
                replace HN := Lib.hid (HN.out.below hb (Nat.le_refl _))
                replace HB := Lib.hid (HB.out.trans (hb.mono HB.out.size))
                clear hb
                have H5 := Lib.hid hn
                clear hn
                go_upto_region 4 with fail
                obtain ⟨V14, hV14⟩ : ∃ V, V = V13.alloc (.cells #[.slice A5 mi c5, .int .i64 cap] 24) := ⟨_, rfl⟩
                obtain ⟨B5b, hB5b⟩ : ∃ B, B = V13.heap.size := ⟨_, rfl⟩
                have hb : Below V13.heap.size V13 V14 := by rw [hV14]; exact (Below.refl _ _).alloc (Nat.le_refl _) _
                have B5 : Hid (Lies V14 B5b 24 #[.slice A5 mi c5, .int .i64 cap]) := Lib.hid (by rw [hV14, hB5b]; exact Lies.new _ _ _)
                rw [← hV14, ← hB5b]
                clear hV14 hB5b
                replace BN := Lib.hid (BN.out.below hb BN.out.lt)
                replace BX := Lib.hid (BX.out.below hb BX.out.lt)
                replace HN := Lib.hid (HN.out.below hb (Nat.le_refl _))
                replace H5 := Lib.hid (H5.out.below hb (Nat.le_refl _))
                replace HB := Lib.hid (HB.out.trans (hb.mono HB.out.size))
                clear hb
                go_upto_region 4 with fail
                obtain ⟨BNc0, BNc1⟩ := two_cells BN.out
                replace BNc0 := Abv.cell BNc0
                replace BNc1 := Abv.cell BNc1
                have HU : ∀ V : Abv V14, Calls Tryd.prog 13 #[.agg #[.slice A m c, .int .i64 cap]] V.1 fun e w' => e = .returned (.int .i64 un) ∧ Below V.1.heap.size V.1 w' := fun V => by
                  rw [HUN.out]
                  exact rused_any l A m c cap V.1 HM.out hm2 (HN.out.any.below V.2 (Nat.le_refl _))
                refine region_calm (by kernel_rfl) (by kernel_rfl) ?_
                repeat (go_big_quiet_step (fail))
                go_big_quiet_step (exact calm_of (HU _))
                repeat (go_big_quiet_step (fail))
                refine wpQuiet_nil ?_
                rintro _ ⟨V, rfl⟩
                obtain ⟨U4, hb⟩ := V
                dsimp only
                clear BNc0 BNc1 HU
                replace BN := Lib.hid (BN.out.below hb BN.out.lt)
                replace BX := Lib.hid (BX.out.below hb BX.out.lt)
                replace B5 := Lib.hid (B5.out.below hb B5.out.lt)
                replace HN := Lib.hid (HN.out.below hb (Nat.le_refl _))
                replace H5 := Lib.hid (H5.out.below hb (Nat.le_refl _))
                replace HB := Lib.hid (HB.out.trans (hb.mono HB.out.size))
                clear hb
                go_upto_region 8 with fail
                clear hu2
                obtain ⟨g, o, y, By, by_, Cy, cy, hy, hA9, _, ⟨y0, y1, y2, y3, y4, y5⟩, hIy⟩ := NdsIn.get H5.out i (by have := HMI.out; omega)
                have hyk : y.kind = x.kind := by rw [hy, HF5.out, fresh_kind]
                rw [hyk] at y0
                subst hA9
                clear y1 y2 y3 y4 y5 hIy hy hyk
                replace y0 := Abv.cell y0
                by_cases hil : i < m
                · skip
                  have hia : decide (i < m) = true := decide_eq_true (by omega)
                  obtain ⟨g2, o2, z, Bz, bz, Cz, cz, hz, hA9, _, ⟨z0, z1, z2, z3, z4, z5⟩, hIz⟩ := NdsIn.get HN.out i (by have := HM.out; omega)
                  have hzk : z.kind = 0 := by rw [hz, HF4.out]
                  rw [hzk] at z0
                  subst hA9
                  clear z1 z2 z3 z4 z5 hIz hz hzk
                  replace z0 := Abv.cell z0
                  obtain ⟨BNc0, BNc1⟩ := two_cells BN.out
                  obtain ⟨BXc0, BXc1, BXc2, BXc3, BXc4, BXc5⟩ := six_cells BX.out
                  obtain ⟨B5c0, B5c1⟩ := two_cells B5.out
                  replace BNc0 := Abv.cell BNc0
                  replace BNc1 := Abv.cell BNc1
                  replace BXc0 := Abv.cell BXc0
                  replace BXc1 := Abv.cell BXc1
                  replace BXc2 := Abv.cell BXc2
                  replace BXc3 := Abv.cell BXc3
                  replace BXc4 := Abv.cell BXc4
                  replace BXc5 := Abv.cell BXc5
                  replace B5c0 := Abv.cell B5c0
                  replace B5c1 := Abv.cell B5c1
                  have HUa : ∀ V : Abv U4, Calls Tryd.prog 15 #[.agg #[.slice (some ⟨g, o, none⟩) mi c5, .int .i64 cap]] V.1 fun e w' => e = .returned (.int .i64 ((un : Int) + 1)) ∧ Below V.1.heap.size V.1 w' := fun V => by
                    rw [show ((un : Int) + 1) = usedV ms by rw [HF7.out, HUN.out]; rfl]
                    exact used_any ms (some ⟨g, o, none⟩) mi c5 cap V.1 HMI.out (by omega) (H5.out.any.below V.2 (Nat.le_refl _))
                  have HUl : ∀ V : Abv U4, Calls Tryd.prog 15 #[.agg #[.slice (some ⟨g2, o2, none⟩) m c, .int .i64 cap]] V.1 fun e w' => e = .returned (.int .i64 un) ∧ Below V.1.heap.size V.1 w' := fun V => by
                    rw [HUN.out]
                    exact used_any l (some ⟨g2, o2, none⟩) m c cap V.1 HM.out (by omega) (HN.out.any.below V.2 (Nat.le_refl _))
                  have hi1 : decide ((i : Int) < 1) = false := decide_eq_false (by omega)
                  have hi2 : decide (mi ≤ i) = false := decide_eq_false (by omega)
                  have him2 : (i : Int) < (mi : Int) := by omega
                  have hxx : (x.kind == x.kind) = true := beq_self_eq_true _
                  refine region_calm (by kernel_rfl) (by kernel_rfl) ?_
                  repeat (go_big_quiet_step (fail))
                  go_big_quiet_step (exact calm_of (HUa _))
                  repeat (go_big_quiet_step (fail))
                  go_big_quiet_step (exact calm_of (HUl _))
                  repeat (go_big_quiet_step (fail))
                  go_big_quiet_step (exact calm_of (HUa _))
                  repeat (go_big_quiet_step (fail))
                  refine wpQuiet_nil ?_
                  rintro _ ⟨V, rfl⟩
                  obtain ⟨U8, hb⟩ := V
                  dsimp only
                  clear BNc0 BNc1 BXc0 BXc1 BXc2 BXc3 BXc4 BXc5 B5c0 B5c1 HUa HUl hi1 hi2 hxx hu3 y0 hia z0
                  replace BN := Lib.hid (BN.out.below hb BN.out.lt)
                  replace BX := Lib.hid (BX.out.below hb BX.out.lt)
                  replace B5 := Lib.hid (B5.out.below hb B5.out.lt)
                  replace HN := Lib.hid (HN.out.below hb (Nat.le_refl _))
                  replace H5 := Lib.hid (H5.out.below hb (Nat.le_refl _))
                  replace HB := Lib.hid (HB.out.trans (hb.mono HB.out.size))
                  clear hb
                  have q5 := (two_cells B5.out).1
                  have hlt5 := B5.out.lt
                  go_wp2_with fail
                  go_loopw [8] (fun v wr => ∃ j : Nat, j ≤ mi ∧ v = .int .i64 j ∧ Below U8.heap.size U8 wr) (fun v _ => mi - (intOf v).toNat)
                  case atStart => exact ⟨0, Nat.zero_le _, rfl, Below.refl _ _⟩
                  case round =>
                    obtain ⟨j, hj, rfl, hbr⟩ := hrel
                    clear q5 hlt5
                    have hb := hbr
                    replace BN := Lib.hid (BN.out.below hbr BN.out.lt)
                    replace BX := Lib.hid (BX.out.below hbr BX.out.lt)
                    replace B5 := Lib.hid (B5.out.below hbr B5.out.lt)
                    replace HN := Lib.hid (HN.out.below hbr (Nat.le_refl _))
                    replace H5 := Lib.hid (H5.out.below hbr (Nat.le_refl _))
                    replace HB := Lib.hid (HB.out.trans (hbr.mono HB.out.size))
                    obtain ⟨BNc0, BNc1⟩ := two_cells BN.out
                    obtain ⟨B5c0, B5c1⟩ := two_cells B5.out
                    by_cases hlt : j < mi
                    · skip
                      go_upto_region 13 with fail
                      replace BNc0 := Abv.cell BNc0
                      replace BNc1 := Abv.cell BNc1
                      replace B5c0 := Abv.cell B5c0
                      replace B5c1 := Abv.cell B5c1
                      by_cases hji : j = i
                      · skip
                        subst hji
                        refine region_calm (by kernel_rfl) (by kernel_rfl) ?_
                        repeat (go_big_quiet_step (fail))
                        refine wpQuiet_nil ?_
                        rintro _ ⟨V, rfl⟩
                        obtain ⟨Uj, hbj⟩ := V
                        dsimp only
                        go_wp2_with fail
                        go_roundw
                        case rel =>
                          go_light
                          exact ⟨j + 1, by omega, by go_num, hb.trans (hbj.mono hb.size)⟩
                        case measure => simp [intOf]; omega
                      · skip
                        have hjz : ¬ ((j : Int) = (i : Int)) := by omega
                        have hje : ((j : Int) == (i : Int)) = false := by simpa using hjz
                        have hjn : ((j : Int) != (i : Int)) = true := by simpa using hjz
                        obtain ⟨hjl, hjs⟩ := HF6.out j hji (by have := HMI.out; omega)
                        have hjm : j < m := by have := HM.out; omega
                        have hjm2 : decide (m ≤ j) = false := decide_eq_false (by omega)
                        have hjm3 : (j : Int) < (m : Int) := by omega
                        have hji3 : (j : Int) < (mi : Int) := by omega
                        obtain ⟨g3, o3, u, Bu, bu, Cu, cu, hu, hA9, _, ⟨u0, u1, u2, u3, u4, u5⟩, hIu⟩ := NdsIn.get H5.out j (by have := HMI.out; omega)
                        obtain ⟨rfl, rfl⟩ : g = g3 ∧ o = o3 := by
                          injection hA9 with h1
                          injection h1 with h2 h3
                          exact ⟨h2, h3⟩
                        clear hA9
                        rw [hjs] at hu
                        obtain ⟨g4, o4, v, Bv, bv, Cv, cv, hv, hA9, _, ⟨v0, v1, v2, v3, v4, v5⟩, hIv⟩ := NdsIn.get HN.out j (by have := HM.out; omega)
                        obtain ⟨rfl, rfl⟩ : g2 = g4 ∧ o2 = o4 := by
                          injection hA9 with h1
                          injection h1 with h2 h3
                          exact ⟨h2, h3⟩
                        clear hA9
                        rw [← hv] at hu
                        subst hu
                        have HO9 : ∀ V : Abv wr, Calls Tryd.prog 16 #[.agg #[.int .i64 u.kind, .int .i64 u.level, .int .i64 u.n, .string u.name, .slice Bu u.alts.length (capN u.alts.length bu), .slice Cu u.to.length (capN u.to.length cu)], .agg #[.int .i64 u.kind, .int .i64 u.level, .int .i64 u.n, .string u.name, .slice Bv u.alts.length (capN u.alts.length bv), .slice Cv u.to.length (capN u.to.length cv)]] V.1 fun e w' => e = .returned (.bool true) ∧ Below V.1.heap.size V.1 w' := fun V => one_any u Bu Cu Bv Cv bu cu bv cv V.1 (hIu.any.below V.2 (Nat.le_refl _)) (hIv.any.below V.2 (Nat.le_refl _))
                        clear hv hjs hIu hIv
                        replace u0 := Abv.cell u0
                        replace v0 := Abv.cell v0
                        replace u1 := Abv.cell u1
                        replace v1 := Abv.cell v1
                        replace u2 := Abv.cell u2
                        replace v2 := Abv.cell v2
                        replace u3 := Abv.cell u3
                        replace v3 := Abv.cell v3
                        replace u4 := Abv.cell u4
                        replace v4 := Abv.cell v4
                        replace u5 := Abv.cell u5
                        replace v5 := Abv.cell v5
                        refine region_calm (by kernel_rfl) (by kernel_rfl) ?_
                        repeat (go_big_quiet_step (fail))
                        go_big_quiet_step (exact calm_of (HO9 _))
                        repeat (go_big_quiet_step (fail))
                        refine wpQuiet_nil ?_
                        rintro _ ⟨V, rfl⟩
                        obtain ⟨Uj, hbj⟩ := V
                        dsimp only
                        go_wp2_with fail
                        go_roundw
                        case rel =>
                          go_light
                          exact ⟨j + 1, by omega, by go_num, hb.trans (hbj.mono hb.size)⟩
                        case measure => simp [intOf]; omega
                    · skip
                      have hjn : j = mi := by omega
                      subst hjn
                      clear hb
                      obtain ⟨V9, hV9⟩ : ∃ V, V = wr := ⟨_, rfl⟩
                      rw [← hV9] at BN
                      rw [← hV9] at BX
                      rw [← hV9] at B5
                      rw [← hV9] at HN
                      rw [← hV9] at H5
                      rw [← hV9] at HB
                      rw [← hV9]
                      clear BNc0 BNc1 B5c0 B5c1 hV9
                      have HC15 := Lib.hid (show Calls Tryd.prog 17 _ _ (fun e w' => ∃ A c, e = .returned (.tuple #[.agg #[.slice A m c, .int .i64 cap], .int .i64 0]) ∧ NdsIn w' AnyB l A ∧ Below V9.heap.size V9 w') from by
                        have h := free_any ms (some ⟨g, o, none⟩) j c5 cap (i : Int) V9 HMI.out (by omega) (by omega) HFM.out H5.out.any
                        rw [HBK.out] at h
                        refine h.mono ?_
                        rintro e w' ⟨A', d, rfl, hn, hb⟩
                        rw [HM.out]
                        exact ⟨A', _, rfl, hn.any, hb⟩
                      )
                      obtain ⟨B5c0, B5c1⟩ := two_cells B5.out
                      go_wp2_with fail
                      refine HC15.out.mono ?_
                      rintro e V15 ⟨A9, c9, rfl, hn, hb⟩
                      clear B5c0 B5c1 HC15
                      replace BN := Lib.hid (BN.out.below hb BN.out.lt)
                      replace BX := Lib.hid (BX.out.below hb BX.out.lt)
                      replace B5 := Lib.hid (B5.out.below hb B5.out.lt)
                      replace HN := Lib.hid (HN.out.below hb (Nat.le_refl _))
                      replace H5 := Lib.hid (H5.out.below hb (Nat.le_refl _))
                      replace HB := Lib.hid (HB.out.trans (hb.mono HB.out.size))
                      clear hb
                      have H9 := Lib.hid hn
                      clear hn
                      go_upto_region 16 with fail
                      obtain ⟨V16, hV16⟩ : ∃ V, V = V15.alloc (.cells #[.slice A9 m c9, .int .i64 cap] 24) := ⟨_, rfl⟩
                      obtain ⟨B9b, hB9b⟩ : ∃ B, B = V15.heap.size := ⟨_, rfl⟩
                      have hb : Below V15.heap.size V15 V16 := by rw [hV16]; exact (Below.refl _ _).alloc (Nat.le_refl _) _
                      have B9 : Hid (Lies V16 B9b 24 #[.slice A9 m c9, .int .i64 cap]) := Lib.hid (by rw [hV16, hB9b]; exact Lies.new _ _ _)
                      rw [← hV16, ← hB9b]
                      clear hV16 hB9b
                      replace BN := Lib.hid (BN.out.below hb BN.out.lt)
                      replace BX := Lib.hid (BX.out.below hb BX.out.lt)
                      replace B5 := Lib.hid (B5.out.below hb B5.out.lt)
                      replace HN := Lib.hid (HN.out.below hb (Nat.le_refl _))
                      replace H5 := Lib.hid (H5.out.below hb (Nat.le_refl _))
                      replace H9 := Lib.hid (H9.out.below hb (Nat.le_refl _))
                      replace HB := Lib.hid (HB.out.trans (hb.mono HB.out.size))
                      clear hb
                      have HC17 := Lib.hid (same_any l A9 (some ⟨g2, o2, none⟩) m c9 c cap V16 HM.out (by omega) H9.out.any HN.out.any)
                      obtain ⟨BNc0, BNc1⟩ := two_cells BN.out
                      obtain ⟨B9c0, B9c1⟩ := two_cells B9.out
                      go_wp2_with fail
                      refine HC17.out.mono ?_
                      rintro e V17 ⟨rfl, hb⟩
                      clear BNc0 BNc1 B9c0 B9c1 HC17
                      replace BN := Lib.hid (BN.out.below hb BN.out.lt)
                      replace BX := Lib.hid (BX.out.below hb BX.out.lt)
                      replace B5 := Lib.hid (B5.out.below hb B5.out.lt)
                      replace B9 := Lib.hid (B9.out.below hb B9.out.lt)
                      replace HN := Lib.hid (HN.out.below hb (Nat.le_refl _))
                      replace H5 := Lib.hid (H5.out.below hb (Nat.le_refl _))
                      replace H9 := Lib.hid (H9.out.below hb (Nat.le_refl _))
                      replace HB := Lib.hid (HB.out.trans (hb.mono HB.out.size))
                      clear hb
                      go_wp2_with fail
                      go_ret
                      exact ⟨rfl, HB.out⟩
                · skip
                  have hia : decide (i < m) = false := decide_eq_false (by omega)
                  obtain ⟨BNc0, BNc1⟩ := two_cells BN.out
                  obtain ⟨BXc0, BXc1, BXc2, BXc3, BXc4, BXc5⟩ := six_cells BX.out
                  obtain ⟨B5c0, B5c1⟩ := two_cells B5.out
                  replace BNc0 := Abv.cell BNc0
                  replace BNc1 := Abv.cell BNc1
                  replace BXc0 := Abv.cell BXc0
                  replace BXc1 := Abv.cell BXc1
                  replace BXc2 := Abv.cell BXc2
                  replace BXc3 := Abv.cell BXc3
                  replace BXc4 := Abv.cell BXc4
                  replace BXc5 := Abv.cell BXc5
                  replace B5c0 := Abv.cell B5c0
                  replace B5c1 := Abv.cell B5c1
                  have HUa : ∀ V : Abv U4, Calls Tryd.prog 15 #[.agg #[.slice (some ⟨g, o, none⟩) mi c5, .int .i64 cap]] V.1 fun e w' => e = .returned (.int .i64 ((un : Int) + 1)) ∧ Below V.1.heap.size V.1 w' := fun V => by
                    rw [show ((un : Int) + 1) = usedV ms by rw [HF7.out, HUN.out]; rfl]
                    exact used_any ms (some ⟨g, o, none⟩) mi c5 cap V.1 HMI.out (by omega) (H5.out.any.below V.2 (Nat.le_refl _))
                  have HUl : ∀ V : Abv U4, Calls Tryd.prog 15 #[.agg #[.slice A m c, .int .i64 cap]] V.1 fun e w' => e = .returned (.int .i64 un) ∧ Below V.1.heap.size V.1 w' := fun V => by
                    rw [HUN.out]
                    exact used_any l A m c cap V.1 HM.out (by omega) (HN.out.any.below V.2 (Nat.le_refl _))
                  have hi1 : decide ((i : Int) < 1) = false := decide_eq_false (by omega)
                  have hi2 : decide (mi ≤ i) = false := decide_eq_false (by omega)
                  have him2 : (i : Int) < (mi : Int) := by omega
                  have hxx : (x.kind == x.kind) = true := beq_self_eq_true _
                  refine region_calm (by kernel_rfl) (by kernel_rfl) ?_
                  repeat (go_big_quiet_step (fail))
                  go_big_quiet_step (exact calm_of (HUa _))
                  repeat (go_big_quiet_step (fail))
                  go_big_quiet_step (exact calm_of (HUl _))
                  repeat (go_big_quiet_step (fail))
                  go_big_quiet_step (exact calm_of (HUa _))
                  repeat (go_big_quiet_step (fail))
                  refine wpQuiet_nil ?_
                  rintro _ ⟨V, rfl⟩
                  obtain ⟨U8, hb⟩ := V
                  dsimp only
                  clear BNc0 BNc1 BXc0 BXc1 BXc2 BXc3 BXc4 BXc5 B5c0 B5c1 HUa HUl hi1 hi2 hxx hu3 y0 hia
                  replace BN := Lib.hid (BN.out.below hb BN.out.lt)
                  replace BX := Lib.hid (BX.out.below hb BX.out.lt)
                  replace B5 := Lib.hid (B5.out.below hb B5.out.lt)
                  replace HN := Lib.hid (HN.out.below hb (Nat.le_refl _))
                  replace H5 := Lib.hid (H5.out.below hb (Nat.le_refl _))
                  replace HB := Lib.hid (HB.out.trans (hb.mono HB.out.size))
                  clear hb
                  have q5 := (two_cells B5.out).1
                  have hlt5 := B5.out.lt
                  go_wp2_with fail
                  go_loopw [8] (fun v wr => ∃ j : Nat, j ≤ mi ∧ v = .int .i64 j ∧ Below U8.heap.size U8 wr) (fun v _ => mi - (intOf v).toNat)
                  case atStart => exact ⟨0, Nat.zero_le _, rfl, Below.refl _ _⟩
                  case round =>
                    obtain ⟨j, hj, rfl, hbr⟩ := hrel
                    clear q5 hlt5
                    have hb := hbr
                    replace BN := Lib.hid (BN.out.below hbr BN.out.lt)
                    replace BX := Lib.hid (BX.out.below hbr BX.out.lt)
                    replace B5 := Lib.hid (B5.out.below hbr B5.out.lt)
                    replace HN := Lib.hid (HN.out.below hbr (Nat.le_refl _))
                    replace H5 := Lib.hid (H5.out.below hbr (Nat.le_refl _))
                    replace HB := Lib.hid (HB.out.trans (hbr.mono HB.out.size))
                    obtain ⟨BNc0, BNc1⟩ := two_cells BN.out
                    obtain ⟨B5c0, B5c1⟩ := two_cells B5.out
                    by_cases hlt : j < mi
                    · skip
                      go_upto_region 13 with fail
                      replace BNc0 := Abv.cell BNc0
                      replace BNc1 := Abv.cell BNc1
                      replace B5c0 := Abv.cell B5c0
                      replace B5c1 := Abv.cell B5c1
                      by_cases hji : j = i
                      · skip
                        subst hji
                        refine region_calm (by kernel_rfl) (by kernel_rfl) ?_
                        repeat (go_big_quiet_step (fail))
                        refine wpQuiet_nil ?_
                        rintro _ ⟨V, rfl⟩
                        obtain ⟨Uj, hbj⟩ := V
                        dsimp only
                        go_wp2_with fail
                        go_roundw
                        case rel =>
                          go_light
                          exact ⟨j + 1, by omega, by go_num, hb.trans (hbj.mono hb.size)⟩
                        case measure => simp [intOf]; omega
                      · skip
                        have hjz : ¬ ((j : Int) = (i : Int)) := by omega
                        have hje : ((j : Int) == (i : Int)) = false := by simpa using hjz
                        have hjn : ((j : Int) != (i : Int)) = true := by simpa using hjz
                        obtain ⟨hjl, hjs⟩ := HF6.out j hji (by have := HMI.out; omega)
                        have hjm : j < m := by have := HM.out; omega
                        have hjm2 : decide (m ≤ j) = false := decide_eq_false (by omega)
                        have hjm3 : (j : Int) < (m : Int) := by omega
                        have hji3 : (j : Int) < (mi : Int) := by omega
                        obtain ⟨g3, o3, u, Bu, bu, Cu, cu, hu, hA9, _, ⟨u0, u1, u2, u3, u4, u5⟩, hIu⟩ := NdsIn.get H5.out j (by have := HMI.out; omega)
                        obtain ⟨rfl, rfl⟩ : g = g3 ∧ o = o3 := by
                          injection hA9 with h1
                          injection h1 with h2 h3
                          exact ⟨h2, h3⟩
                        clear hA9
                        rw [hjs] at hu
                        obtain ⟨g4, o4, v, Bv, bv, Cv, cv, hv, hA9, _, ⟨v0, v1, v2, v3, v4, v5⟩, hIv⟩ := NdsIn.get HN.out j (by have := HM.out; omega)
                        subst hA9
                        rw [← hv] at hu
                        subst hu
                        have HO9 : ∀ V : Abv wr, Calls Tryd.prog 16 #[.agg #[.int .i64 u.kind, .int .i64 u.level, .int .i64 u.n, .string u.name, .slice Bu u.alts.length (capN u.alts.length bu), .slice Cu u.to.length (capN u.to.length cu)], .agg #[.int .i64 u.kind, .int .i64 u.level, .int .i64 u.n, .string u.name, .slice Bv u.alts.length (capN u.alts.length bv), .slice Cv u.to.length (capN u.to.length cv)]] V.1 fun e w' => e = .returned (.bool true) ∧ Below V.1.heap.size V.1 w' := fun V => one_any u Bu Cu Bv Cv bu cu bv cv V.1 (hIu.any.below V.2 (Nat.le_refl _)) (hIv.any.below V.2 (Nat.le_refl _))
                        clear hv hjs hIu hIv
                        replace u0 := Abv.cell u0
                        replace v0 := Abv.cell v0
                        replace u1 := Abv.cell u1
                        replace v1 := Abv.cell v1
                        replace u2 := Abv.cell u2
                        replace v2 := Abv.cell v2
                        replace u3 := Abv.cell u3
                        replace v3 := Abv.cell v3
                        replace u4 := Abv.cell u4
                        replace v4 := Abv.cell v4
                        replace u5 := Abv.cell u5
                        replace v5 := Abv.cell v5
                        refine region_calm (by kernel_rfl) (by kernel_rfl) ?_
                        repeat (go_big_quiet_step (fail))
                        go_big_quiet_step (exact calm_of (HO9 _))
                        repeat (go_big_quiet_step (fail))
                        refine wpQuiet_nil ?_
                        rintro _ ⟨V, rfl⟩
                        obtain ⟨Uj, hbj⟩ := V
                        dsimp only
                        go_wp2_with fail
                        go_roundw
                        case rel =>
                          go_light
                          exact ⟨j + 1, by omega, by go_num, hb.trans (hbj.mono hb.size)⟩
                        case measure => simp [intOf]; omega
                    · skip
                      have hjn : j = mi := by omega
                      subst hjn
                      clear hb
                      obtain ⟨V9, hV9⟩ : ∃ V, V = wr := ⟨_, rfl⟩
                      rw [← hV9] at BN
                      rw [← hV9] at BX
                      rw [← hV9] at B5
                      rw [← hV9] at HN
                      rw [← hV9] at H5
                      rw [← hV9] at HB
                      rw [← hV9]
                      clear BNc0 BNc1 B5c0 B5c1 hV9
                      have HC18 := Lib.hid (show Calls Tryd.prog 17 _ _ (fun e w' => ∃ A c, e = .returned (.tuple #[.agg #[.slice A m c, .int .i64 cap], .int .i64 0]) ∧ NdsIn w' AnyB l A ∧ Below V9.heap.size V9 w') from by
                        have h := free_any ms (some ⟨g, o, none⟩) j c5 cap (i : Int) V9 HMI.out (by omega) (by omega) HFM.out H5.out.any
                        rw [HBK.out] at h
                        refine h.mono ?_
                        rintro e w' ⟨A', d, rfl, hn, hb⟩
                        rw [HM.out]
                        exact ⟨A', _, rfl, hn.any, hb⟩
                      )
                      obtain ⟨B5c0, B5c1⟩ := two_cells B5.out
                      go_wp2_with fail
                      refine HC18.out.mono ?_
                      rintro e V18 ⟨A9, c9, rfl, hn, hb⟩
                      clear B5c0 B5c1 HC18
                      replace BN := Lib.hid (BN.out.below hb BN.out.lt)
                      replace BX := Lib.hid (BX.out.below hb BX.out.lt)
                      replace B5 := Lib.hid (B5.out.below hb B5.out.lt)
                      replace HN := Lib.hid (HN.out.below hb (Nat.le_refl _))
                      replace H5 := Lib.hid (H5.out.below hb (Nat.le_refl _))
                      replace HB := Lib.hid (HB.out.trans (hb.mono HB.out.size))
                      clear hb
                      have H9 := Lib.hid hn
                      clear hn
                      go_upto_region 16 with fail
                      obtain ⟨V19, hV19⟩ : ∃ V, V = V18.alloc (.cells #[.slice A9 m c9, .int .i64 cap] 24) := ⟨_, rfl⟩
                      obtain ⟨B9b, hB9b⟩ : ∃ B, B = V18.heap.size := ⟨_, rfl⟩
                      have hb : Below V18.heap.size V18 V19 := by rw [hV19]; exact (Below.refl _ _).alloc (Nat.le_refl _) _
                      have B9 : Hid (Lies V19 B9b 24 #[.slice A9 m c9, .int .i64 cap]) := Lib.hid (by rw [hV19, hB9b]; exact Lies.new _ _ _)
                      rw [← hV19, ← hB9b]
                      clear hV19 hB9b
                      replace BN := Lib.hid (BN.out.below hb BN.out.lt)
                      replace BX := Lib.hid (BX.out.below hb BX.out.lt)
                      replace B5 := Lib.hid (B5.out.below hb B5.out.lt)
                      replace HN := Lib.hid (HN.out.below hb (Nat.le_refl _))
                      replace H5 := Lib.hid (H5.out.below hb (Nat.le_refl _))
                      replace H9 := Lib.hid (H9.out.below hb (Nat.le_refl _))
                      replace HB := Lib.hid (HB.out.trans (hb.mono HB.out.size))
                      clear hb
                      have HC20 := Lib.hid (same_any l A9 A m c9 c cap V19 HM.out (by omega) H9.out.any HN.out.any)
                      obtain ⟨BNc0, BNc1⟩ := two_cells BN.out
                      obtain ⟨B9c0, B9c1⟩ := two_cells B9.out
                      go_wp2_with fail
                      refine HC20.out.mono ?_
                      rintro e V20 ⟨rfl, hb⟩
                      clear BNc0 BNc1 B9c0 B9c1 HC20
                      replace BN := Lib.hid (BN.out.below hb BN.out.lt)
                      replace BX := Lib.hid (BX.out.below hb BX.out.lt)
                      replace B5 := Lib.hid (B5.out.below hb B5.out.lt)
                      replace B9 := Lib.hid (B9.out.below hb B9.out.lt)
                      replace HN := Lib.hid (HN.out.below hb (Nat.le_refl _))
                      replace H5 := Lib.hid (H5.out.below hb (Nat.le_refl _))
                      replace H9 := Lib.hid (H9.out.below hb (Nat.le_refl _))
                      replace HB := Lib.hid (HB.out.trans (hb.mono HB.out.size))
                      clear hb
                      go_wp2_with fail
                      go_ret
                      exact ⟨rfl, HB.out⟩
              · skip
                have HF1 := Lib.hid (make_err HMK.out hu)
                have hu2 : decide ((un : Int) < cap) = false := decide_eq_false (by rw [HUN.out]; exact hu)
                clear hu
                have HC21 := Lib.hid (show Calls Tryd.prog 12 #[.agg #[.slice A m c, .int .i64 cap], .agg #[.int .i64 x.kind, .int .i64 x.level, .int .i64 x.n, .string x.name, .slice B ma (capN ma b), .slice C mt (capN mt cx)]] V12 (fun e w' => ∃ A c, e = .returned (.tuple #[.agg #[.slice A m c, .int .i64 cap], .int .i64 0, .int .i64 121]) ∧ NdsIn w' AnyB l A ∧ Below V12.heap.size V12 w') from by
                  have h := make_any l A m c cap x B C b cx V12 HM.out hpos (by omega) HF9.out HN.out.any (HI.out.below HB.out (Nat.le_refl _)) (by omega) (by omega) (HT.out.below HB.out (Nat.le_refl _))
                  rw [HF1.out] at h
                  rw [HMA.out, HMT.out]
                  refine h.mono ?_
                  rintro e w' ⟨A', d, rfl, hn, hb⟩
                  rw [HM.out]
                  exact ⟨A', _, rfl, hn.any, hb⟩)
                obtain ⟨BNc0, BNc1⟩ := two_cells BN.out
                obtain ⟨BXc0, BXc1, BXc2, BXc3, BXc4, BXc5⟩ := six_cells BX.out
                go_wp2_with fail
                refine HC21.out.mono ?_
                rintro e V21 ⟨A5, c5, rfl, hn, hb⟩
                clear BNc0 BNc1 BXc0 BXc1 BXc2 BXc3 BXc4 BXc5 HC21
                replace BN := Lib.hid (BN.out.below hb BN.out.lt)
                replace BX := Lib.hid (BX.out.below hb BX.out.lt)
                replace HN := Lib.hid (HN.out.below hb (Nat.le_refl _))
                replace HB := Lib.hid (HB.out.trans (hb.mono HB.out.size))
                clear hb
                have H5 := Lib.hid hn
                clear hn
                go_upto_region 4 with fail
                obtain ⟨V22, hV22⟩ : ∃ V, V = V21.alloc (.cells #[.slice A5 m c5, .int .i64 cap] 24) := ⟨_, rfl⟩
                obtain ⟨B5b, hB5b⟩ : ∃ B, B = V21.heap.size := ⟨_, rfl⟩
                have hb : Below V21.heap.size V21 V22 := by rw [hV22]; exact (Below.refl _ _).alloc (Nat.le_refl _) _
                have B5 : Hid (Lies V22 B5b 24 #[.slice A5 m c5, .int .i64 cap]) := Lib.hid (by rw [hV22, hB5b]; exact Lies.new _ _ _)
                rw [← hV22, ← hB5b]
                clear hV22 hB5b
                replace BN := Lib.hid (BN.out.below hb BN.out.lt)
                replace BX := Lib.hid (BX.out.below hb BX.out.lt)
                replace HN := Lib.hid (HN.out.below hb (Nat.le_refl _))
                replace H5 := Lib.hid (H5.out.below hb (Nat.le_refl _))
                replace HB := Lib.hid (HB.out.trans (hb.mono HB.out.size))
                clear hb
                go_upto_region 4 with fail
                obtain ⟨BNc0, BNc1⟩ := two_cells BN.out
                replace BNc0 := Abv.cell BNc0
                replace BNc1 := Abv.cell BNc1
                have HU : ∀ V : Abv V22, Calls Tryd.prog 13 #[.agg #[.slice A m c, .int .i64 cap]] V.1 fun e w' => e = .returned (.int .i64 un) ∧ Below V.1.heap.size V.1 w' := fun V => by
                  rw [HUN.out]
                  exact rused_any l A m c cap V.1 HM.out hm2 (HN.out.any.below V.2 (Nat.le_refl _))
                refine region_calm (by kernel_rfl) (by kernel_rfl) ?_
                repeat (go_big_quiet_step (fail))
                go_big_quiet_step (exact calm_of (HU _))
                repeat (go_big_quiet_step (fail))
                refine wpQuiet_nil ?_
                rintro _ ⟨V, rfl⟩
                obtain ⟨U4, hb⟩ := V
                dsimp only
                clear BNc0 BNc1 HU
                replace BN := Lib.hid (BN.out.below hb BN.out.lt)
                replace BX := Lib.hid (BX.out.below hb BX.out.lt)
                replace B5 := Lib.hid (B5.out.below hb B5.out.lt)
                replace HN := Lib.hid (HN.out.below hb (Nat.le_refl _))
                replace H5 := Lib.hid (H5.out.below hb (Nat.le_refl _))
                replace HB := Lib.hid (HB.out.trans (hb.mono HB.out.size))
                clear hb
                have HC23 := Lib.hid (same_any l A5 A m c5 c cap U4 HM.out (by omega) H5.out.any HN.out.any)
                obtain ⟨BNc0, BNc1⟩ := two_cells BN.out
                obtain ⟨B5c0, B5c1⟩ := two_cells B5.out
                go_wp2_with fail
                refine HC23.out.mono ?_
                rintro e V23 ⟨rfl, hb⟩
                clear BNc0 BNc1 B5c0 B5c1 HC23
                replace BN := Lib.hid (BN.out.below hb BN.out.lt)
                replace BX := Lib.hid (BX.out.below hb BX.out.lt)
                replace B5 := Lib.hid (B5.out.below hb B5.out.lt)
                replace HN := Lib.hid (HN.out.below hb (Nat.le_refl _))
                replace H5 := Lib.hid (H5.out.below hb (Nat.le_refl _))
                replace HB := Lib.hid (HB.out.trans (hb.mono HB.out.size))
                clear hb
                go_wp2_with fail
                go_ret
                exact ⟨rfl, HB.out⟩
end Lx
end Go.Proofs.YtceblpjlklogpaaDoor
