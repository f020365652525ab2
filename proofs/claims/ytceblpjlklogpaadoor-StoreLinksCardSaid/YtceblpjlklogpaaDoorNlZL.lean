/-
  The law StoreLinks, walked.
-/
import Derived.Test.YtceblpjlklogpaaDoorNwF
import Derived.Test.YtceblpjlklogpaaDoorC9
import Derived.Test.YtceblpjlklogpaaDoorNlFx
import Derived.Test.YtceblpjlklogpaaDoorC8
import Derived.Test.YtceblpjlklogpaaDoorC6
import Derived.Deep.DeepCutAuto
import Derived.Deep.RegionHeld3
namespace Go.Proofs.YtceblpjlklogpaaDoor
open Go Go.RowKit
namespace Lx
set_option maxRecDepth 100000
set_option maxHeartbeats 40000000 in
theorem storeLinks_law (l : List Nd) (A : Option Addr) (m c : Nat) (cap : Int) (i_ s_ : Int) (w : World) (hm : m = l.length) (hm2 : m ≤ 140737488351232) (hN : NdsIn w AnyB l A) (hT : PTab w) :
    Calls Tryd.prog 6 #[.agg #[.slice A m c, .int .i64 cap], .int .i64 i_, .int .i64 s_] w fun e w' => e = .returned (.bool true) ∧ Below w.heap.size w w' := by
  obtain ⟨W, hW⟩ : ∃ W, W = (w.alloc (.cells #[.slice A m c, .int .i64 cap] 24)) := ⟨_, rfl⟩
  have hb : Below w.heap.size w W := by rw [hW]; exact ((Below.refl _ w).alloc (Nat.le_refl _) _)
  have BN : Hid (Lies W (w.heap.size) 24 #[.slice A m c, .int .i64 cap]) := Lib.hid (by rw [hW]; exact (Lies.new (w) 24 #[.slice A m c, .int .i64 cap]))
  have HN : Hid (NdsIn W AnyB l A) := Lib.hid (hN.below hb (Nat.le_refl _))
  have HB := Lib.hid hb
  have HM := Lib.hid hm
  have HT := Lib.hid hT
  clear hN hm hb hT
  go_enter Tryd.func6, Tryd.ntmps6
  go_upto_region 1 with fail
  rw [← hW]
  clear hW
  have HC1 := Lib.hid (fixed12_any W (HT.out.below HB.out (Nat.le_refl _)))
  go_wp2_with fail
  refine HC1.out.mono ?_
  rintro e V1 ⟨rfl, hb⟩
  clear  HC1
  replace BN := Lib.hid (BN.out.below hb BN.out.lt)
  replace HN := Lib.hid (HN.out.below hb (Nat.le_refl _))
  replace HB := Lib.hid (HB.out.trans (hb.mono HB.out.size))
  clear hb
  have HC2 := Lib.hid (small_any l A m c cap 150 V1 HM.out hm2 HN.out.any)
  obtain ⟨BNc0, BNc1⟩ := two_cells BN.out
  go_wp2_with fail
  refine HC2.out.mono ?_
  rintro e V2 ⟨rfl, hb⟩
  clear BNc0 BNc1 HC2
  replace BN := Lib.hid (BN.out.below hb BN.out.lt)
  replace HN := Lib.hid (HN.out.below hb (Nat.le_refl _))
  replace HB := Lib.hid (HB.out.trans (hb.mono HB.out.size))
  clear hb
  cases hs : smallV l 150 with
  | false =>
    have HC3 := Lib.hid (fixed12_any V2 (HT.out.below HB.out (Nat.le_refl _)))
    go_wp2_with fail
    refine HC3.out.mono ?_
    rintro e V3 ⟨rfl, hb⟩
    clear  HC3
    replace BN := Lib.hid (BN.out.below hb BN.out.lt)
    replace HN := Lib.hid (HN.out.below hb (Nat.le_refl _))
    replace HB := Lib.hid (HB.out.trans (hb.mono HB.out.size))
    clear hb
    go_wp2_with fail
    go_ret
    exact ⟨rfl, HB.out⟩
  | true =>
    obtain ⟨hm150', hfew, hfa⟩ := small_nl hs
    have hm150 : m ≤ 150 := by have := HM.out; omega
    have HF9 := Lib.hid hfew
    have HFA := Lib.hid hfa
    clear hs hm150' hfew hfa
    obtain ⟨ck, hck0⟩ : ∃ q, q = checkV l cap := ⟨_, rfl⟩
    have HCK := Lib.hid hck0
    clear hck0
    cases ck with
    | false =>
      have HC4 := Lib.hid (show Calls Tryd.prog 10 _ _ (fun e w' => e = .returned (.int .i64 120) ∧ Below V2.heap.size V2 w') from by
        have h := rcheck_any l A m c cap V2 HM.out hm2 HN.out.any
        rw [checkI, ← HCK.out] at h
        simpa using h)
      obtain ⟨BNc0, BNc1⟩ := two_cells BN.out
      go_wp2_with fail
      refine HC4.out.mono ?_
      rintro e V4 ⟨rfl, hb⟩
      clear BNc0 BNc1 HC4
      replace BN := Lib.hid (BN.out.below hb BN.out.lt)
      replace HN := Lib.hid (HN.out.below hb (Nat.le_refl _))
      replace HB := Lib.hid (HB.out.trans (hb.mono HB.out.size))
      clear hb
      have HC5 := Lib.hid (fixed12_any V4 (HT.out.below HB.out (Nat.le_refl _)))
      go_wp2_with fail
      refine HC5.out.mono ?_
      rintro e V5 ⟨rfl, hb⟩
      clear  HC5
      replace BN := Lib.hid (BN.out.below hb BN.out.lt)
      replace HN := Lib.hid (HN.out.below hb (Nat.le_refl _))
      replace HB := Lib.hid (HB.out.trans (hb.mono HB.out.size))
      clear hb
      go_wp2_with fail
      go_ret
      exact ⟨rfl, HB.out⟩
    | true =>
      have HC6 := Lib.hid (show Calls Tryd.prog 10 _ _ (fun e w' => e = .returned (.int .i64 0) ∧ Below V2.heap.size V2 w') from by
        have h := rcheck_any l A m c cap V2 HM.out hm2 HN.out.any
        rw [checkI, ← HCK.out] at h
        simpa using h)
      obtain ⟨BNc0, BNc1⟩ := two_cells BN.out
      go_wp2_with fail
      refine HC6.out.mono ?_
      rintro e V6 ⟨rfl, hb⟩
      clear BNc0 BNc1 HC6
      replace BN := Lib.hid (BN.out.below hb BN.out.lt)
      replace HN := Lib.hid (HN.out.below hb (Nat.le_refl _))
      replace HB := Lib.hid (HB.out.trans (hb.mono HB.out.size))
      clear hb
      have hck := HCK.out.symm
      have HCH := Lib.hid hck
      obtain ⟨hpos0, hcap0⟩ := check_pos hck
      have hpos : 0 < m := by have := HM.out; omega
      clear hck hpos0 hcap0
      by_cases k1 : i_ < 0
      · have ek1 : decide (i_ < 0) = true := decide_eq_true k1
        have HC7 := Lib.hid (fixed12_any V6 (HT.out.below HB.out (Nat.le_refl _)))
        go_wp2_with fail
        refine HC7.out.mono ?_
        rintro e V7 ⟨rfl, hb⟩
        clear  HC7
        replace BN := Lib.hid (BN.out.below hb BN.out.lt)
        replace HN := Lib.hid (HN.out.below hb (Nat.le_refl _))
        replace HB := Lib.hid (HB.out.trans (hb.mono HB.out.size))
        clear hb
        go_wp2_with fail
        go_ret
        exact ⟨rfl, HB.out⟩
      · skip
        obtain ⟨i, rfl⟩ : ∃ i : Nat, i_ = (i : Int) := ⟨i_.toNat, by omega⟩
        have ek1 : decide ((i : Int) < 0) = false := decide_eq_false k1
        clear k1
        by_cases k2 : m ≤ i
        · have ek2 : decide (m ≤ i) = true := decide_eq_true k2
          have HC8 := Lib.hid (fixed12_any V6 (HT.out.below HB.out (Nat.le_refl _)))
          obtain ⟨BNc0, BNc1⟩ := two_cells BN.out
          go_wp2_with fail
          refine HC8.out.mono ?_
          rintro e V8 ⟨rfl, hb⟩
          clear BNc0 BNc1 HC8
          replace BN := Lib.hid (BN.out.below hb BN.out.lt)
          replace HN := Lib.hid (HN.out.below hb (Nat.le_refl _))
          replace HB := Lib.hid (HB.out.trans (hb.mono HB.out.size))
          clear hb
          go_wp2_with fail
          go_ret
          exact ⟨rfl, HB.out⟩
        · skip
          have him : i < m := by omega
          have him2 : (i : Int) < (m : Int) := by omega
          have ek2 : decide (m ≤ i) = false := decide_eq_false k2
          clear k2
          by_cases k3 : s_ < 0
          · have ek3 : decide (s_ < 0) = true := decide_eq_true k3
            have HC9 := Lib.hid (fixed12_any V6 (HT.out.below HB.out (Nat.le_refl _)))
            obtain ⟨BNc0, BNc1⟩ := two_cells BN.out
            go_wp2_with fail
            refine HC9.out.mono ?_
            rintro e V9 ⟨rfl, hb⟩
            clear BNc0 BNc1 HC9
            replace BN := Lib.hid (BN.out.below hb BN.out.lt)
            replace HN := Lib.hid (HN.out.below hb (Nat.le_refl _))
            replace HB := Lib.hid (HB.out.trans (hb.mono HB.out.size))
            clear hb
            go_wp2_with fail
            go_ret
            exact ⟨rfl, HB.out⟩
          · skip
            obtain ⟨k, rfl⟩ : ∃ k : Nat, s_ = (k : Int) := ⟨s_.toNat, by omega⟩
            have ek3 : decide ((k : Int) < 0) = false := decide_eq_false k3
            clear k3
            replace HN : Hid (NdsIn V6 (fun q => q < V6.heap.size) l A) := Lib.hid (HN.out.keep (fun q j _ hlt => ⟨rfl, hlt⟩))
            obtain ⟨g, o, x, B, bb, C, cc, hx, hA9, hgX, ⟨x0, x1, x2, x3, x4, x5⟩, hI⟩ := NdsIn.get HN.out i (by have := HM.out; omega)
            subst hA9
            have hT5 := hI.2.2
            rw [hx] at x5 hT5
            obtain ⟨mt, hmt⟩ : ∃ q, q = (ndAt l i).to.length := ⟨_, rfl⟩
            have hltN6 := BN.out.lt
            have hmt12 : mt ≤ 100000 := by have := (HF9.out i (by have := HM.out; omega)).1; omega
            rw [← hmt] at x5
            obtain ⟨ct, hct⟩ : ∃ q, q = capN mt cc := ⟨_, rfl⟩
            have hmc : mt ≤ ct := by rw [hct]; exact le_capN _ _
            rw [← hct] at x5
            have HMT := Lib.hid hmt
            have HX5 := Lib.hid x5
            have HTO := Lib.hid hT5
            have hg6 : g < V6.heap.size := hgX
            clear hmt hct x0 x1 x2 x3 x4 hI hx hT5 hgX
            by_cases k4 : mt ≤ k
            · have ek4 : decide (mt ≤ k) = true := decide_eq_true k4
              have HC10 := Lib.hid (fixed12_any V6 (HT.out.below HB.out (Nat.le_refl _)))
              obtain ⟨BNc0, BNc1⟩ := two_cells BN.out
              go_wp2_with fail
              refine HC10.out.mono ?_
              rintro e V10 ⟨rfl, hb⟩
              clear BNc0 BNc1 HC10
              replace BN := Lib.hid (BN.out.below hb BN.out.lt)
              replace HN := Lib.hid (HN.out.below hb (Nat.le_refl _))
              replace HB := Lib.hid (HB.out.trans (hb.mono HB.out.size))
              replace HX5 := Lib.hid ((hb.cell (p := ⟨g, o + i * 6 + 5, none⟩) (ncell_lt HX5.out)).trans HX5.out)
              replace HTO := Lib.hid (HTO.out.keep (keep_below hb (Nat.le_refl _)))
              clear hb
              go_wp2_with fail
              go_ret
              exact ⟨rfl, HB.out⟩
            · skip
              have hkm : k < mt := by omega
              have hkm2 : (k : Int) < (mt : Int) := by omega
              have ek4 : decide (mt ≤ k) = false := decide_eq_false k4
              clear k4
              have hkind : (ndAt l i).kind ≠ 0 := kind_of_port HCH.out (by have := HM.out; omega) (by have := HMT.out; omega)
              obtain ⟨hfr1, hfr2⟩ := freed_check HCH.out (by have := HM.out; omega : i < l.length) hkind
              obtain ⟨ks, hks⟩ : ∃ q, q = trimV (l.set i Nd.zero) := ⟨_, rfl⟩
              rw [← hks] at hfr1 hfr2
              obtain ⟨mk, hmk⟩ : ∃ q, q = ks.length := ⟨_, rfl⟩
              have hmkm : mk ≤ m := by
                have := (trimV_take (l.set i Nd.zero)).2
                rw [List.length_set] at this
                have := HM.out
                rw [hmk, hks]; omega
              rw [← hmk] at hfr2
              have HMK := Lib.hid hmk
              have HFR := Lib.hid hfr1
              have HCF := Lib.hid hfr2
              have HSL := Lib.hid (self_link (cap := cap) (by have := HM.out; omega : i < l.length) (by have := HMT.out; omega : k < (ndAt l i).to.length))
              clear hkind hfr1 hfr2 hks hmk
              have x5 := HX5.out
              have HC11 := Lib.hid (show Calls Tryd.prog 20 #[.agg #[.slice (some ⟨g, o, none⟩) m c, .int .i64 cap]] V6 (fun e w' => ∃ G c' cs, e = .returned (.agg #[.slice (some ⟨G, 0, none⟩) m c', .int .i64 cap]) ∧ Half w' (fun q => q < V6.heap.size) G m l m cs ∧ V6.heap.size + 3 ≤ G ∧ cs.size = c' * 6 ∧ m ≤ c' ∧ c' ≤ maxLen ∧ Below V6.heap.size V6 w') from rcopy_half l (some ⟨g, o, none⟩) m c cap V6 HM.out hpos (by omega) (fun q => q < V6.heap.size) (fun _ h => h) HN.out)
              obtain ⟨BNc0, BNc1⟩ := two_cells BN.out
              go_wp2_with fail
              refine HC11.out.mono ?_
              rintro e V11 ⟨G, c8, cs, rfl, hH, hG, hcs, hmc8, hcm8, hb⟩
              clear x5 ek1 ek2 ek3 ek4 BNc0 BNc1 HC11
              replace BN := Lib.hid (BN.out.below hb BN.out.lt)
              replace HN := Lib.hid (HN.out.below hb (Nat.le_refl _))
              replace HB := Lib.hid (HB.out.trans (hb.mono HB.out.size))
              replace HX5 := Lib.hid ((hb.cell (p := ⟨g, o + i * 6 + 5, none⟩) (ncell_lt HX5.out)).trans HX5.out)
              replace HTO := Lib.hid (HTO.out.keep (keep_below hb (Nat.le_refl _)))
              clear hb
              have HH := Lib.hid hH
              have hGl := hH.lies.lt
              clear hH hcs hcm8
              go_upto_region 4 with fail
              obtain ⟨V12, hV12⟩ : ∃ V, V = V11.alloc (.cells #[.slice (some ⟨G, 0, none⟩) m c8, .int .i64 cap] 24) := ⟨_, rfl⟩
              obtain ⟨B7b, hB7b⟩ : ∃ B, B = V11.heap.size := ⟨_, rfl⟩
              have hb : Below V11.heap.size V11 V12 := by rw [hV12]; exact (Below.refl _ _).alloc (Nat.le_refl _) _
              have B7 : Hid (Lies V12 B7b 24 #[.slice (some ⟨G, 0, none⟩) m c8, .int .i64 cap]) := Lib.hid (by rw [hV12, hB7b]; exact Lies.new _ _ _)
              rw [← hV12, ← hB7b]
              have HB7b := Lib.hid hB7b
              clear hV12 hB7b
              replace BN := Lib.hid (BN.out.below hb BN.out.lt)
              replace HN := Lib.hid (HN.out.below hb (Nat.le_refl _))
              replace HB := Lib.hid (HB.out.trans (hb.mono HB.out.size))
              replace HX5 := Lib.hid ((hb.cell (p := ⟨g, o + i * 6 + 5, none⟩) (ncell_lt HX5.out)).trans HX5.out)
              replace HTO := Lib.hid (HTO.out.keep (keep_below hb (Nat.le_refl _)))
              replace HH := Lib.hid (HH.out.below hb (Nat.le_refl _))
              clear hb
              have hGB : G < B7b := by rw [HB7b.out]; exact hGl
              have hltN := BN.out.lt
              have hlt7 := B7.out.lt
              clear hGl HB7b
              go_upto_region 5 with fail
              obtain ⟨V8, hV8⟩ : ∃ V, V = V12.alloc (.cells #[] 46) := ⟨_, rfl⟩
              have hb8 : Below V12.heap.size V12 V8 := by rw [hV8]; exact (Below.refl _ _).alloc (Nat.le_refl _) _
              have HO0 : Hid (V8.ownsRow V12.heap.size 46 2 (.slice (some ⟨V12.heap.size, 0, none⟩) 0 0) 0 (cellsTo [])) := Lib.hid (by rw [hV8]; exact World.ownsRow_made V12 #[] 0 (Nat.le_refl _) (by simp [maxLen]) rfl)
              rw [← hV8]
              clear hV8
              have HB8 := Lib.hid hb8
              clear hb8
              go_wp2_with fail
              go_loopw [8, 9] (fun y v wr => ∃ (j gq cq : Nat), j ≤ mt ∧ v = .int .i64 j ∧ y = .slice (some ⟨gq, 0, none⟩) j cq ∧ Hid (wr.ownsRow V12.heap.size 46 2 (.slice (some ⟨gq, 0, none⟩) j cq) j (cellsTo ((ndAt l i).to.take j)) ∧ Below V12.heap.size V12 wr)) (fun _ v _ => mt - (intOf v).toNat)
              case atStart => exact ⟨0, V12.heap.size, 0, Nat.zero_le _, rfl, rfl, Lib.hid ⟨by simpa using HO0.out, HB8.out⟩⟩
              case round =>
                clear HO0 HB8
                obtain ⟨j, gq, cq, hj, rfl, rfl, hH9⟩ := hrel
                rename World => wr
                have hbr := hH9.out.2
                by_cases hlt : j < mt
                · skip
                  have n0 := (hbr.cell (p := ⟨w.heap.size, 0, none⟩) hltN).trans (two_cells BN.out).1
                  have x5 := (hbr.cell (p := ⟨g, o + i * 6 + 5, none⟩) (ncell_lt HX5.out)).trans HX5.out
                  obtain ⟨gt, ot, ⟨hC, _⟩, d0, d1⟩ := HTO.out j (by have := HMT.out; omega)
                  subst hC
                  obtain ⟨⟨qa, qb⟩, hq⟩ : ∃ q, q = (ndAt l i).to[j]'(by have := HMT.out; omega) := ⟨_, rfl⟩
                  rw [← hq] at d0 d1
                  simp only at d0 d1
                  have d0 := (hbr.cell (p := ⟨gt, ot + j * 2, none⟩) (ncell_lt d0)).trans d0
                  have d1 := (hbr.cell (p := ⟨gt, ot + j * 2 + 1, none⟩) (ncell_lt d1)).trans d1
                  have HQ := Lib.hid hq
                  clear hq
                  have hb1 : Below wr.heap.size wr (wr.alloc (.cells #[.int .i64 qa, .int .i64 qb] 46)) := (Below.refl _ wr).alloc (Nat.le_refl _) _
                  have HT1 : Hid (ToIn (wr.alloc (.cells #[.int .i64 qa, .int .i64 qb] 46)) AnyB [(qa, qb)] (some ⟨wr.heap.size, 0, none⟩)) := Lib.hid (to_one (Lies.new wr 46 #[.int .i64 qa, .int .i64 qb]))
                  have HR := Lib.hid (hH9.out.1.alloc (.cells #[.int .i64 qa, .int .i64 qb] 46))
                  have HB1 := Lib.hid (hbr.trans (hb1.mono hbr.size))
                  have hxs := HB1.out.size
                  clear hH9 hbr hb1
                  go_wp2_with (at_builtin; refine wpList_plain rfl fun _ hK => wp_append_ports (.tmp 67) (.tmp 77) rfl V12.heap.size ((ndAt l i).to.take j) [(qa, qb)] gq j cq (by rw [List.length_take]; have := HMT.out; omega) rfl HR.out (some ⟨wr.heap.size, 0, none⟩) 1 1 rfl rfl AnyB HT1.out (by omega) hxs (fun g2 c2 w2 ho2 hg2 => hK _ _ ?_))
                  have hb3 := HB1.out.grown hg2 hxs (fun q hq => (HR.out.lt q hq).1)
                  have HO := Lib.hid ho2
                  have HB3 := Lib.hid hb3
                  clear ho2 hg2 hb3 HR HB1 HT1 n0 x5 d0 d1
                  go_wp2_with fail
                  go_roundw
                  case rel =>
                    go_light
                    exact ⟨j + 1, g2, c2, by omega, by go_num, rfl, Lib.hid ⟨by rw [List.take_succ_eq_append_getElem (by have := HMT.out; omega), ← HQ.out]; exact HO.out, HB3.out⟩⟩
                  case measure => simp [intOf]; omega
                · skip
                  have hjm : mt = j := by omega
                  subst hjm
                  have htk : (ndAt l i).to.take mt = (ndAt l i).to := List.take_of_length_le (by have := HMT.out; omega)
                  have ho2 := hH9.out.1
                  rw [htk] at ho2
                  obtain ⟨cur2, hmc2, hL2, hcs2, htk2, hg2b, hcm2⟩ := own_curC ho2
                  have HL2g := Lib.hid hL2
                  have HTK : Hid (∀ j u, (cellsTo (ndAt l i).to)[j]? = some u → cur2[j]? = some u) := Lib.hid fun j u hu => by
                    rw [← htk2] at hu
                    have hj : j < mt * 2 := by
                      rcases Nat.lt_or_ge j (mt * 2) with h | h
                      · exact h
                      · rw [List.getElem?_eq_none (by simp; omega)] at hu; cases hu
                    rw [List.getElem?_take_of_lt hj] at hu
                    simpa using hu
                  have HBR := Lib.hid hbr
                  have n0 := (hbr.cell (p := ⟨w.heap.size, 0, none⟩) hltN).trans (two_cells BN.out).1
                  have x5 := (hbr.cell (p := ⟨g, o + i * 6 + 5, none⟩) (ncell_lt HX5.out)).trans HX5.out
                  clear ho2 hL2 htk2 htk hH9 hj hlt hbr hcm2
                  have hk1 : k * 2 < cur2.size := by omega
                  have hk2 : k * 2 + 1 < cur2.size := by omega
                  have d0 := (HL2g.out.cell (k * 2)).trans (Array.getElem?_eq_getElem hk1)
                  have d1 := (HL2g.out.cell (k * 2 + 1)).trans (Array.getElem?_eq_getElem hk2)
                  have e0 := HL2g.out.frozen (k * 2)
                  have e1 := HL2g.out.frozen (k * 2 + 1)
                  obtain ⟨u0, hu0⟩ : ∃ u, u = cur2[k * 2] := ⟨_, rfl⟩
                  obtain ⟨u1, hu1⟩ : ∃ u, u = cur2[k * 2 + 1] := ⟨_, rfl⟩
                  rw [← hu0] at d0
                  rw [← hu1] at d1
                  clear hu0 hu1
                  go_upto_region 10 with fail
                  obtain ⟨V40, hV40⟩ : ∃ V, V = (wr.setCell ⟨gq, k * 2, none⟩ (.int .i64 i)).setCell ⟨gq, k * 2 + 1, none⟩ (.int .i64 k) := ⟨_, rfl⟩
                  have hb : Below V12.heap.size V12 V40 := by rw [hV40]; exact (HBR.out.setCell (p := ⟨gq, _, none⟩) hg2b _).setCell (p := ⟨gq, _, none⟩) hg2b _
                  have hGq : gq ≠ G := by omega
                  have HT4 : Hid (ToIn V40 (fun q => q ≠ G) ((ndAt l i).to.set k ((i : Int), (k : Int))) (some ⟨gq, 0, none⟩)) := Lib.hid (ToIn.of hGq fun j u hu => by
                    have hL : Lies V40 gq 46 ((cur2.setIfInBounds (k * 2) (.int .i64 i)).setIfInBounds (k * 2 + 1) (.int .i64 k)) := by rw [hV40]; exact (HL2g.out.put _ _).put _ _
                    rw [Nat.zero_add, hL.cell]
                    rw [cellsTo_set _ _ _ _ (by have := HMT.out; omega)] at hu
                    simp only [Array.getElem?_setIfInBounds, Array.size_setIfInBounds]
                    simp only [List.getElem?_set, List.length_set] at hu
                    have hcl := cellsTo_len (ndAt l i).to
                    have hml := HMT.out
                    by_cases e1 : k * 2 + 1 = j
                    · rw [if_pos e1, if_pos (by omega)] at hu
                      rw [if_pos e1, if_pos (by omega)]
                      exact hu
                    · rw [if_neg e1] at hu ⊢
                      by_cases e2 : k * 2 = j
                      · rw [if_pos e2, if_pos (by omega)] at hu
                        rw [if_pos e2, if_pos (by omega)]
                        exact hu
                      · rw [if_neg e2] at hu ⊢
                        exact HTK.out j u hu)
                  rw [← hV40]
                  clear hV40 n0 x5 d0 d1 e0 e1 HL2g HTK hk1 hk2 HBR hcs2
                  replace BN := Lib.hid (BN.out.below hb BN.out.lt)
                  replace B7 := Lib.hid (B7.out.below hb B7.out.lt)
                  replace HN := Lib.hid (HN.out.below hb (Nat.le_refl _))
                  replace HB := Lib.hid (HB.out.trans (hb.mono HB.out.size))
                  replace HX5 := Lib.hid ((hb.cell (p := ⟨g, o + i * 6 + 5, none⟩) (ncell_lt HX5.out)).trans HX5.out)
                  replace HTO := Lib.hid (HTO.out.keep (keep_below hb (Nat.le_refl _)))
                  replace HH := Lib.hid (HH.out.below hb (Nat.le_refl _))
                  clear hb
                  obtain ⟨o0, o1⟩ := two_cells B7.out
                  obtain ⟨Bx2, bx2, Cx2, cx2, hcq, _⟩ := HH.out.new i him
                  have y5 := (HH.out.lies.cell (i * 6 + 5)).trans (hcq 5 (by omega))
                  simp only [cellsNd, List.getElem?_cons_zero, List.getElem?_cons_succ] at y5
                  have g5 := HH.out.lies.frozen (i * 6 + 5)
                  clear hcq
                  go_upto_region 11 with fail
                  obtain ⟨V5, hV5⟩ : ∃ V, V = V40.setCell ⟨G, i * 6 + 5, none⟩ (.slice (some ⟨gq, 0, none⟩) mt cq) := ⟨_, rfl⟩
                  have hln : ((ndAt l i).to.set k ((i : Int), (k : Int))).length = mt := by rw [List.length_set]; exact HMT.out.symm
                  have hH4 : Half V40 (fun q => q ≠ G) G m l m cs := by
                    have h := HH.out
                    refine ⟨h.lies, h.size, fun j hj => ?_, fun j hj hjm => absurd hjm (by omega)⟩
                    obtain ⟨B', b', C', c', h5, h6⟩ := h.new j hj
                    exact ⟨B', b', C', c', h5, h6.keep (fun q _ hq _ => ⟨rfl, by have hq' : q < V6.heap.size := hq; omega⟩)⟩
                  obtain ⟨cs5, hH5, _⟩ := hH4.to1 HM.out him (fun h => h rfl) (t' := (ndAt l i).to.set k ((i : Int), (k : Int))) (C := some ⟨gq, 0, none⟩) (by omega) HT4.out cq
                  rw [hln, capN_of hmc2, ← hV5] at hH5
                  obtain ⟨ms, hms⟩ : ∃ q, q = setNV l ((i : Int), (k : Int)) ((i : Int), (k : Int)) := ⟨_, rfl⟩
                  have hst : ms = l.set i ((ndAt l i).withTo ((ndAt l i).to.set k ((i : Int), (k : Int)))) := by rw [hms, setNV_with]; simp
                  have HMS : Hid (m = ms.length) := Lib.hid (by rw [hms, setNV_len]; exact HM.out)
                  have HCM : Hid (checkI ms cap = 120) := Lib.hid (by rw [checkI, hms, HSL.out]; rfl)
                  have HM5 : Hid (NdsIn V5 AnyB ms (some ⟨G, 0, none⟩)) := Lib.hid (by rw [hst]; exact hH5.row (by rw [List.length_set]; exact HM.out) trivial (fun _ _ _ => trivial))
                  replace BN := Lib.hid (show Lies V5 w.heap.size _ _ by rw [hV5]; exact BN.out.far (p := ⟨G, _, none⟩) (by show w.heap.size ≠ G; omega) _)
                  replace B7 := Lib.hid (show Lies V5 B7b _ _ by rw [hV5]; exact B7.out.far (p := ⟨G, _, none⟩) (by show B7b ≠ G; omega) _)
                  replace HN : Hid (NdsIn V5 (fun q => q < V6.heap.size) l (some ⟨g, o, none⟩)) := Lib.hid (by rw [hV5]; exact HN.out.keep (keep_set ⟨G, _, none⟩ _ (fun h => by have h' : G < V6.heap.size := h; omega)))
                  replace HX5 : Hid (V5.cell? ⟨g, o + i * 6 + 5, none⟩ = some (.slice C mt ct)) := Lib.hid (by rw [hV5, World.cell?_setCell_other]; exact HX5.out; intro e; injection e with e1; omega)
                  replace HTO : Hid (ToIn V5 (fun q => q < V6.heap.size) (ndAt l i).to C) := Lib.hid (by rw [hV5]; exact HTO.out.keep (keep_set ⟨G, _, none⟩ _ (fun h => by have h' : G < V6.heap.size := h; omega)))
                  replace HB : Hid (Below w.heap.size w V5) := Lib.hid (by rw [hV5]; exact HB.out.setCell (p := ⟨G, _, none⟩) (by show w.heap.size ≤ G; omega) _)
                  rw [← hV5]
                  clear hV5 hln hH4 hH5 hms hst HT4 HH HSL o0 o1 y5 g5 hGq hg2b hmc2
                  have x5 := HX5.out
                  have HC13 := Lib.hid (show Calls Tryd.prog 17 _ _ (fun e w' => ∃ A c, e = .returned (.tuple #[.agg #[.slice A mk c, .int .i64 cap], .int .i64 0]) ∧ NdsIn w' AnyB ks A ∧ Below V5.heap.size V5 w') from by
                    have h := free_any l (some ⟨g, o, none⟩) m c cap (i : Int) V5 HM.out hpos (by omega) HF9.out HN.out.any
                    rw [HFR.out] at h
                    refine h.mono ?_
                    rintro e w' ⟨A', d, rfl, hn, hb⟩
                    rw [HMK.out]
                    exact ⟨A', _, rfl, hn.any, hb⟩
                  )
                  obtain ⟨BNc0, BNc1⟩ := two_cells BN.out
                  go_wp2_with fail
                  refine HC13.out.mono ?_
                  rintro e V13 ⟨A9, c9, rfl, hn, hb⟩
                  clear x5 BNc0 BNc1 HC13
                  replace BN := Lib.hid (BN.out.below hb BN.out.lt)
                  replace B7 := Lib.hid (B7.out.below hb B7.out.lt)
                  replace HN := Lib.hid (HN.out.below hb (Nat.le_refl _))
                  replace HM5 := Lib.hid (HM5.out.below hb (Nat.le_refl _))
                  replace HB := Lib.hid (HB.out.trans (hb.mono HB.out.size))
                  replace HX5 := Lib.hid ((hb.cell (p := ⟨g, o + i * 6 + 5, none⟩) (ncell_lt HX5.out)).trans HX5.out)
                  replace HTO := Lib.hid (HTO.out.keep (keep_below hb (Nat.le_refl _)))
                  clear hb
                  have H9 := Lib.hid hn
                  clear hn
                  go_upto_region 12 with fail
                  obtain ⟨V14, hV14⟩ : ∃ V, V = V13.alloc (.cells #[.slice A9 mk c9, .int .i64 cap] 24) := ⟨_, rfl⟩
                  obtain ⟨B10b, hB10b⟩ : ∃ B, B = V13.heap.size := ⟨_, rfl⟩
                  have hb : Below V13.heap.size V13 V14 := by rw [hV14]; exact (Below.refl _ _).alloc (Nat.le_refl _) _
                  have B10 : Hid (Lies V14 B10b 24 #[.slice A9 mk c9, .int .i64 cap]) := Lib.hid (by rw [hV14, hB10b]; exact Lies.new _ _ _)
                  rw [← hV14, ← hB10b]
                  clear hV14 hB10b
                  replace BN := Lib.hid (BN.out.below hb BN.out.lt)
                  replace B7 := Lib.hid (B7.out.below hb B7.out.lt)
                  replace HN := Lib.hid (HN.out.below hb (Nat.le_refl _))
                  replace HM5 := Lib.hid (HM5.out.below hb (Nat.le_refl _))
                  replace H9 := Lib.hid (H9.out.below hb (Nat.le_refl _))
                  replace HB := Lib.hid (HB.out.trans (hb.mono HB.out.size))
                  replace HX5 := Lib.hid ((hb.cell (p := ⟨g, o + i * 6 + 5, none⟩) (ncell_lt HX5.out)).trans HX5.out)
                  replace HTO := Lib.hid (HTO.out.keep (keep_below hb (Nat.le_refl _)))
                  clear hb
                  have hltN9 := BN.out.lt
                  go_wp2_with fail
                  go_loopw [12, 13] (fun y v wr => ∃ (j : Nat) (al : Bool), j ≤ mt ∧ y = .bool al ∧ v = .int .i64 j ∧ Hid (al = ((ndAt l i).to.take j).all (fun q => decide (q.1 = (i : Int)))) ∧ Below V14.heap.size V14 wr) (fun _ v _ => mt - (intOf v).toNat)
                  case atStart => exact ⟨0, true, Nat.zero_le _, rfl, rfl, Lib.hid (by simp), Below.refl _ _⟩
                  case round =>
                    obtain ⟨j, al, hj, rfl, rfl, hAL, hbr⟩ := hrel
                    by_cases hlt : j < mt
                    · skip
                      have n0 := (hbr.cell (p := ⟨w.heap.size, 0, none⟩) hltN9).trans (two_cells BN.out).1
                      have x5 := (hbr.cell (p := ⟨g, o + i * 6 + 5, none⟩) (ncell_lt HX5.out)).trans HX5.out
                      obtain ⟨gt, ot, ⟨hC, _⟩, d0, _⟩ := HTO.out j (by have := HMT.out; omega)
                      subst hC
                      obtain ⟨⟨qa, qb⟩, hq⟩ : ∃ q, q = (ndAt l i).to[j]'(by have := HMT.out; omega) := ⟨_, rfl⟩
                      rw [← hq] at d0
                      simp only at d0
                      have d0 := (hbr.cell (p := ⟨gt, ot + j * 2, none⟩) (ncell_lt d0)).trans d0
                      have HQ := Lib.hid hq
                      clear hq
                      have hjm2 : (j : Int) < (mt : Int) := by omega
                      have hnew : ((ndAt l i).to.take (j + 1)).all (fun q => decide (q.1 = (i : Int))) = (al && decide (qa = (i : Int))) := by
                        rw [List.take_succ_eq_append_getElem (by have := HMT.out; omega), ← HQ.out, List.all_append, ← hAL.out]
                        simp
                      have HNEW := Lib.hid hnew
                      clear hnew
                      cases al with
                      | false =>
                        go_wp2_with fail
                        go_roundw
                        case rel =>
                          go_light
                          exact ⟨j + 1, false, by omega, rfl, by go_num, Lib.hid (by rw [HNEW.out]; simp), hbr⟩
                        case measure => simp [intOf]; omega
                      | true =>
                        by_cases hqi : qa = (i : Int)
                        · skip
                          have hqe : (qa == (i : Int)) = true := by simpa using hqi
                          go_wp2_with fail
                          go_roundw
                          case rel =>
                            go_light
                            exact ⟨j + 1, true, by omega, rfl, by go_num, Lib.hid (by rw [HNEW.out]; simp [hqi]), hbr⟩
                          case measure => simp [intOf]; omega
                        · skip
                          have hqe : (qa == (i : Int)) = false := by simpa using hqi
                          go_wp2_with fail
                          go_roundw
                          case rel =>
                            go_light
                            exact ⟨j + 1, false, by omega, rfl, by go_num, Lib.hid (by rw [HNEW.out]; simp [hqi]), hbr⟩
                          case measure => simp [intOf]; omega
                    · skip
                      have hjm : mt = j := by omega
                      subst hjm
                      have hal : al = aloneV l i := by
                        have h := hAL.out
                        rw [List.take_of_length_le (by have := HMT.out; omega)] at h
                        exact h
                      have HAL := Lib.hid hal
                      clear hAL hal hltN9
                      obtain ⟨V9, hV9⟩ : ∃ V, V = wr := ⟨_, rfl⟩
                      rw [← hV9] at hbr
                      rw [← hV9]
                      clear hV9
                      replace BN := Lib.hid (BN.out.below hbr BN.out.lt)
                      replace B7 := Lib.hid (B7.out.below hbr B7.out.lt)
                      replace B10 := Lib.hid (B10.out.below hbr B10.out.lt)
                      replace HN := Lib.hid (HN.out.below hbr (Nat.le_refl _))
                      replace HM5 := Lib.hid (HM5.out.below hbr (Nat.le_refl _))
                      replace H9 := Lib.hid (H9.out.below hbr (Nat.le_refl _))
                      replace HB := Lib.hid (HB.out.trans (hbr.mono HB.out.size))
                      replace HX5 := Lib.hid ((hbr.cell (p := ⟨g, o + i * 6 + 5, none⟩) (ncell_lt HX5.out)).trans HX5.out)
                      replace HTO := Lib.hid (HTO.out.keep (keep_below hbr (Nat.le_refl _)))
                      clear hbr
                      have x5 := HX5.out
                      have HC15 := Lib.hid (show Calls Tryd.prog 19 #[.agg #[.slice (some ⟨G, 0, none⟩) m c8, .int .i64 cap]] V9 (fun e w' => e = .returned (.int .i64 120) ∧ Below V9.heap.size V9 w') from by
                        have h := check_any ms (some ⟨G, 0, none⟩) m c8 cap V9 HMS.out hm2 HM5.out (HT.out.below HB.out (Nat.le_refl _))
                        rw [HCM.out] at h
                        exact h)
                      obtain ⟨BNc0, BNc1⟩ := two_cells BN.out
                      obtain ⟨B7c0, B7c1⟩ := two_cells B7.out
                      go_wp2_with fail
                      refine HC15.out.mono ?_
                      rintro e V15 ⟨rfl, hb⟩
                      clear x5 BNc0 BNc1 B7c0 B7c1 HC15
                      replace BN := Lib.hid (BN.out.below hb BN.out.lt)
                      replace B7 := Lib.hid (B7.out.below hb B7.out.lt)
                      replace B10 := Lib.hid (B10.out.below hb B10.out.lt)
                      replace HN := Lib.hid (HN.out.below hb (Nat.le_refl _))
                      replace HM5 := Lib.hid (HM5.out.below hb (Nat.le_refl _))
                      replace H9 := Lib.hid (H9.out.below hb (Nat.le_refl _))
                      replace HB := Lib.hid (HB.out.trans (hb.mono HB.out.size))
                      replace HX5 := Lib.hid ((hb.cell (p := ⟨g, o + i * 6 + 5, none⟩) (ncell_lt HX5.out)).trans HX5.out)
                      replace HTO := Lib.hid (HTO.out.keep (keep_below hb (Nat.le_refl _)))
                      clear hb
                      cases al with
                      | false =>
                        have HK9 : Hid (checkI ks cap = 120) := Lib.hid (by
                          rw [checkI, if_neg]
                          intro h
                          have h9 := HCF.out.1 h
                          rw [← HAL.out] at h9
                          exact absurd h9.1 (by decide))
                        have HC16 := Lib.hid (show Calls Tryd.prog 19 #[.agg #[.slice A9 mk c9, .int .i64 cap]] V15 (fun e w' => e = .returned (.int .i64 120) ∧ Below V15.heap.size V15 w') from by
                          have h := check_any ks A9 mk c9 cap V15 HMK.out (by omega) H9.out (HT.out.below HB.out (Nat.le_refl _))
                          rw [HK9.out] at h
                          exact h)
                        obtain ⟨B10c0, B10c1⟩ := two_cells B10.out
                        go_wp2_with fail
                        refine HC16.out.mono ?_
                        rintro e V16 ⟨rfl, hb⟩
                        clear B10c0 B10c1 HC16
                        replace BN := Lib.hid (BN.out.below hb BN.out.lt)
                        replace B7 := Lib.hid (B7.out.below hb B7.out.lt)
                        replace B10 := Lib.hid (B10.out.below hb B10.out.lt)
                        replace HN := Lib.hid (HN.out.below hb (Nat.le_refl _))
                        replace HM5 := Lib.hid (HM5.out.below hb (Nat.le_refl _))
                        replace H9 := Lib.hid (H9.out.below hb (Nat.le_refl _))
                        replace HB := Lib.hid (HB.out.trans (hb.mono HB.out.size))
                        replace HX5 := Lib.hid ((hb.cell (p := ⟨g, o + i * 6 + 5, none⟩) (ncell_lt HX5.out)).trans HX5.out)
                        replace HTO := Lib.hid (HTO.out.keep (keep_below hb (Nat.le_refl _)))
                        clear hb
                        obtain ⟨B10c0, B10c1⟩ := two_cells B10.out
                        go_wp2_with fail
                        go_ret
                        exact ⟨rfl, HB.out⟩
                      | true =>
                        by_cases hi0 : 0 < i
                        · skip
                          have hi1 : decide (0 < i) = true := decide_eq_true hi0
                          have hi2 : decide ((0 : Int) < (i : Int)) = true := decide_eq_true (by omega)
                          by_cases hk0 : 0 < mk
                          · skip
                            have hk1 : decide (0 < mk) = true := decide_eq_true hk0
                            have hk2 : decide ((0 : Int) < (mk : Int)) = true := decide_eq_true (by omega)
                            have HK9 : Hid (checkI ks cap = 0) := Lib.hid (by rw [checkI, if_pos (HCF.out.2 ⟨HAL.out.symm, hi0, hk0⟩)])
                            have HC17 := Lib.hid (show Calls Tryd.prog 19 #[.agg #[.slice A9 mk c9, .int .i64 cap]] V15 (fun e w' => e = .returned (.int .i64 0) ∧ Below V15.heap.size V15 w') from by
                              have h := check_any ks A9 mk c9 cap V15 HMK.out (by omega) H9.out (HT.out.below HB.out (Nat.le_refl _))
                              rw [HK9.out] at h
                              exact h)
                            obtain ⟨B10c0, B10c1⟩ := two_cells B10.out
                            go_wp2_with fail
                            refine HC17.out.mono ?_
                            rintro e V17 ⟨rfl, hb⟩
                            clear B10c0 B10c1 HC17
                            replace BN := Lib.hid (BN.out.below hb BN.out.lt)
                            replace B7 := Lib.hid (B7.out.below hb B7.out.lt)
                            replace B10 := Lib.hid (B10.out.below hb B10.out.lt)
                            replace HN := Lib.hid (HN.out.below hb (Nat.le_refl _))
                            replace HM5 := Lib.hid (HM5.out.below hb (Nat.le_refl _))
                            replace H9 := Lib.hid (H9.out.below hb (Nat.le_refl _))
                            replace HB := Lib.hid (HB.out.trans (hb.mono HB.out.size))
                            replace HX5 := Lib.hid ((hb.cell (p := ⟨g, o + i * 6 + 5, none⟩) (ncell_lt HX5.out)).trans HX5.out)
                            replace HTO := Lib.hid (HTO.out.keep (keep_below hb (Nat.le_refl _)))
                            clear hb
                            obtain ⟨B10c0, B10c1⟩ := two_cells B10.out
                            go_wp2_with fail
                            go_ret
                            exact ⟨rfl, HB.out⟩
                          · skip
                            have hk1 : decide (0 < mk) = false := decide_eq_false hk0
                            have hk2 : decide ((0 : Int) < (mk : Int)) = false := decide_eq_false (by omega)
                            have HK9 : Hid (checkI ks cap = 120) := Lib.hid (by
                              rw [checkI, if_neg]
                              intro h
                              have h9 := HCF.out.1 h
                              exact hk0 h9.2.2)
                            have HC18 := Lib.hid (show Calls Tryd.prog 19 #[.agg #[.slice A9 mk c9, .int .i64 cap]] V15 (fun e w' => e = .returned (.int .i64 120) ∧ Below V15.heap.size V15 w') from by
                              have h := check_any ks A9 mk c9 cap V15 HMK.out (by omega) H9.out (HT.out.below HB.out (Nat.le_refl _))
                              rw [HK9.out] at h
                              exact h)
                            obtain ⟨B10c0, B10c1⟩ := two_cells B10.out
                            go_wp2_with fail
                            refine HC18.out.mono ?_
                            rintro e V18 ⟨rfl, hb⟩
                            clear B10c0 B10c1 HC18
                            replace BN := Lib.hid (BN.out.below hb BN.out.lt)
                            replace B7 := Lib.hid (B7.out.below hb B7.out.lt)
                            replace B10 := Lib.hid (B10.out.below hb B10.out.lt)
                            replace HN := Lib.hid (HN.out.below hb (Nat.le_refl _))
                            replace HM5 := Lib.hid (HM5.out.below hb (Nat.le_refl _))
                            replace H9 := Lib.hid (H9.out.below hb (Nat.le_refl _))
                            replace HB := Lib.hid (HB.out.trans (hb.mono HB.out.size))
                            replace HX5 := Lib.hid ((hb.cell (p := ⟨g, o + i * 6 + 5, none⟩) (ncell_lt HX5.out)).trans HX5.out)
                            replace HTO := Lib.hid (HTO.out.keep (keep_below hb (Nat.le_refl _)))
                            clear hb
                            obtain ⟨B10c0, B10c1⟩ := two_cells B10.out
                            go_wp2_with fail
                            go_ret
                            exact ⟨rfl, HB.out⟩
                        · skip
                          have hi1 : decide (0 < i) = false := decide_eq_false hi0
                          have hi2 : decide ((0 : Int) < (i : Int)) = false := decide_eq_false (by omega)
                          have HK9 : Hid (checkI ks cap = 120) := Lib.hid (by
                            rw [checkI, if_neg]
                            intro h
                            have h9 := HCF.out.1 h
                            exact hi0 h9.2.1)
                          have HC19 := Lib.hid (show Calls Tryd.prog 19 #[.agg #[.slice A9 mk c9, .int .i64 cap]] V15 (fun e w' => e = .returned (.int .i64 120) ∧ Below V15.heap.size V15 w') from by
                            have h := check_any ks A9 mk c9 cap V15 HMK.out (by omega) H9.out (HT.out.below HB.out (Nat.le_refl _))
                            rw [HK9.out] at h
                            exact h)
                          obtain ⟨B10c0, B10c1⟩ := two_cells B10.out
                          go_wp2_with fail
                          refine HC19.out.mono ?_
                          rintro e V19 ⟨rfl, hb⟩
                          clear B10c0 B10c1 HC19
                          replace BN := Lib.hid (BN.out.below hb BN.out.lt)
                          replace B7 := Lib.hid (B7.out.below hb B7.out.lt)
                          replace B10 := Lib.hid (B10.out.below hb B10.out.lt)
                          replace HN := Lib.hid (HN.out.below hb (Nat.le_refl _))
                          replace HM5 := Lib.hid (HM5.out.below hb (Nat.le_refl _))
                          replace H9 := Lib.hid (H9.out.below hb (Nat.le_refl _))
                          replace HB := Lib.hid (HB.out.trans (hb.mono HB.out.size))
                          replace HX5 := Lib.hid ((hb.cell (p := ⟨g, o + i * 6 + 5, none⟩) (ncell_lt HX5.out)).trans HX5.out)
                          replace HTO := Lib.hid (HTO.out.keep (keep_below hb (Nat.le_refl _)))
                          clear hb
                          obtain ⟨B10c0, B10c1⟩ := two_cells B10.out
                          go_wp2_with fail
                          go_ret
                          exact ⟨rfl, HB.out⟩
end Lx
end Go.Proofs.YtceblpjlklogpaaDoor
