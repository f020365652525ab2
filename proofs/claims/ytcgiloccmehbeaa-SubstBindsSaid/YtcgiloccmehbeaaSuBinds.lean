/-
  The law SubstBinds, walked.
-/
import Derived.Test.YtcgiloccmehbeaaY9
import Derived.Test.YtcgiloccmehbeaaYB
namespace Go.Proofs.Ytcgiloccmehbeaa
open Go.RowKit
namespace Lx
set_option maxRecDepth 100000
set_option maxHeartbeats 32000000 in
theorem binds8_any (t : Te) (A0 : Option Addr) (c0 : Nat) (s : Te) (A1 : Option Addr) (c1 : Nat) (j : Int) (w : World) (hI : EIn w Any t A0) (hJ : EIn w Any s A1) (_ : -9223372036854775808 ≤ j ∧ j ≤ 9223372036854775807) :
    Calls Try.prog 8 #[ev t A0 c0, ev s A1 c1, .int .i64 j] w fun e w' => e = .returned (.bool true) ∧ Below w.heap.size w w' := by
  obtain ⟨tk, tn, tz, tl⟩ := t
  obtain ⟨sk, sn, sz, sl⟩ := s
  show Calls Try.prog 8 #[.agg #[.int .i64 tk, .int .i64 tn, .string tz, .slice A0 tl.length (capF tl.length c0)], .agg #[.int .i64 sk, .int .i64 sn, .string sz, .slice A1 sl.length (capF sl.length c1)], .int .i64 j] w _
  have HX0 := Lib.hid ((Bx8.new (c := c0) hI (Below.refl _ w) rfl).old (.cells #[.int .i64 sk, .int .i64 sn, .string sz, .slice A1 sl.length (capF sl.length c1)] 24))
  have HX1 := Lib.hid (Bx8.new (c := c1) (g := w.heap.size + 1) hJ ((Below.refl _ w).alloc (Nat.le_refl _) (.cells #[.int .i64 tk, .int .i64 tn, .string tz, .slice A0 tl.length (capF tl.length c0)] 24)) (by simp))
  clear hI hJ
  go_enter Try.func8, Try.ntmps8
  go_wp2_with fail
  refine (fixed8_any _).mono ?_
  rintro e w2 ⟨rfl, hb2⟩
  replace HX0 := Lib.hid (HX0.out.step hb2)
  replace HX1 := Lib.hid (HX1.out.step hb2)
  clear hb2
  obtain ⟨d0, d1, d2, d3⟩ := HX0.out.four
  have HG := Lib.hid (HX0.out.small 100 (by omega) (by omega))
  cases hv : decide (0 ≤ fewE (.node tk tn tz tl) 100 600)
  · rw [hv] at HG
    clear hv
    go_wp2_with fail
    refine HG.out.mono ?_
    rintro e w3 ⟨rfl, hb3⟩
    clear HG d0 d1 d2 d3
    replace HX0 := Lib.hid (HX0.out.step hb3)
    replace HX1 := Lib.hid (HX1.out.step hb3)
    clear hb3
    go_wp2_with fail
    refine (fixed8_any w3).mono ?_
    rintro e w4 ⟨rfl, hb4⟩
    have hbw := HX0.out.bw.trans (hb4.mono HX0.out.bw.size)
    go_wp2_with fail
    go_ret
    exact ⟨rfl, hbw⟩
  · rw [hv] at HG
    have hm0 := small8 hv (by omega)
    clear hv
    go_wp2_with fail
    refine HG.out.mono ?_
    rintro e w3 ⟨rfl, hb3⟩
    clear HG d0 d1 d2 d3
    replace HX0 := Lib.hid (HX0.out.step hb3)
    replace HX1 := Lib.hid (HX1.out.step hb3)
    clear hb3
    obtain ⟨d0, d1, d2, d3⟩ := HX1.out.four
    have HG := Lib.hid (HX1.out.small 100 (by omega) (by omega))
    cases hv : decide (0 ≤ fewE (.node sk sn sz sl) 100 600)
    · rw [hv] at HG
      clear hv
      go_wp2_with fail
      refine HG.out.mono ?_
      rintro e w5 ⟨rfl, hb5⟩
      clear HG d0 d1 d2 d3
      replace HX0 := Lib.hid (HX0.out.step hb5)
      replace HX1 := Lib.hid (HX1.out.step hb5)
      clear hb5
      go_wp2_with fail
      refine (fixed8_any w5).mono ?_
      rintro e w6 ⟨rfl, hb6⟩
      have hbw := HX0.out.bw.trans (hb6.mono HX0.out.bw.size)
      go_wp2_with fail
      go_ret
      exact ⟨rfl, hbw⟩
    · rw [hv] at HG
      have hm1 := small8 hv (by omega)
      clear hv
      go_wp2_with fail
      refine HG.out.mono ?_
      rintro e w5 ⟨rfl, hb5⟩
      clear HG d0 d1 d2 d3
      replace HX0 := Lib.hid (HX0.out.step hb5)
      replace HX1 := Lib.hid (HX1.out.step hb5)
      clear hb5
      obtain ⟨d0, d1, d2, d3⟩ := HX0.out.four
      have HG := Lib.hid (rMay6_any (.node tk tn tz tl) A0 c0 5 _ HX0.out.tin (by omega) (by omega) (by omega))
      cases hv : mayQ (.node tk tn tz tl) 5 false
      · rw [hv] at HG
        clear hv
        go_wp2_with fail
        refine HG.out.mono ?_
        rintro e w7 ⟨rfl, hb7⟩
        clear HG d0 d1 d2 d3
        replace HX0 := Lib.hid (HX0.out.step hb7)
        replace HX1 := Lib.hid (HX1.out.step hb7)
        clear hb7
        go_wp2_with fail
        refine (fixed8_any w7).mono ?_
        rintro e w8 ⟨rfl, hb8⟩
        have hbw := HX0.out.bw.trans (hb8.mono HX0.out.bw.size)
        go_wp2_with fail
        go_ret
        exact ⟨rfl, hbw⟩
      · rw [hv] at HG
        have hmt := hv
        clear hv
        go_wp2_with fail
        refine HG.out.mono ?_
        rintro e w7 ⟨rfl, hb7⟩
        clear HG d0 d1 d2 d3
        replace HX0 := Lib.hid (HX0.out.step hb7)
        replace HX1 := Lib.hid (HX1.out.step hb7)
        clear hb7
        obtain ⟨d0, d1, d2, d3⟩ := HX1.out.four
        have HG := Lib.hid (rMay6_any (.node sk sn sz sl) A1 c1 5 _ HX1.out.tin (by omega) (by omega) (by omega))
        cases hv : mayQ (.node sk sn sz sl) 5 false
        · rw [hv] at HG
          clear hv
          go_wp2_with fail
          refine HG.out.mono ?_
          rintro e w9 ⟨rfl, hb9⟩
          clear HG d0 d1 d2 d3
          replace HX0 := Lib.hid (HX0.out.step hb9)
          replace HX1 := Lib.hid (HX1.out.step hb9)
          clear hb9
          go_wp2_with fail
          refine (fixed8_any w9).mono ?_
          rintro e w10 ⟨rfl, hb10⟩
          have hbw := HX0.out.bw.trans (hb10.mono HX0.out.bw.size)
          go_wp2_with fail
          go_ret
          exact ⟨rfl, hbw⟩
        · rw [hv] at HG
          have hms := hv
          clear hv
          go_wp2_with fail
          refine HG.out.mono ?_
          rintro e w9 ⟨rfl, hb9⟩
          clear HG d0 d1 d2 d3
          replace HX0 := Lib.hid (HX0.out.step hb9)
          replace HX1 := Lib.hid (HX1.out.step hb9)
          clear hb9
          by_cases hc : j < 0
          · go_wp2_with fail
            refine (fixed8_any w9).mono ?_
            rintro e w11 ⟨rfl, hb11⟩
            have hbw := HX0.out.bw.trans (hb11.mono HX0.out.bw.size)
            go_wp2_with fail
            go_ret
            exact ⟨rfl, hbw⟩
          · have hj0 : 0 ≤ j := by omega
            by_cases hc : 4 < j
            · go_wp2_with fail
              refine (fixed8_any w9).mono ?_
              rintro e w12 ⟨rfl, hb12⟩
              have hbw := HX0.out.bw.trans (hb12.mono HX0.out.bw.size)
              go_wp2_with fail
              go_ret
              exact ⟨rfl, hbw⟩
            · have hj1 : j ≤ 4 := by omega
              have hct := may_cl _ _ _ hmt
              have hcs := may_cl _ _ _ hms
              have hwt := clE_wf _ _ hct
              have hws := clE_wf _ _ hcs
              have htq : tameE 7000 8 (.node tk tn tz tl) := tameE_mono (by omega) (by omega) _ (clE_tame _ _ hct)
              have hsq : tameE 7000 8 (.node sk sn sz sl) := tameE_mono (by omega) (by omega) _ (clE_tame _ _ hcs)
              obtain ⟨D, hD⟩ : ∃ X, X = putE (.node tk tn tz tl) j (.node sk sn sz sl) := ⟨_, rfl⟩
              obtain ⟨U, hU⟩ : ∃ X, X = upE (.node sk sn sz sl) 1 0 := ⟨_, rfl⟩
              obtain ⟨E, hE⟩ : ∃ X, X = putE (.node tk tn tz tl) (j + 1) U := ⟨_, rfl⟩
              have hLE : putE (lamE (.node tk tn tz tl)) j (.node sk sn sz sl) = lamE E := by rw [hE, hU]; exact putE_lam _ _ _ hwt hws
              have hAD : putE (appE (.node tk tn tz tl) (.node tk tn tz tl)) j (.node sk sn sz sl) = appE D D := by rw [hD]; exact putE_app _ _ _ _
              have huq : tameE 8000 8 U := by rw [hU]; exact tameE_mono (by omega) (by omega) _ (upE_tame (U := 1) (by omega) hsq 1 0 (by omega) (by omega) (by omega))
              have hdU := upE_depth (.node sk sn sz sl) 1 0
              have hsU := upE_size (.node sk sn sz sl) 1 0
              rw [← hU] at hdU hsU
              have hlt1 : depthE (lamE (.node tk tn tz tl)) ≤ 4000 := by simp only [lamE, depthE.eq_1 2, depthEL]; omega
              have hlt2 : sizeE (lamE (.node tk tn tz tl)) ≤ 1000000000000 := by simp only [lamE, sizeE.eq_1 2, sizeEL]; omega
              have hlt3 : tameE 1099511627776 1099511627776 (lamE (.node tk tn tz tl)) := by rw [lamE, tameE, tameEL, tameEL]; exact ⟨fun e => by omega, fun e => by omega, (tameE_mono (by omega) (by omega) _ htq), trivial⟩
              have hat1 : depthE (appE (.node tk tn tz tl) (.node tk tn tz tl)) ≤ 4000 := by simp only [appE, depthE.eq_1 3, depthEL]; omega
              have hat2 : sizeE (appE (.node tk tn tz tl) (.node tk tn tz tl)) ≤ 1000000000000 := by simp only [appE, sizeE.eq_1 3, sizeEL]; omega
              have hat3 : tameE 1099511627776 1099511627776 (appE (.node tk tn tz tl) (.node tk tn tz tl)) := by rw [appE, tameE, tameEL, tameEL, tameEL]; exact ⟨fun e => by omega, fun e => by omega, (tameE_mono (by omega) (by omega) _ htq), (tameE_mono (by omega) (by omega) _ htq), trivial⟩
              have has1 : depthE (appE (.node tk tn tz tl) (.node sk sn sz sl)) ≤ 4000 := by simp only [appE, depthE.eq_1 3, depthEL]; omega
              have has2 : sizeE (appE (.node tk tn tz tl) (.node sk sn sz sl)) ≤ 1000000000000 := by simp only [appE, sizeE.eq_1 3, sizeEL]; omega
              have has3 : tameE 1099511627776 1099511627776 (appE (.node tk tn tz tl) (.node sk sn sz sl)) := by rw [appE, tameE, tameEL, tameEL, tameEL]; exact ⟨fun e => by omega, fun e => by omega, (tameE_mono (by omega) (by omega) _ htq), (tameE_mono (by omega) (by omega) _ hsq), trivial⟩
              obtain ⟨n1, hn1⟩ : ∃ n, n = usesE (.node tk tn tz tl) (j + 1) := ⟨_, rfl⟩
              obtain ⟨n2, hn2⟩ : ∃ n, n = usesE (.node tk tn tz tl) j := ⟨_, rfl⟩
              obtain ⟨n3, hn3⟩ : ∃ n, n = usesE (.node sk sn sz sl) j := ⟨_, rfl⟩
              have hnb2 : n2 ≤ sizeE (.node tk tn tz tl) := by rw [hn2]; exact usesE_le _ _
              have hnb3 : n3 ≤ sizeE (.node sk sn sz sl) := by rw [hn3]; exact usesE_le _ _
              have hul : usesE (lamE (.node tk tn tz tl)) j = n1 := by rw [hn1]; exact usesE_lam _ _
              have hua : usesE (appE (.node tk tn tz tl) (.node sk sn sz sl)) j = n2 + n3 := by rw [hn2, hn3]; exact usesE_app _ _ _
              obtain ⟨dk, dn, dz, dl⟩ := D
              obtain ⟨uk, un, uz, ul⟩ := U
              obtain ⟨ek, en, ez, el⟩ := E
              have HD := Lib.hid hD
              have HU := Lib.hid hU
              have HE := Lib.hid hE
              have HLE := Lib.hid hLE
              have HAD := Lib.hid hAD
              have HN1 := Lib.hid hn1
              have HN2 := Lib.hid hn2
              have HN3 := Lib.hid hn3
              have HUL := Lib.hid hul
              have HUA := Lib.hid hua
              clear hD hU hE hLE hAD hn1 hn2 hn3 hul hua hct hcs hmt hms hwt hws
              go_upto_region 3 with fail
              have hx0 := HX0.out
              have hx1 := HX1.out
              obtain ⟨g0, hg0⟩ : ∃ g, g = w.heap.size := ⟨_, rfl⟩
              obtain ⟨g1, hg1⟩ : ∃ g, g = w.heap.size + 1 := ⟨_, rfl⟩
              rw [← hg0] at hx0
              rw [← hg1] at hx1
              rw [← hg1, ← hg0]
              clear hg0 hg1 HX0 HX1
              generalize w9 = V at hx0 hx1 ⊢
              have hg0t := hx0.tin
              have hg1t := hx1.tin
              have HSS : Hid (∀ V', Below V.heap.size V V' → (fun V' : World => (V'.cell? ⟨g0, 0, none⟩ = some (.int .i64 tk) ∧ V'.cell? ⟨g0, 1, none⟩ = some (.int .i64 tn) ∧ V'.cell? ⟨g0, 2, none⟩ = some (.string tz) ∧ V'.cell? ⟨g0, 3, none⟩ = some (.slice A0 tl.length (capF tl.length c0)) ∧ V'.cell? ⟨g1, 0, none⟩ = some (.int .i64 sk) ∧ V'.cell? ⟨g1, 1, none⟩ = some (.int .i64 sn) ∧ V'.cell? ⟨g1, 2, none⟩ = some (.string sz) ∧ V'.cell? ⟨g1, 3, none⟩ = some (.slice A1 sl.length (capF sl.length c1)))) V') := Lib.hid fun V' h =>
                ⟨(h.cell (p := ⟨g0, 0, none⟩) hx0.box.lt).trans (hx0.box.cell 0), (h.cell (p := ⟨g0, 1, none⟩) hx0.box.lt).trans (hx0.box.cell 1), (h.cell (p := ⟨g0, 2, none⟩) hx0.box.lt).trans (hx0.box.cell 2), (h.cell (p := ⟨g0, 3, none⟩) hx0.box.lt).trans (hx0.box.cell 3), (h.cell (p := ⟨g1, 0, none⟩) hx1.box.lt).trans (hx1.box.cell 0), (h.cell (p := ⟨g1, 1, none⟩) hx1.box.lt).trans (hx1.box.cell 1), (h.cell (p := ⟨g1, 2, none⟩) hx1.box.lt).trans (hx1.box.cell 2), (h.cell (p := ⟨g1, 3, none⟩) hx1.box.lt).trans (hx1.box.cell 3)⟩
              have HX0 := Lib.hid hx0
              have HX1 := Lib.hid hx1
              clear hx0 hx1
              have HL3 : Hid (∀ X, Below V.heap.size V X → ∀ (Z : Nat → Prop) (hZ : ∀ g, X.heap.size ≤ g → Z g) (A : Option Addr) (c : Nat) (hA : EIn X Z (.node tk tn tz tl) A), Calls Try.prog 24 #[.agg #[.int .i64 tk, .int .i64 tn, .string tz, .slice A tl.length (capF tl.length c)]] X fun e w' => ∃ A c, e = .returned (.agg #[.int .i64 2, .int .i64 0, .string n0B, .slice A 1 (capF 1 c)]) ∧ EIn w' Z (lamE (.node tk tn tz tl)) A ∧ Below X.heap.size X w') := Lib.hid fun X hX Z hZ A c hA => lamZ_any (.node tk tn tz tl) A c X Z hA hZ
              have HP3 : Hid (∀ X, Below V.heap.size V X → ∀ (Z : Nat → Prop) (hZ : ∀ g, X.heap.size ≤ g → Z g) (A : Option Addr) (c : Nat) (hA : EIn X Z (lamE (.node tk tn tz tl)) A) (B : Option Addr) (d : Nat) (hB : EIn X Z (.node sk sn sz sl) B), Calls Try.prog 15 #[.agg #[.int .i64 2, .int .i64 0, .string n0B, .slice A 1 (capF 1 c)], .int .i64 j, .agg #[.int .i64 sk, .int .i64 sn, .string sz, .slice B sl.length (capF sl.length d)]] X fun e w' => ∃ A c, e = .returned (.agg #[.int .i64 2, .int .i64 0, .string n0B, .slice A 1 (capF 1 c)]) ∧ EIn w' Z (lamE (.node ek en ez el)) A ∧ Below X.heap.size X w') := Lib.hid fun X hX Z hZ A c hA B d hB => by
                have h := put_any (lamE (.node tk tn tz tl)) (.node sk sn sz sl) A B c d j X (EIn.any _ hA) hlt1 hlt2 hlt3 (EIn.any _ hB) (by omega) (by omega) (tameE_mono (by omega) (by omega) _ hsq) (by omega) (by omega)
                rw [HLE.out] at h
                exact h.mono fun e w' ⟨A2, c2, h1, h2, h3⟩ => ⟨A2, c2, h1, EIn.wide _ h2 (fun g hg _ => hZ g hg), h3⟩
              go_cut [7] (fun v wx => ∃ (g : Nat) (A : Option Addr) (c : Nat), v = .pointer (some ⟨g, 0, none⟩) ∧ V.heap.size ≤ g ∧ g < wx.heap.size ∧ Lies wx g 24 #[.int .i64 2, .int .i64 0, .string n0B, .slice A 1 (capF 1 c)] ∧ EIn wx Any (lamE (.node ek en ez el)) A ∧ Below V.heap.size V wx)
              case first =>
                have hb_1 : Below V.heap.size V V := Below.refl _ _
                refine wp_region_K (S := (fun V' : World => (V'.cell? ⟨g0, 0, none⟩ = some (.int .i64 tk) ∧ V'.cell? ⟨g0, 1, none⟩ = some (.int .i64 tn) ∧ V'.cell? ⟨g0, 2, none⟩ = some (.string tz) ∧ V'.cell? ⟨g0, 3, none⟩ = some (.slice A0 tl.length (capF tl.length c0)) ∧ V'.cell? ⟨g1, 0, none⟩ = some (.int .i64 sk) ∧ V'.cell? ⟨g1, 1, none⟩ = some (.int .i64 sn) ∧ V'.cell? ⟨g1, 2, none⟩ = some (.string sz) ∧ V'.cell? ⟨g1, 3, none⟩ = some (.slice A1 sl.length (capF sl.length c1))))) 6 rfl (HSS.out _ hb_1.drew) (fun hSs => ?_)
                change wpAnyK _ _ _ _ _ _ 7 (Array.replicate 7 false) _ _
                refine wpAnyK_take (i := 0) (oi := ⟨some 42, _, _, _, _, _⟩) (v := .agg #[.int .i64 tk, .int .i64 tn, .string tz, .slice A0 tl.length (capF tl.length c0)]) rfl (by kernel_rfl) (by kernel_rfl) (by kernel_rfl) (by kernel_rfl) (fun _ _ _ h => h) (.inl ⟨by kernel_rfl, fun W hW => by first | (obtain ⟨z0, z1, z2, z3, z4, z5, z6, z7⟩ := hW; go_simp; done) | (obtain ⟨z0, z1, z2, z3, z4, z5, z6, z7⟩ := hW; go_simp; omega) | (obtain ⟨z0, z1, z2, z3, z4, z5, z6, z7⟩ := hW; go_simp; exact IntWalk.i64_in _ (by omega)) | (obtain ⟨z0, z1, z2, z3, z4, z5, z6, z7⟩ := hW; go_simp; simp [*]; done)⟩) hSs ?_
                try simp only [Act.put, List.setIfInBounds_toArray, List.set_cons_zero, List.set_cons_succ]
                refine wpAnyK_take (i := 2) (oi := ⟨some 44, _, _, _, _, _⟩) (v := .int .i64 j) rfl (by kernel_rfl) (by kernel_rfl) (by kernel_rfl) (by kernel_rfl) (fun _ _ _ h => h) (.inl ⟨by kernel_rfl, fun W hW => by kernel_rfl⟩) hSs ?_
                try simp only [Act.put, List.setIfInBounds_toArray, List.set_cons_zero, List.set_cons_succ]
                refine wpAnyK_take (i := 3) (oi := ⟨some 45, _, _, _, _, _⟩) (v := .agg #[.int .i64 sk, .int .i64 sn, .string sz, .slice A1 sl.length (capF sl.length c1)]) rfl (by kernel_rfl) (by kernel_rfl) (by kernel_rfl) (by kernel_rfl) (fun _ _ _ h => h) (.inl ⟨by kernel_rfl, fun W hW => by first | (obtain ⟨z0, z1, z2, z3, z4, z5, z6, z7⟩ := hW; go_simp; done) | (obtain ⟨z0, z1, z2, z3, z4, z5, z6, z7⟩ := hW; go_simp; omega) | (obtain ⟨z0, z1, z2, z3, z4, z5, z6, z7⟩ := hW; go_simp; exact IntWalk.i64_in _ (by omega)) | (obtain ⟨z0, z1, z2, z3, z4, z5, z6, z7⟩ := hW; go_simp; simp [*]; done)⟩) hSs ?_
                try simp only [Act.put, List.setIfInBounds_toArray, List.set_cons_zero, List.set_cons_succ]
                refine wpAnyK_both (i := 1) (j := 5) rfl rfl rfl rfl (by kernel_rfl) (fun K hK => ?_) (fun K hK => ?_)
                · go_simp
                  refine (HL3.out _ (hb_1.drew) Any (fun _ _ => trivial) A0 c0 (EIn.below _ hg0t (Below.refl _ _).drew (Nat.le_refl _))).mono ?_
                  rintro e u_2 ⟨A_2, c_2, rfl, hT_2, hq_2⟩
                  have hb_2 := (hb_1.drew).trans (hq_2.mono (hb_1.drew).size)
                  have hg0t_2 := EIn.below _ (EIn.below _ hg0t (Below.refl _ _).drew (Nat.le_refl _)) hq_2 (Nat.le_refl _)
                  have hg1t_2 := EIn.below _ (EIn.below _ hg1t (Below.refl _ _).drew (Nat.le_refl _)) hq_2 (Nat.le_refl _)
                  refine hK.out _ _ (fun _ => HSS.out _ hb_2) (fun hS9 => ?_)
                  have hS_2 := hS9 (by decide)
                  clear hK K hS9
                  try simp only [Act.put, List.setIfInBounds_toArray, List.set_cons_zero, List.set_cons_succ]
                  refine wpAnyK_both (i := 4) (j := 5) rfl rfl rfl rfl (by kernel_rfl) (fun K hK => ?_) (fun K hK => ?_)
                  · go_simp
                    refine (HP3.out _ hb_2 Any (fun _ _ => trivial) A_2 c_2 hT_2 A1 c1 hg1t_2).mono ?_
                    rintro e u_3 ⟨A_3, c_3, rfl, hT_3, hq_3⟩
                    have hb_3 := hb_2.trans (hq_3.mono hb_2.size)
                    have hg0t_2_3 := EIn.below _ hg0t_2 hq_3 (Nat.le_refl _)
                    have hg1t_2_3 := EIn.below _ hg1t_2 hq_3 (Nat.le_refl _)
                    have hT_2_3 := EIn.below _ hT_2 hq_3 (Nat.le_refl _)
                    refine hK.out _ _ (fun _ => HSS.out _ hb_3) (fun hS9 => ?_)
                    have hS_3 := hS9 (by decide)
                    clear hK K hS9
                    try simp only [Act.put, List.setIfInBounds_toArray, List.set_cons_zero, List.set_cons_succ]
                    refine wpAnyK_one (i := 5) rfl rfl (by kernel_rfl) (fun K hK => ?_)
                    go_simp
                    have hb_4 := Below.alloc hb_3 hb_3.size (.cells #[.int .i64 0, .int .i64 0, .string (⟨#[]⟩ : ByteArray), .slice none 0 0] 24)
                    have hl_4 : Lies (u_3.alloc (.cells #[.int .i64 0, .int .i64 0, .string (⟨#[]⟩ : ByteArray), .slice none 0 0] 24)) (u_3.heap.size) 24 #[.int .i64 0, .int .i64 0, .string (⟨#[]⟩ : ByteArray), .slice none 0 0] := Lies.new _ _ _
                    refine hK.out _ _ (fun _ => HSS.out _ hb_4) (fun hS9 => ?_)
                    have hS_4 := hS9 (by decide)
                    clear hK K hS9
                    try simp only [Act.put, List.setIfInBounds_toArray, List.set_cons_zero, List.set_cons_succ]
                    have hg0t_2_3_4 : EIn (u_3.alloc (.cells #[.int .i64 0, .int .i64 0, .string (⟨#[]⟩ : ByteArray), .slice none 0 0] 24)) (fun g => g ≠ u_3.heap.size) (.node tk tn tz tl) A0 := EIn.keep _ hg0t_2_3 (fun g j _ hlt => ⟨World.cell?_alloc_lt _ _ _ hlt, Nat.ne_of_lt hlt⟩)
                    have hg1t_2_3_4 : EIn (u_3.alloc (.cells #[.int .i64 0, .int .i64 0, .string (⟨#[]⟩ : ByteArray), .slice none 0 0] 24)) (fun g => g ≠ u_3.heap.size) (.node sk sn sz sl) A1 := EIn.keep _ hg1t_2_3 (fun g j _ hlt => ⟨World.cell?_alloc_lt _ _ _ hlt, Nat.ne_of_lt hlt⟩)
                    have hT_2_3_4 : EIn (u_3.alloc (.cells #[.int .i64 0, .int .i64 0, .string (⟨#[]⟩ : ByteArray), .slice none 0 0] 24)) (fun g => g ≠ u_3.heap.size) (lamE (.node tk tn tz tl)) A_2 := EIn.keep _ hT_2_3 (fun g j _ hlt => ⟨World.cell?_alloc_lt _ _ _ hlt, Nat.ne_of_lt hlt⟩)
                    have hT_3_4 : EIn (u_3.alloc (.cells #[.int .i64 0, .int .i64 0, .string (⟨#[]⟩ : ByteArray), .slice none 0 0] 24)) (fun g => g ≠ u_3.heap.size) (lamE (.node ek en ez el)) A_3 := EIn.keep _ hT_3 (fun g j _ hlt => ⟨World.cell?_alloc_lt _ _ _ hlt, Nat.ne_of_lt hlt⟩)
                    refine wpAnyK_one (i := 6) rfl rfl (by kernel_rfl) (fun K hK => ?_)
                    refine wp_store_as (F := fun W9 => Below V.heap.size V W9 ∧ Lies W9 (u_3.heap.size) 24 #[.int .i64 2, .int .i64 0, .string n0B, .slice A_3 1 (capF 1 c_3)] ∧ EIn W9 Any (lamE (.node ek en ez el)) A_3) _ _ _ rfl (u_3.heap.size) 0 #[.int .i64 2, .int .i64 0, .string n0B, .slice A_3 1 (capF 1 c_3)] rfl rfl (lies_is hl_4 rfl) (by kernel_rfl) (by simp [Value.oneCell']) ⟨below_cells hb_4 (hb_3.size) _ _, lies_set4 hl_4 _ _ _ _, EIn.any _ (ein_offs _ hT_3_4 (fun h => h rfl) _ _)⟩ (fun W_5 hF_5 => ?_)
                    refine hK.out _ _ (fun h => absurd rfl h) (fun _ => ?_)
                    clear hK K
                    try simp only [Act.put, List.setIfInBounds_toArray]
                    refine wpAnyK_done (by kernel_rfl) ?_ _
                    obtain ⟨f1, f2, f3⟩ := hF_5
                    go_wp2_with fail
                    go_meet
                    exact ⟨_, A_3, c_3, rfl, hb_3.size, f2.lt, f2, f3, f1⟩
                  · go_simp
                    have hb_6 := Below.alloc hb_2 hb_2.size (.cells #[.int .i64 0, .int .i64 0, .string (⟨#[]⟩ : ByteArray), .slice none 0 0] 24)
                    have hl_6 : Lies (u_2.alloc (.cells #[.int .i64 0, .int .i64 0, .string (⟨#[]⟩ : ByteArray), .slice none 0 0] 24)) (u_2.heap.size) 24 #[.int .i64 0, .int .i64 0, .string (⟨#[]⟩ : ByteArray), .slice none 0 0] := Lies.new _ _ _
                    refine hK.out _ _ (fun _ => HSS.out _ hb_6) (fun hS9 => ?_)
                    have hS_6 := hS9 (by decide)
                    clear hK K hS9
                    try simp only [Act.put, List.setIfInBounds_toArray, List.set_cons_zero, List.set_cons_succ]
                    have hg0t_2_6 : EIn (u_2.alloc (.cells #[.int .i64 0, .int .i64 0, .string (⟨#[]⟩ : ByteArray), .slice none 0 0] 24)) (fun g => g ≠ u_2.heap.size) (.node tk tn tz tl) A0 := EIn.keep _ hg0t_2 (fun g j _ hlt => ⟨World.cell?_alloc_lt _ _ _ hlt, Nat.ne_of_lt hlt⟩)
                    have hg1t_2_6 : EIn (u_2.alloc (.cells #[.int .i64 0, .int .i64 0, .string (⟨#[]⟩ : ByteArray), .slice none 0 0] 24)) (fun g => g ≠ u_2.heap.size) (.node sk sn sz sl) A1 := EIn.keep _ hg1t_2 (fun g j _ hlt => ⟨World.cell?_alloc_lt _ _ _ hlt, Nat.ne_of_lt hlt⟩)
                    have hT_2_6 : EIn (u_2.alloc (.cells #[.int .i64 0, .int .i64 0, .string (⟨#[]⟩ : ByteArray), .slice none 0 0] 24)) (fun g => g ≠ u_2.heap.size) (lamE (.node tk tn tz tl)) A_2 := EIn.keep _ hT_2 (fun g j _ hlt => ⟨World.cell?_alloc_lt _ _ _ hlt, Nat.ne_of_lt hlt⟩)
                    refine wpAnyK_one (i := 4) rfl rfl (by kernel_rfl) (fun K hK => ?_)
                    go_simp
                    refine (HP3.out _ hb_6 (fun g => g ≠ u_2.heap.size) (fun g h => Nat.ne_of_gt (Nat.lt_of_lt_of_le hl_6.lt h)) A_2 c_2 hT_2_6 A1 c1 hg1t_2_6).mono ?_
                    rintro e u_7 ⟨A_7, c_7, rfl, hT_7, hq_7⟩
                    have hb_7 := hb_6.trans (hq_7.mono hb_6.size)
                    have hl_6_7 := hl_6.below hq_7 hl_6.lt
                    have hg0t_2_6_7 := EIn.below _ hg0t_2_6 hq_7 (Nat.le_refl _)
                    have hg1t_2_6_7 := EIn.below _ hg1t_2_6 hq_7 (Nat.le_refl _)
                    have hT_2_6_7 := EIn.below _ hT_2_6 hq_7 (Nat.le_refl _)
                    refine hK.out _ _ (fun _ => HSS.out _ hb_7) (fun hS9 => ?_)
                    have hS_7 := hS9 (by decide)
                    clear hK K hS9
                    try simp only [Act.put, List.setIfInBounds_toArray, List.set_cons_zero, List.set_cons_succ]
                    refine wpAnyK_one (i := 6) rfl rfl (by kernel_rfl) (fun K hK => ?_)
                    refine wp_store_as (F := fun W9 => Below V.heap.size V W9 ∧ Lies W9 (u_2.heap.size) 24 #[.int .i64 2, .int .i64 0, .string n0B, .slice A_7 1 (capF 1 c_7)] ∧ EIn W9 Any (lamE (.node ek en ez el)) A_7) _ _ _ rfl (u_2.heap.size) 0 #[.int .i64 2, .int .i64 0, .string n0B, .slice A_7 1 (capF 1 c_7)] rfl rfl (lies_is hl_6_7 rfl) (by kernel_rfl) (by simp [Value.oneCell']) ⟨below_cells hb_7 (hb_2.size) _ _, lies_set4 hl_6_7 _ _ _ _, EIn.any _ (ein_offs _ hT_7 (fun h => h rfl) _ _)⟩ (fun W_8 hF_8 => ?_)
                    refine hK.out _ _ (fun h => absurd rfl h) (fun _ => ?_)
                    clear hK K
                    try simp only [Act.put, List.setIfInBounds_toArray]
                    refine wpAnyK_done (by kernel_rfl) ?_ _
                    obtain ⟨f1, f2, f3⟩ := hF_8
                    go_wp2_with fail
                    go_meet
                    exact ⟨_, A_7, c_7, rfl, hb_2.size, f2.lt, f2, f3, f1⟩
                · go_simp
                  have hb_9 := Below.alloc hb_1 hb_1.size (.cells #[.int .i64 0, .int .i64 0, .string (⟨#[]⟩ : ByteArray), .slice none 0 0] 24)
                  have hl_9 : Lies (V.alloc (.cells #[.int .i64 0, .int .i64 0, .string (⟨#[]⟩ : ByteArray), .slice none 0 0] 24)) (V.heap.size) 24 #[.int .i64 0, .int .i64 0, .string (⟨#[]⟩ : ByteArray), .slice none 0 0] := Lies.new _ _ _
                  refine hK.out _ _ (fun _ => HSS.out _ (hb_9.drew)) (fun hS9 => ?_)
                  have hS_9 := hS9 (by decide)
                  clear hK K hS9
                  try simp only [Act.put, List.setIfInBounds_toArray, List.set_cons_zero, List.set_cons_succ]
                  have hg0t_9 : EIn (V.alloc (.cells #[.int .i64 0, .int .i64 0, .string (⟨#[]⟩ : ByteArray), .slice none 0 0] 24)) (fun g => g ≠ V.heap.size) (.node tk tn tz tl) A0 := EIn.keep _ hg0t (fun g j _ hlt => ⟨World.cell?_alloc_lt _ _ _ hlt, Nat.ne_of_lt hlt⟩)
                  have hg1t_9 : EIn (V.alloc (.cells #[.int .i64 0, .int .i64 0, .string (⟨#[]⟩ : ByteArray), .slice none 0 0] 24)) (fun g => g ≠ V.heap.size) (.node sk sn sz sl) A1 := EIn.keep _ hg1t (fun g j _ hlt => ⟨World.cell?_alloc_lt _ _ _ hlt, Nat.ne_of_lt hlt⟩)
                  refine wpAnyK_one (i := 1) rfl rfl (by kernel_rfl) (fun K hK => ?_)
                  go_simp
                  refine (HL3.out _ (hb_9.drew) (fun g => g ≠ V.heap.size) (fun g h => Nat.ne_of_gt (Nat.lt_of_lt_of_le hl_9.lt h)) A0 c0 (EIn.below _ hg0t_9 (Below.refl _ _).drew (Nat.le_refl _))).mono ?_
                  rintro e u_10 ⟨A_10, c_10, rfl, hT_10, hq_10⟩
                  have hb_10 := (hb_9.drew).trans (hq_10.mono (hb_9.drew).size)
                  have hl_9_10 := (hl_9.drew).below hq_10 hl_9.lt
                  have hg0t_9_10 := EIn.below _ (EIn.below _ hg0t_9 (Below.refl _ _).drew (Nat.le_refl _)) hq_10 (Nat.le_refl _)
                  have hg1t_9_10 := EIn.below _ (EIn.below _ hg1t_9 (Below.refl _ _).drew (Nat.le_refl _)) hq_10 (Nat.le_refl _)
                  refine hK.out _ _ (fun _ => HSS.out _ hb_10) (fun hS9 => ?_)
                  have hS_10 := hS9 (by decide)
                  clear hK K hS9
                  try simp only [Act.put, List.setIfInBounds_toArray, List.set_cons_zero, List.set_cons_succ]
                  refine wpAnyK_one (i := 4) rfl rfl (by kernel_rfl) (fun K hK => ?_)
                  go_simp
                  refine (HP3.out _ hb_10 (fun g => g ≠ V.heap.size) (fun g h => Nat.ne_of_gt (Nat.lt_of_lt_of_le hl_9_10.lt h)) A_10 c_10 hT_10 A1 c1 hg1t_9_10).mono ?_
                  rintro e u_11 ⟨A_11, c_11, rfl, hT_11, hq_11⟩
                  have hb_11 := hb_10.trans (hq_11.mono hb_10.size)
                  have hl_9_10_11 := hl_9_10.below hq_11 hl_9_10.lt
                  have hg0t_9_10_11 := EIn.below _ hg0t_9_10 hq_11 (Nat.le_refl _)
                  have hg1t_9_10_11 := EIn.below _ hg1t_9_10 hq_11 (Nat.le_refl _)
                  have hT_10_11 := EIn.below _ hT_10 hq_11 (Nat.le_refl _)
                  refine hK.out _ _ (fun _ => HSS.out _ hb_11) (fun hS9 => ?_)
                  have hS_11 := hS9 (by decide)
                  clear hK K hS9
                  try simp only [Act.put, List.setIfInBounds_toArray, List.set_cons_zero, List.set_cons_succ]
                  refine wpAnyK_one (i := 6) rfl rfl (by kernel_rfl) (fun K hK => ?_)
                  refine wp_store_as (F := fun W9 => Below V.heap.size V W9 ∧ Lies W9 (V.heap.size) 24 #[.int .i64 2, .int .i64 0, .string n0B, .slice A_11 1 (capF 1 c_11)] ∧ EIn W9 Any (lamE (.node ek en ez el)) A_11) _ _ _ rfl (V.heap.size) 0 #[.int .i64 2, .int .i64 0, .string n0B, .slice A_11 1 (capF 1 c_11)] rfl rfl (lies_is hl_9_10_11 rfl) (by kernel_rfl) (by simp [Value.oneCell']) ⟨below_cells hb_11 (Nat.le_refl _) _ _, lies_set4 hl_9_10_11 _ _ _ _, EIn.any _ (ein_offs _ hT_11 (fun h => h rfl) _ _)⟩ (fun W_12 hF_12 => ?_)
                  refine hK.out _ _ (fun h => absurd rfl h) (fun _ => ?_)
                  clear hK K
                  try simp only [Act.put, List.setIfInBounds_toArray]
                  refine wpAnyK_done (by kernel_rfl) ?_ _
                  obtain ⟨f1, f2, f3⟩ := hF_12
                  go_wp2_with fail
                  go_meet
                  exact ⟨_, A_11, c_11, rfl, Nat.le_refl _, f2.lt, f2, f3, f1⟩
              case rest =>
                obtain ⟨ga, Aa, ca, rfl, _, _, hlx, htx, hbx⟩ := hcut
                have hxa : Bx8 w wc ga 2 0 n0B [(.node ek en ez el)] Aa ca := ⟨hlx, htx, HX0.out.bw.trans (hbx.mono HX0.out.bw.size)⟩
                have hx0 := HX0.out.step hbx
                have hx1 := HX1.out.step hbx
                clear hlx htx hbx HSS HX0 HX1 hg0t hg1t HL3 HP3
                go_upto_region 4 with fail
                have hg0t := hx0.tin
                have hg1t := hx1.tin
                have hgat := hxa.tin
                have HSS : Hid (∀ V', Below wc.heap.size wc V' → (fun V' : World => (V'.cell? ⟨g0, 0, none⟩ = some (.int .i64 tk) ∧ V'.cell? ⟨g0, 1, none⟩ = some (.int .i64 tn) ∧ V'.cell? ⟨g0, 2, none⟩ = some (.string tz) ∧ V'.cell? ⟨g0, 3, none⟩ = some (.slice A0 tl.length (capF tl.length c0)) ∧ V'.cell? ⟨g1, 0, none⟩ = some (.int .i64 sk) ∧ V'.cell? ⟨g1, 1, none⟩ = some (.int .i64 sn) ∧ V'.cell? ⟨g1, 2, none⟩ = some (.string sz) ∧ V'.cell? ⟨g1, 3, none⟩ = some (.slice A1 sl.length (capF sl.length c1)) ∧ V'.cell? ⟨ga, 0, none⟩ = some (.int .i64 2) ∧ V'.cell? ⟨ga, 1, none⟩ = some (.int .i64 0) ∧ V'.cell? ⟨ga, 2, none⟩ = some (.string n0B) ∧ V'.cell? ⟨ga, 3, none⟩ = some (.slice Aa 1 (capF 1 ca)))) V') := Lib.hid fun V' h =>
                  ⟨(h.cell (p := ⟨g0, 0, none⟩) hx0.box.lt).trans (hx0.box.cell 0), (h.cell (p := ⟨g0, 1, none⟩) hx0.box.lt).trans (hx0.box.cell 1), (h.cell (p := ⟨g0, 2, none⟩) hx0.box.lt).trans (hx0.box.cell 2), (h.cell (p := ⟨g0, 3, none⟩) hx0.box.lt).trans (hx0.box.cell 3), (h.cell (p := ⟨g1, 0, none⟩) hx1.box.lt).trans (hx1.box.cell 0), (h.cell (p := ⟨g1, 1, none⟩) hx1.box.lt).trans (hx1.box.cell 1), (h.cell (p := ⟨g1, 2, none⟩) hx1.box.lt).trans (hx1.box.cell 2), (h.cell (p := ⟨g1, 3, none⟩) hx1.box.lt).trans (hx1.box.cell 3), (h.cell (p := ⟨ga, 0, none⟩) hxa.box.lt).trans (hxa.box.cell 0), (h.cell (p := ⟨ga, 1, none⟩) hxa.box.lt).trans (hxa.box.cell 1), (h.cell (p := ⟨ga, 2, none⟩) hxa.box.lt).trans (hxa.box.cell 2), (h.cell (p := ⟨ga, 3, none⟩) hxa.box.lt).trans (hxa.box.cell 3)⟩
                have HX0 := Lib.hid hx0
                have HX1 := Lib.hid hx1
                have HXa := Lib.hid hxa
                clear hx0 hx1 hxa
                have HU4 : Hid (∀ X, Below wc.heap.size wc X → ∀ (Z : Nat → Prop) (hZ : ∀ g, X.heap.size ≤ g → Z g) (A : Option Addr) (c : Nat) (hA : EIn X Z (.node sk sn sz sl) A), Calls Try.prog 13 #[.agg #[.int .i64 sk, .int .i64 sn, .string sz, .slice A sl.length (capF sl.length c)], .int .i64 1, .int .i64 0] X fun e w' => ∃ A c, e = .returned (.agg #[.int .i64 uk, .int .i64 un, .string uz, .slice A ul.length (capF ul.length c)]) ∧ EIn w' Z (.node uk un uz ul) A ∧ Below X.heap.size X w') := Lib.hid fun X hX Z hZ A c hA => by
                  have h := up_any (.node sk sn sz sl) A c 1 0 X (EIn.any _ hA) (by omega) (by omega) (tameE_mono (by omega) (by omega) _ hsq) (by omega) (by omega) (by omega) (by omega)
                  rw [← HU.out] at h
                  exact h.mono fun e w' ⟨A2, c2, h1, h2, h3⟩ => ⟨A2, c2, h1, EIn.wide _ h2 (fun g hg _ => hZ g hg), h3⟩
                have HP4 : Hid (∀ X, Below wc.heap.size wc X → ∀ (Z : Nat → Prop) (hZ : ∀ g, X.heap.size ≤ g → Z g) (A : Option Addr) (c : Nat) (hA : EIn X Z (.node tk tn tz tl) A) (B : Option Addr) (d : Nat) (hB : EIn X Z (.node uk un uz ul) B), Calls Try.prog 15 #[.agg #[.int .i64 tk, .int .i64 tn, .string tz, .slice A tl.length (capF tl.length c)], .int .i64 (j + 1), .agg #[.int .i64 uk, .int .i64 un, .string uz, .slice B ul.length (capF ul.length d)]] X fun e w' => ∃ A c, e = .returned (.agg #[.int .i64 ek, .int .i64 en, .string ez, .slice A el.length (capF el.length c)]) ∧ EIn w' Z (.node ek en ez el) A ∧ Below X.heap.size X w') := Lib.hid fun X hX Z hZ A c hA B d hB => by
                  have h := put_any (.node tk tn tz tl) (.node uk un uz ul) A B c d (j + 1) X (EIn.any _ hA) (by omega) (by omega) (tameE_mono (by omega) (by omega) _ htq) (EIn.any _ hB) (by omega) (by omega) (tameE_mono (by omega) (by omega) _ huq) (by omega) (by omega)
                  rw [← HE.out] at h
                  exact h.mono fun e w' ⟨A2, c2, h1, h2, h3⟩ => ⟨A2, c2, h1, EIn.wide _ h2 (fun g hg _ => hZ g hg), h3⟩
                have HL4 : Hid (∀ X, Below wc.heap.size wc X → ∀ (Z : Nat → Prop) (hZ : ∀ g, X.heap.size ≤ g → Z g) (A : Option Addr) (c : Nat) (hA : EIn X Z (.node ek en ez el) A), Calls Try.prog 24 #[.agg #[.int .i64 ek, .int .i64 en, .string ez, .slice A el.length (capF el.length c)]] X fun e w' => ∃ A c, e = .returned (.agg #[.int .i64 2, .int .i64 0, .string n0B, .slice A 1 (capF 1 c)]) ∧ EIn w' Z (lamE (.node ek en ez el)) A ∧ Below X.heap.size X w') := Lib.hid fun X hX Z hZ A c hA => lamZ_any (.node ek en ez el) A c X Z hA hZ
                go_cut [8] (fun v wx => ∃ (g : Nat) (A : Option Addr) (c : Nat), v = .pointer (some ⟨g, 0, none⟩) ∧ wc.heap.size ≤ g ∧ g < wx.heap.size ∧ Lies wx g 24 #[.int .i64 2, .int .i64 0, .string n0B, .slice A 1 (capF 1 c)] ∧ EIn wx Any (lamE (.node ek en ez el)) A ∧ Below wc.heap.size wc wx)
                case first =>
                  have hb_1 : Below wc.heap.size wc wc := Below.refl _ _
                  refine wp_region_K (S := (fun V' : World => (V'.cell? ⟨g0, 0, none⟩ = some (.int .i64 tk) ∧ V'.cell? ⟨g0, 1, none⟩ = some (.int .i64 tn) ∧ V'.cell? ⟨g0, 2, none⟩ = some (.string tz) ∧ V'.cell? ⟨g0, 3, none⟩ = some (.slice A0 tl.length (capF tl.length c0)) ∧ V'.cell? ⟨g1, 0, none⟩ = some (.int .i64 sk) ∧ V'.cell? ⟨g1, 1, none⟩ = some (.int .i64 sn) ∧ V'.cell? ⟨g1, 2, none⟩ = some (.string sz) ∧ V'.cell? ⟨g1, 3, none⟩ = some (.slice A1 sl.length (capF sl.length c1)) ∧ V'.cell? ⟨ga, 0, none⟩ = some (.int .i64 2) ∧ V'.cell? ⟨ga, 1, none⟩ = some (.int .i64 0) ∧ V'.cell? ⟨ga, 2, none⟩ = some (.string n0B) ∧ V'.cell? ⟨ga, 3, none⟩ = some (.slice Aa 1 (capF 1 ca))))) 8 rfl (HSS.out _ hb_1.drew) (fun hSs => ?_)
                  change wpAnyK _ _ _ _ _ _ 9 (Array.replicate 9 false) _ _
                  refine wpAnyK_take (i := 0) (oi := ⟨some 47, _, _, _, _, _⟩) (v := .agg #[.int .i64 tk, .int .i64 tn, .string tz, .slice A0 tl.length (capF tl.length c0)]) rfl (by kernel_rfl) (by kernel_rfl) (by kernel_rfl) (by kernel_rfl) (fun _ _ _ h => h) (.inl ⟨by kernel_rfl, fun W hW => by first | (obtain ⟨z0, z1, z2, z3, z4, z5, z6, z7, z8, z9, z10, z11⟩ := hW; go_simp; done) | (obtain ⟨z0, z1, z2, z3, z4, z5, z6, z7, z8, z9, z10, z11⟩ := hW; go_simp; omega) | (obtain ⟨z0, z1, z2, z3, z4, z5, z6, z7, z8, z9, z10, z11⟩ := hW; go_simp; exact IntWalk.i64_in _ (by omega)) | (obtain ⟨z0, z1, z2, z3, z4, z5, z6, z7, z8, z9, z10, z11⟩ := hW; go_simp; simp [*]; done)⟩) hSs ?_
                  try simp only [Act.put, List.setIfInBounds_toArray, List.set_cons_zero, List.set_cons_succ]
                  refine wpAnyK_take (i := 1) (oi := ⟨some 48, _, _, _, _, _⟩) (v := .int .i64 j) rfl (by kernel_rfl) (by kernel_rfl) (by kernel_rfl) (by kernel_rfl) (fun _ _ _ h => h) (.inl ⟨by kernel_rfl, fun W hW => by kernel_rfl⟩) hSs ?_
                  try simp only [Act.put, List.setIfInBounds_toArray, List.set_cons_zero, List.set_cons_succ]
                  refine wpAnyK_take (i := 2) (oi := ⟨some 49, _, _, _, _, _⟩) (v := .int .i64 (j + 1)) rfl (by kernel_rfl) (by kernel_rfl) (by kernel_rfl) (by kernel_rfl) (fun _ _ _ h => h) (.inl ⟨by kernel_rfl, fun W hW => by first | (obtain ⟨z0, z1, z2, z3, z4, z5, z6, z7, z8, z9, z10, z11⟩ := hW; go_simp; done) | (obtain ⟨z0, z1, z2, z3, z4, z5, z6, z7, z8, z9, z10, z11⟩ := hW; go_simp; omega) | (obtain ⟨z0, z1, z2, z3, z4, z5, z6, z7, z8, z9, z10, z11⟩ := hW; go_simp; exact IntWalk.i64_in _ (by omega)) | (obtain ⟨z0, z1, z2, z3, z4, z5, z6, z7, z8, z9, z10, z11⟩ := hW; go_simp; simp [*]; done)⟩) hSs ?_
                  try simp only [Act.put, List.setIfInBounds_toArray, List.set_cons_zero, List.set_cons_succ]
                  refine wpAnyK_take (i := 3) (oi := ⟨some 50, _, _, _, _, _⟩) (v := .agg #[.int .i64 sk, .int .i64 sn, .string sz, .slice A1 sl.length (capF sl.length c1)]) rfl (by kernel_rfl) (by kernel_rfl) (by kernel_rfl) (by kernel_rfl) (fun _ _ _ h => h) (.inl ⟨by kernel_rfl, fun W hW => by first | (obtain ⟨z0, z1, z2, z3, z4, z5, z6, z7, z8, z9, z10, z11⟩ := hW; go_simp; done) | (obtain ⟨z0, z1, z2, z3, z4, z5, z6, z7, z8, z9, z10, z11⟩ := hW; go_simp; omega) | (obtain ⟨z0, z1, z2, z3, z4, z5, z6, z7, z8, z9, z10, z11⟩ := hW; go_simp; exact IntWalk.i64_in _ (by omega)) | (obtain ⟨z0, z1, z2, z3, z4, z5, z6, z7, z8, z9, z10, z11⟩ := hW; go_simp; simp [*]; done)⟩) hSs ?_
                  try simp only [Act.put, List.setIfInBounds_toArray, List.set_cons_zero, List.set_cons_succ]
                  refine wpAnyK_both (i := 4) (j := 7) rfl rfl rfl rfl (by kernel_rfl) (fun K hK => ?_) (fun K hK => ?_)
                  · go_simp
                    refine (HU4.out _ (hb_1.drew) Any (fun _ _ => trivial) A1 c1 (EIn.below _ hg1t (Below.refl _ _).drew (Nat.le_refl _))).mono ?_
                    rintro e u_2 ⟨A_2, c_2, rfl, hT_2, hq_2⟩
                    have hb_2 := (hb_1.drew).trans (hq_2.mono (hb_1.drew).size)
                    have hg0t_2 := EIn.below _ (EIn.below _ hg0t (Below.refl _ _).drew (Nat.le_refl _)) hq_2 (Nat.le_refl _)
                    have hg1t_2 := EIn.below _ (EIn.below _ hg1t (Below.refl _ _).drew (Nat.le_refl _)) hq_2 (Nat.le_refl _)
                    have hgat_2 := EIn.below _ (EIn.below _ hgat (Below.refl _ _).drew (Nat.le_refl _)) hq_2 (Nat.le_refl _)
                    refine hK.out _ _ (fun _ => HSS.out _ hb_2) (fun hS9 => ?_)
                    have hS_2 := hS9 (by decide)
                    clear hK K hS9
                    try simp only [Act.put, List.setIfInBounds_toArray, List.set_cons_zero, List.set_cons_succ]
                    refine wpAnyK_both (i := 5) (j := 7) rfl rfl rfl rfl (by kernel_rfl) (fun K hK => ?_) (fun K hK => ?_)
                    · go_simp
                      refine (HP4.out _ hb_2 Any (fun _ _ => trivial) A0 c0 hg0t_2 A_2 c_2 hT_2).mono ?_
                      rintro e u_3 ⟨A_3, c_3, rfl, hT_3, hq_3⟩
                      have hb_3 := hb_2.trans (hq_3.mono hb_2.size)
                      have hg0t_2_3 := EIn.below _ hg0t_2 hq_3 (Nat.le_refl _)
                      have hg1t_2_3 := EIn.below _ hg1t_2 hq_3 (Nat.le_refl _)
                      have hgat_2_3 := EIn.below _ hgat_2 hq_3 (Nat.le_refl _)
                      have hT_2_3 := EIn.below _ hT_2 hq_3 (Nat.le_refl _)
                      refine hK.out _ _ (fun _ => HSS.out _ hb_3) (fun hS9 => ?_)
                      have hS_3 := hS9 (by decide)
                      clear hK K hS9
                      try simp only [Act.put, List.setIfInBounds_toArray, List.set_cons_zero, List.set_cons_succ]
                      refine wpAnyK_both (i := 6) (j := 7) rfl rfl rfl rfl (by kernel_rfl) (fun K hK => ?_) (fun K hK => ?_)
                      · go_simp
                        refine (HL4.out _ hb_3 Any (fun _ _ => trivial) A_3 c_3 hT_3).mono ?_
                        rintro e u_4 ⟨A_4, c_4, rfl, hT_4, hq_4⟩
                        have hb_4 := hb_3.trans (hq_4.mono hb_3.size)
                        have hg0t_2_3_4 := EIn.below _ hg0t_2_3 hq_4 (Nat.le_refl _)
                        have hg1t_2_3_4 := EIn.below _ hg1t_2_3 hq_4 (Nat.le_refl _)
                        have hgat_2_3_4 := EIn.below _ hgat_2_3 hq_4 (Nat.le_refl _)
                        have hT_2_3_4 := EIn.below _ hT_2_3 hq_4 (Nat.le_refl _)
                        have hT_3_4 := EIn.below _ hT_3 hq_4 (Nat.le_refl _)
                        refine hK.out _ _ (fun _ => HSS.out _ hb_4) (fun hS9 => ?_)
                        have hS_4 := hS9 (by decide)
                        clear hK K hS9
                        try simp only [Act.put, List.setIfInBounds_toArray, List.set_cons_zero, List.set_cons_succ]
                        refine wpAnyK_one (i := 7) rfl rfl (by kernel_rfl) (fun K hK => ?_)
                        go_simp
                        have hb_5 := Below.alloc hb_4 hb_4.size (.cells #[.int .i64 0, .int .i64 0, .string (⟨#[]⟩ : ByteArray), .slice none 0 0] 24)
                        have hl_5 : Lies (u_4.alloc (.cells #[.int .i64 0, .int .i64 0, .string (⟨#[]⟩ : ByteArray), .slice none 0 0] 24)) (u_4.heap.size) 24 #[.int .i64 0, .int .i64 0, .string (⟨#[]⟩ : ByteArray), .slice none 0 0] := Lies.new _ _ _
                        refine hK.out _ _ (fun _ => HSS.out _ hb_5) (fun hS9 => ?_)
                        have hS_5 := hS9 (by decide)
                        clear hK K hS9
                        try simp only [Act.put, List.setIfInBounds_toArray, List.set_cons_zero, List.set_cons_succ]
                        have hg0t_2_3_4_5 : EIn (u_4.alloc (.cells #[.int .i64 0, .int .i64 0, .string (⟨#[]⟩ : ByteArray), .slice none 0 0] 24)) (fun g => g ≠ u_4.heap.size) (.node tk tn tz tl) A0 := EIn.keep _ hg0t_2_3_4 (fun g j _ hlt => ⟨World.cell?_alloc_lt _ _ _ hlt, Nat.ne_of_lt hlt⟩)
                        have hg1t_2_3_4_5 : EIn (u_4.alloc (.cells #[.int .i64 0, .int .i64 0, .string (⟨#[]⟩ : ByteArray), .slice none 0 0] 24)) (fun g => g ≠ u_4.heap.size) (.node sk sn sz sl) A1 := EIn.keep _ hg1t_2_3_4 (fun g j _ hlt => ⟨World.cell?_alloc_lt _ _ _ hlt, Nat.ne_of_lt hlt⟩)
                        have hgat_2_3_4_5 : EIn (u_4.alloc (.cells #[.int .i64 0, .int .i64 0, .string (⟨#[]⟩ : ByteArray), .slice none 0 0] 24)) (fun g => g ≠ u_4.heap.size) (lamE (.node ek en ez el)) Aa := EIn.keep _ hgat_2_3_4 (fun g j _ hlt => ⟨World.cell?_alloc_lt _ _ _ hlt, Nat.ne_of_lt hlt⟩)
                        have hT_2_3_4_5 : EIn (u_4.alloc (.cells #[.int .i64 0, .int .i64 0, .string (⟨#[]⟩ : ByteArray), .slice none 0 0] 24)) (fun g => g ≠ u_4.heap.size) (.node uk un uz ul) A_2 := EIn.keep _ hT_2_3_4 (fun g j _ hlt => ⟨World.cell?_alloc_lt _ _ _ hlt, Nat.ne_of_lt hlt⟩)
                        have hT_3_4_5 : EIn (u_4.alloc (.cells #[.int .i64 0, .int .i64 0, .string (⟨#[]⟩ : ByteArray), .slice none 0 0] 24)) (fun g => g ≠ u_4.heap.size) (.node ek en ez el) A_3 := EIn.keep _ hT_3_4 (fun g j _ hlt => ⟨World.cell?_alloc_lt _ _ _ hlt, Nat.ne_of_lt hlt⟩)
                        have hT_4_5 : EIn (u_4.alloc (.cells #[.int .i64 0, .int .i64 0, .string (⟨#[]⟩ : ByteArray), .slice none 0 0] 24)) (fun g => g ≠ u_4.heap.size) (lamE (.node ek en ez el)) A_4 := EIn.keep _ hT_4 (fun g j _ hlt => ⟨World.cell?_alloc_lt _ _ _ hlt, Nat.ne_of_lt hlt⟩)
                        refine wpAnyK_one (i := 8) rfl rfl (by kernel_rfl) (fun K hK => ?_)
                        refine wp_store_as (F := fun W9 => Below wc.heap.size wc W9 ∧ Lies W9 (u_4.heap.size) 24 #[.int .i64 2, .int .i64 0, .string n0B, .slice A_4 1 (capF 1 c_4)] ∧ EIn W9 Any (lamE (.node ek en ez el)) A_4) _ _ _ rfl (u_4.heap.size) 0 #[.int .i64 2, .int .i64 0, .string n0B, .slice A_4 1 (capF 1 c_4)] rfl rfl (lies_is hl_5 rfl) (by kernel_rfl) (by simp [Value.oneCell']) ⟨below_cells hb_5 (hb_4.size) _ _, lies_set4 hl_5 _ _ _ _, EIn.any _ (ein_offs _ hT_4_5 (fun h => h rfl) _ _)⟩ (fun W_6 hF_6 => ?_)
                        refine hK.out _ _ (fun h => absurd rfl h) (fun _ => ?_)
                        clear hK K
                        try simp only [Act.put, List.setIfInBounds_toArray]
                        refine wpAnyK_done (by kernel_rfl) ?_ _
                        obtain ⟨f1, f2, f3⟩ := hF_6
                        go_wp2_with fail
                        go_meet
                        exact ⟨_, A_4, c_4, rfl, hb_4.size, f2.lt, f2, f3, f1⟩
                      · go_simp
                        have hb_7 := Below.alloc hb_3 hb_3.size (.cells #[.int .i64 0, .int .i64 0, .string (⟨#[]⟩ : ByteArray), .slice none 0 0] 24)
                        have hl_7 : Lies (u_3.alloc (.cells #[.int .i64 0, .int .i64 0, .string (⟨#[]⟩ : ByteArray), .slice none 0 0] 24)) (u_3.heap.size) 24 #[.int .i64 0, .int .i64 0, .string (⟨#[]⟩ : ByteArray), .slice none 0 0] := Lies.new _ _ _
                        refine hK.out _ _ (fun _ => HSS.out _ hb_7) (fun hS9 => ?_)
                        have hS_7 := hS9 (by decide)
                        clear hK K hS9
                        try simp only [Act.put, List.setIfInBounds_toArray, List.set_cons_zero, List.set_cons_succ]
                        have hg0t_2_3_7 : EIn (u_3.alloc (.cells #[.int .i64 0, .int .i64 0, .string (⟨#[]⟩ : ByteArray), .slice none 0 0] 24)) (fun g => g ≠ u_3.heap.size) (.node tk tn tz tl) A0 := EIn.keep _ hg0t_2_3 (fun g j _ hlt => ⟨World.cell?_alloc_lt _ _ _ hlt, Nat.ne_of_lt hlt⟩)
                        have hg1t_2_3_7 : EIn (u_3.alloc (.cells #[.int .i64 0, .int .i64 0, .string (⟨#[]⟩ : ByteArray), .slice none 0 0] 24)) (fun g => g ≠ u_3.heap.size) (.node sk sn sz sl) A1 := EIn.keep _ hg1t_2_3 (fun g j _ hlt => ⟨World.cell?_alloc_lt _ _ _ hlt, Nat.ne_of_lt hlt⟩)
                        have hgat_2_3_7 : EIn (u_3.alloc (.cells #[.int .i64 0, .int .i64 0, .string (⟨#[]⟩ : ByteArray), .slice none 0 0] 24)) (fun g => g ≠ u_3.heap.size) (lamE (.node ek en ez el)) Aa := EIn.keep _ hgat_2_3 (fun g j _ hlt => ⟨World.cell?_alloc_lt _ _ _ hlt, Nat.ne_of_lt hlt⟩)
                        have hT_2_3_7 : EIn (u_3.alloc (.cells #[.int .i64 0, .int .i64 0, .string (⟨#[]⟩ : ByteArray), .slice none 0 0] 24)) (fun g => g ≠ u_3.heap.size) (.node uk un uz ul) A_2 := EIn.keep _ hT_2_3 (fun g j _ hlt => ⟨World.cell?_alloc_lt _ _ _ hlt, Nat.ne_of_lt hlt⟩)
                        have hT_3_7 : EIn (u_3.alloc (.cells #[.int .i64 0, .int .i64 0, .string (⟨#[]⟩ : ByteArray), .slice none 0 0] 24)) (fun g => g ≠ u_3.heap.size) (.node ek en ez el) A_3 := EIn.keep _ hT_3 (fun g j _ hlt => ⟨World.cell?_alloc_lt _ _ _ hlt, Nat.ne_of_lt hlt⟩)
                        refine wpAnyK_one (i := 6) rfl rfl (by kernel_rfl) (fun K hK => ?_)
                        go_simp
                        refine (HL4.out _ hb_7 (fun g => g ≠ u_3.heap.size) (fun g h => Nat.ne_of_gt (Nat.lt_of_lt_of_le hl_7.lt h)) A_3 c_3 hT_3_7).mono ?_
                        rintro e u_8 ⟨A_8, c_8, rfl, hT_8, hq_8⟩
                        have hb_8 := hb_7.trans (hq_8.mono hb_7.size)
                        have hl_7_8 := hl_7.below hq_8 hl_7.lt
                        have hg0t_2_3_7_8 := EIn.below _ hg0t_2_3_7 hq_8 (Nat.le_refl _)
                        have hg1t_2_3_7_8 := EIn.below _ hg1t_2_3_7 hq_8 (Nat.le_refl _)
                        have hgat_2_3_7_8 := EIn.below _ hgat_2_3_7 hq_8 (Nat.le_refl _)
                        have hT_2_3_7_8 := EIn.below _ hT_2_3_7 hq_8 (Nat.le_refl _)
                        have hT_3_7_8 := EIn.below _ hT_3_7 hq_8 (Nat.le_refl _)
                        refine hK.out _ _ (fun _ => HSS.out _ hb_8) (fun hS9 => ?_)
                        have hS_8 := hS9 (by decide)
                        clear hK K hS9
                        try simp only [Act.put, List.setIfInBounds_toArray, List.set_cons_zero, List.set_cons_succ]
                        refine wpAnyK_one (i := 8) rfl rfl (by kernel_rfl) (fun K hK => ?_)
                        refine wp_store_as (F := fun W9 => Below wc.heap.size wc W9 ∧ Lies W9 (u_3.heap.size) 24 #[.int .i64 2, .int .i64 0, .string n0B, .slice A_8 1 (capF 1 c_8)] ∧ EIn W9 Any (lamE (.node ek en ez el)) A_8) _ _ _ rfl (u_3.heap.size) 0 #[.int .i64 2, .int .i64 0, .string n0B, .slice A_8 1 (capF 1 c_8)] rfl rfl (lies_is hl_7_8 rfl) (by kernel_rfl) (by simp [Value.oneCell']) ⟨below_cells hb_8 (hb_3.size) _ _, lies_set4 hl_7_8 _ _ _ _, EIn.any _ (ein_offs _ hT_8 (fun h => h rfl) _ _)⟩ (fun W_9 hF_9 => ?_)
                        refine hK.out _ _ (fun h => absurd rfl h) (fun _ => ?_)
                        clear hK K
                        try simp only [Act.put, List.setIfInBounds_toArray]
                        refine wpAnyK_done (by kernel_rfl) ?_ _
                        obtain ⟨f1, f2, f3⟩ := hF_9
                        go_wp2_with fail
                        go_meet
                        exact ⟨_, A_8, c_8, rfl, hb_3.size, f2.lt, f2, f3, f1⟩
                    · go_simp
                      have hb_10 := Below.alloc hb_2 hb_2.size (.cells #[.int .i64 0, .int .i64 0, .string (⟨#[]⟩ : ByteArray), .slice none 0 0] 24)
                      have hl_10 : Lies (u_2.alloc (.cells #[.int .i64 0, .int .i64 0, .string (⟨#[]⟩ : ByteArray), .slice none 0 0] 24)) (u_2.heap.size) 24 #[.int .i64 0, .int .i64 0, .string (⟨#[]⟩ : ByteArray), .slice none 0 0] := Lies.new _ _ _
                      refine hK.out _ _ (fun _ => HSS.out _ hb_10) (fun hS9 => ?_)
                      have hS_10 := hS9 (by decide)
                      clear hK K hS9
                      try simp only [Act.put, List.setIfInBounds_toArray, List.set_cons_zero, List.set_cons_succ]
                      have hg0t_2_10 : EIn (u_2.alloc (.cells #[.int .i64 0, .int .i64 0, .string (⟨#[]⟩ : ByteArray), .slice none 0 0] 24)) (fun g => g ≠ u_2.heap.size) (.node tk tn tz tl) A0 := EIn.keep _ hg0t_2 (fun g j _ hlt => ⟨World.cell?_alloc_lt _ _ _ hlt, Nat.ne_of_lt hlt⟩)
                      have hg1t_2_10 : EIn (u_2.alloc (.cells #[.int .i64 0, .int .i64 0, .string (⟨#[]⟩ : ByteArray), .slice none 0 0] 24)) (fun g => g ≠ u_2.heap.size) (.node sk sn sz sl) A1 := EIn.keep _ hg1t_2 (fun g j _ hlt => ⟨World.cell?_alloc_lt _ _ _ hlt, Nat.ne_of_lt hlt⟩)
                      have hgat_2_10 : EIn (u_2.alloc (.cells #[.int .i64 0, .int .i64 0, .string (⟨#[]⟩ : ByteArray), .slice none 0 0] 24)) (fun g => g ≠ u_2.heap.size) (lamE (.node ek en ez el)) Aa := EIn.keep _ hgat_2 (fun g j _ hlt => ⟨World.cell?_alloc_lt _ _ _ hlt, Nat.ne_of_lt hlt⟩)
                      have hT_2_10 : EIn (u_2.alloc (.cells #[.int .i64 0, .int .i64 0, .string (⟨#[]⟩ : ByteArray), .slice none 0 0] 24)) (fun g => g ≠ u_2.heap.size) (.node uk un uz ul) A_2 := EIn.keep _ hT_2 (fun g j _ hlt => ⟨World.cell?_alloc_lt _ _ _ hlt, Nat.ne_of_lt hlt⟩)
                      refine wpAnyK_one (i := 5) rfl rfl (by kernel_rfl) (fun K hK => ?_)
                      go_simp
                      refine (HP4.out _ hb_10 (fun g => g ≠ u_2.heap.size) (fun g h => Nat.ne_of_gt (Nat.lt_of_lt_of_le hl_10.lt h)) A0 c0 hg0t_2_10 A_2 c_2 hT_2_10).mono ?_
                      rintro e u_11 ⟨A_11, c_11, rfl, hT_11, hq_11⟩
                      have hb_11 := hb_10.trans (hq_11.mono hb_10.size)
                      have hl_10_11 := hl_10.below hq_11 hl_10.lt
                      have hg0t_2_10_11 := EIn.below _ hg0t_2_10 hq_11 (Nat.le_refl _)
                      have hg1t_2_10_11 := EIn.below _ hg1t_2_10 hq_11 (Nat.le_refl _)
                      have hgat_2_10_11 := EIn.below _ hgat_2_10 hq_11 (Nat.le_refl _)
                      have hT_2_10_11 := EIn.below _ hT_2_10 hq_11 (Nat.le_refl _)
                      refine hK.out _ _ (fun _ => HSS.out _ hb_11) (fun hS9 => ?_)
                      have hS_11 := hS9 (by decide)
                      clear hK K hS9
                      try simp only [Act.put, List.setIfInBounds_toArray, List.set_cons_zero, List.set_cons_succ]
                      refine wpAnyK_one (i := 6) rfl rfl (by kernel_rfl) (fun K hK => ?_)
                      go_simp
                      refine (HL4.out _ hb_11 (fun g => g ≠ u_2.heap.size) (fun g h => Nat.ne_of_gt (Nat.lt_of_lt_of_le hl_10_11.lt h)) A_11 c_11 hT_11).mono ?_
                      rintro e u_12 ⟨A_12, c_12, rfl, hT_12, hq_12⟩
                      have hb_12 := hb_11.trans (hq_12.mono hb_11.size)
                      have hl_10_11_12 := hl_10_11.below hq_12 hl_10_11.lt
                      have hg0t_2_10_11_12 := EIn.below _ hg0t_2_10_11 hq_12 (Nat.le_refl _)
                      have hg1t_2_10_11_12 := EIn.below _ hg1t_2_10_11 hq_12 (Nat.le_refl _)
                      have hgat_2_10_11_12 := EIn.below _ hgat_2_10_11 hq_12 (Nat.le_refl _)
                      have hT_2_10_11_12 := EIn.below _ hT_2_10_11 hq_12 (Nat.le_refl _)
                      have hT_11_12 := EIn.below _ hT_11 hq_12 (Nat.le_refl _)
                      refine hK.out _ _ (fun _ => HSS.out _ hb_12) (fun hS9 => ?_)
                      have hS_12 := hS9 (by decide)
                      clear hK K hS9
                      try simp only [Act.put, List.setIfInBounds_toArray, List.set_cons_zero, List.set_cons_succ]
                      refine wpAnyK_one (i := 8) rfl rfl (by kernel_rfl) (fun K hK => ?_)
                      refine wp_store_as (F := fun W9 => Below wc.heap.size wc W9 ∧ Lies W9 (u_2.heap.size) 24 #[.int .i64 2, .int .i64 0, .string n0B, .slice A_12 1 (capF 1 c_12)] ∧ EIn W9 Any (lamE (.node ek en ez el)) A_12) _ _ _ rfl (u_2.heap.size) 0 #[.int .i64 2, .int .i64 0, .string n0B, .slice A_12 1 (capF 1 c_12)] rfl rfl (lies_is hl_10_11_12 rfl) (by kernel_rfl) (by simp [Value.oneCell']) ⟨below_cells hb_12 (hb_2.size) _ _, lies_set4 hl_10_11_12 _ _ _ _, EIn.any _ (ein_offs _ hT_12 (fun h => h rfl) _ _)⟩ (fun W_13 hF_13 => ?_)
                      refine hK.out _ _ (fun h => absurd rfl h) (fun _ => ?_)
                      clear hK K
                      try simp only [Act.put, List.setIfInBounds_toArray]
                      refine wpAnyK_done (by kernel_rfl) ?_ _
                      obtain ⟨f1, f2, f3⟩ := hF_13
                      go_wp2_with fail
                      go_meet
                      exact ⟨_, A_12, c_12, rfl, hb_2.size, f2.lt, f2, f3, f1⟩
                  · go_simp
                    have hb_14 := Below.alloc hb_1 hb_1.size (.cells #[.int .i64 0, .int .i64 0, .string (⟨#[]⟩ : ByteArray), .slice none 0 0] 24)
                    have hl_14 : Lies (wc.alloc (.cells #[.int .i64 0, .int .i64 0, .string (⟨#[]⟩ : ByteArray), .slice none 0 0] 24)) (wc.heap.size) 24 #[.int .i64 0, .int .i64 0, .string (⟨#[]⟩ : ByteArray), .slice none 0 0] := Lies.new _ _ _
                    refine hK.out _ _ (fun _ => HSS.out _ (hb_14.drew)) (fun hS9 => ?_)
                    have hS_14 := hS9 (by decide)
                    clear hK K hS9
                    try simp only [Act.put, List.setIfInBounds_toArray, List.set_cons_zero, List.set_cons_succ]
                    have hg0t_14 : EIn (wc.alloc (.cells #[.int .i64 0, .int .i64 0, .string (⟨#[]⟩ : ByteArray), .slice none 0 0] 24)) (fun g => g ≠ wc.heap.size) (.node tk tn tz tl) A0 := EIn.keep _ hg0t (fun g j _ hlt => ⟨World.cell?_alloc_lt _ _ _ hlt, Nat.ne_of_lt hlt⟩)
                    have hg1t_14 : EIn (wc.alloc (.cells #[.int .i64 0, .int .i64 0, .string (⟨#[]⟩ : ByteArray), .slice none 0 0] 24)) (fun g => g ≠ wc.heap.size) (.node sk sn sz sl) A1 := EIn.keep _ hg1t (fun g j _ hlt => ⟨World.cell?_alloc_lt _ _ _ hlt, Nat.ne_of_lt hlt⟩)
                    have hgat_14 : EIn (wc.alloc (.cells #[.int .i64 0, .int .i64 0, .string (⟨#[]⟩ : ByteArray), .slice none 0 0] 24)) (fun g => g ≠ wc.heap.size) (lamE (.node ek en ez el)) Aa := EIn.keep _ hgat (fun g j _ hlt => ⟨World.cell?_alloc_lt _ _ _ hlt, Nat.ne_of_lt hlt⟩)
                    refine wpAnyK_one (i := 4) rfl rfl (by kernel_rfl) (fun K hK => ?_)
                    go_simp
                    refine (HU4.out _ (hb_14.drew) (fun g => g ≠ wc.heap.size) (fun g h => Nat.ne_of_gt (Nat.lt_of_lt_of_le hl_14.lt h)) A1 c1 (EIn.below _ hg1t_14 (Below.refl _ _).drew (Nat.le_refl _))).mono ?_
                    rintro e u_15 ⟨A_15, c_15, rfl, hT_15, hq_15⟩
                    have hb_15 := (hb_14.drew).trans (hq_15.mono (hb_14.drew).size)
                    have hl_14_15 := (hl_14.drew).below hq_15 hl_14.lt
                    have hg0t_14_15 := EIn.below _ (EIn.below _ hg0t_14 (Below.refl _ _).drew (Nat.le_refl _)) hq_15 (Nat.le_refl _)
                    have hg1t_14_15 := EIn.below _ (EIn.below _ hg1t_14 (Below.refl _ _).drew (Nat.le_refl _)) hq_15 (Nat.le_refl _)
                    have hgat_14_15 := EIn.below _ (EIn.below _ hgat_14 (Below.refl _ _).drew (Nat.le_refl _)) hq_15 (Nat.le_refl _)
                    refine hK.out _ _ (fun _ => HSS.out _ hb_15) (fun hS9 => ?_)
                    have hS_15 := hS9 (by decide)
                    clear hK K hS9
                    try simp only [Act.put, List.setIfInBounds_toArray, List.set_cons_zero, List.set_cons_succ]
                    refine wpAnyK_one (i := 5) rfl rfl (by kernel_rfl) (fun K hK => ?_)
                    go_simp
                    refine (HP4.out _ hb_15 (fun g => g ≠ wc.heap.size) (fun g h => Nat.ne_of_gt (Nat.lt_of_lt_of_le hl_14_15.lt h)) A0 c0 hg0t_14_15 A_15 c_15 hT_15).mono ?_
                    rintro e u_16 ⟨A_16, c_16, rfl, hT_16, hq_16⟩
                    have hb_16 := hb_15.trans (hq_16.mono hb_15.size)
                    have hl_14_15_16 := hl_14_15.below hq_16 hl_14_15.lt
                    have hg0t_14_15_16 := EIn.below _ hg0t_14_15 hq_16 (Nat.le_refl _)
                    have hg1t_14_15_16 := EIn.below _ hg1t_14_15 hq_16 (Nat.le_refl _)
                    have hgat_14_15_16 := EIn.below _ hgat_14_15 hq_16 (Nat.le_refl _)
                    have hT_15_16 := EIn.below _ hT_15 hq_16 (Nat.le_refl _)
                    refine hK.out _ _ (fun _ => HSS.out _ hb_16) (fun hS9 => ?_)
                    have hS_16 := hS9 (by decide)
                    clear hK K hS9
                    try simp only [Act.put, List.setIfInBounds_toArray, List.set_cons_zero, List.set_cons_succ]
                    refine wpAnyK_one (i := 6) rfl rfl (by kernel_rfl) (fun K hK => ?_)
                    go_simp
                    refine (HL4.out _ hb_16 (fun g => g ≠ wc.heap.size) (fun g h => Nat.ne_of_gt (Nat.lt_of_lt_of_le hl_14_15_16.lt h)) A_16 c_16 hT_16).mono ?_
                    rintro e u_17 ⟨A_17, c_17, rfl, hT_17, hq_17⟩
                    have hb_17 := hb_16.trans (hq_17.mono hb_16.size)
                    have hl_14_15_16_17 := hl_14_15_16.below hq_17 hl_14_15_16.lt
                    have hg0t_14_15_16_17 := EIn.below _ hg0t_14_15_16 hq_17 (Nat.le_refl _)
                    have hg1t_14_15_16_17 := EIn.below _ hg1t_14_15_16 hq_17 (Nat.le_refl _)
                    have hgat_14_15_16_17 := EIn.below _ hgat_14_15_16 hq_17 (Nat.le_refl _)
                    have hT_15_16_17 := EIn.below _ hT_15_16 hq_17 (Nat.le_refl _)
                    have hT_16_17 := EIn.below _ hT_16 hq_17 (Nat.le_refl _)
                    refine hK.out _ _ (fun _ => HSS.out _ hb_17) (fun hS9 => ?_)
                    have hS_17 := hS9 (by decide)
                    clear hK K hS9
                    try simp only [Act.put, List.setIfInBounds_toArray, List.set_cons_zero, List.set_cons_succ]
                    refine wpAnyK_one (i := 8) rfl rfl (by kernel_rfl) (fun K hK => ?_)
                    refine wp_store_as (F := fun W9 => Below wc.heap.size wc W9 ∧ Lies W9 (wc.heap.size) 24 #[.int .i64 2, .int .i64 0, .string n0B, .slice A_17 1 (capF 1 c_17)] ∧ EIn W9 Any (lamE (.node ek en ez el)) A_17) _ _ _ rfl (wc.heap.size) 0 #[.int .i64 2, .int .i64 0, .string n0B, .slice A_17 1 (capF 1 c_17)] rfl rfl (lies_is hl_14_15_16_17 rfl) (by kernel_rfl) (by simp [Value.oneCell']) ⟨below_cells hb_17 (Nat.le_refl _) _ _, lies_set4 hl_14_15_16_17 _ _ _ _, EIn.any _ (ein_offs _ hT_17 (fun h => h rfl) _ _)⟩ (fun W_18 hF_18 => ?_)
                    refine hK.out _ _ (fun h => absurd rfl h) (fun _ => ?_)
                    clear hK K
                    try simp only [Act.put, List.setIfInBounds_toArray]
                    refine wpAnyK_done (by kernel_rfl) ?_ _
                    obtain ⟨f1, f2, f3⟩ := hF_18
                    go_wp2_with fail
                    go_meet
                    exact ⟨_, A_17, c_17, rfl, Nat.le_refl _, f2.lt, f2, f3, f1⟩
                case rest =>
                  obtain ⟨gb, Ab, cb, rfl, _, _, hlx, htx, hbx⟩ := hcut
                  have hxb : Bx8 w wc gb 2 0 n0B [(.node ek en ez el)] Ab cb := ⟨hlx, htx, HX0.out.bw.trans (hbx.mono HX0.out.bw.size)⟩
                  have hx0 := HX0.out.step hbx
                  have hx1 := HX1.out.step hbx
                  have hxa := HXa.out.step hbx
                  clear hlx htx hbx HSS HX0 HX1 HXa hg0t hg1t hgat HU4 HP4 HL4
                  go_upto_region 5 with fail
                  have hg0t := hx0.tin
                  have hg1t := hx1.tin
                  have hgat := hxa.tin
                  have hgbt := hxb.tin
                  have HSS : Hid (∀ V', Below wc.heap.size wc V' → (fun V' : World => (V'.cell? ⟨g0, 0, none⟩ = some (.int .i64 tk) ∧ V'.cell? ⟨g0, 1, none⟩ = some (.int .i64 tn) ∧ V'.cell? ⟨g0, 2, none⟩ = some (.string tz) ∧ V'.cell? ⟨g0, 3, none⟩ = some (.slice A0 tl.length (capF tl.length c0)) ∧ V'.cell? ⟨g1, 0, none⟩ = some (.int .i64 sk) ∧ V'.cell? ⟨g1, 1, none⟩ = some (.int .i64 sn) ∧ V'.cell? ⟨g1, 2, none⟩ = some (.string sz) ∧ V'.cell? ⟨g1, 3, none⟩ = some (.slice A1 sl.length (capF sl.length c1)) ∧ V'.cell? ⟨ga, 0, none⟩ = some (.int .i64 2) ∧ V'.cell? ⟨ga, 1, none⟩ = some (.int .i64 0) ∧ V'.cell? ⟨ga, 2, none⟩ = some (.string n0B) ∧ V'.cell? ⟨ga, 3, none⟩ = some (.slice Aa 1 (capF 1 ca)) ∧ V'.cell? ⟨gb, 0, none⟩ = some (.int .i64 2) ∧ V'.cell? ⟨gb, 1, none⟩ = some (.int .i64 0) ∧ V'.cell? ⟨gb, 2, none⟩ = some (.string n0B) ∧ V'.cell? ⟨gb, 3, none⟩ = some (.slice Ab 1 (capF 1 cb)))) V') := Lib.hid fun V' h =>
                    ⟨(h.cell (p := ⟨g0, 0, none⟩) hx0.box.lt).trans (hx0.box.cell 0), (h.cell (p := ⟨g0, 1, none⟩) hx0.box.lt).trans (hx0.box.cell 1), (h.cell (p := ⟨g0, 2, none⟩) hx0.box.lt).trans (hx0.box.cell 2), (h.cell (p := ⟨g0, 3, none⟩) hx0.box.lt).trans (hx0.box.cell 3), (h.cell (p := ⟨g1, 0, none⟩) hx1.box.lt).trans (hx1.box.cell 0), (h.cell (p := ⟨g1, 1, none⟩) hx1.box.lt).trans (hx1.box.cell 1), (h.cell (p := ⟨g1, 2, none⟩) hx1.box.lt).trans (hx1.box.cell 2), (h.cell (p := ⟨g1, 3, none⟩) hx1.box.lt).trans (hx1.box.cell 3), (h.cell (p := ⟨ga, 0, none⟩) hxa.box.lt).trans (hxa.box.cell 0), (h.cell (p := ⟨ga, 1, none⟩) hxa.box.lt).trans (hxa.box.cell 1), (h.cell (p := ⟨ga, 2, none⟩) hxa.box.lt).trans (hxa.box.cell 2), (h.cell (p := ⟨ga, 3, none⟩) hxa.box.lt).trans (hxa.box.cell 3), (h.cell (p := ⟨gb, 0, none⟩) hxb.box.lt).trans (hxb.box.cell 0), (h.cell (p := ⟨gb, 1, none⟩) hxb.box.lt).trans (hxb.box.cell 1), (h.cell (p := ⟨gb, 2, none⟩) hxb.box.lt).trans (hxb.box.cell 2), (h.cell (p := ⟨gb, 3, none⟩) hxb.box.lt).trans (hxb.box.cell 3)⟩
                  have HX0 := Lib.hid hx0
                  have HX1 := Lib.hid hx1
                  have HXa := Lib.hid hxa
                  have HXb := Lib.hid hxb
                  clear hx0 hx1 hxa hxb
                  have HA5 : Hid (∀ X, Below wc.heap.size wc X → ∀ (Z : Nat → Prop) (hZ : ∀ g, X.heap.size ≤ g → Z g) (A : Option Addr) (c : Nat) (hA : EIn X Z (.node tk tn tz tl) A) (B : Option Addr) (d : Nat) (hB : EIn X Z (.node tk tn tz tl) B), Calls Try.prog 25 #[.agg #[.int .i64 tk, .int .i64 tn, .string tz, .slice A tl.length (capF tl.length c)], .agg #[.int .i64 tk, .int .i64 tn, .string tz, .slice B tl.length (capF tl.length d)]] X fun e w' => ∃ A c, e = .returned (.agg #[.int .i64 3, .int .i64 0, .string n0B, .slice A 2 (capF 2 c)]) ∧ EIn w' Z (appE (.node tk tn tz tl) (.node tk tn tz tl)) A ∧ Below X.heap.size X w') := Lib.hid fun X hX Z hZ A c hA B d hB => appZ_any (.node tk tn tz tl) (.node tk tn tz tl) A B c d X Z hA hB hZ
                  have HP5 : Hid (∀ X, Below wc.heap.size wc X → ∀ (Z : Nat → Prop) (hZ : ∀ g, X.heap.size ≤ g → Z g) (A : Option Addr) (c : Nat) (hA : EIn X Z (appE (.node tk tn tz tl) (.node tk tn tz tl)) A) (B : Option Addr) (d : Nat) (hB : EIn X Z (.node sk sn sz sl) B), Calls Try.prog 15 #[.agg #[.int .i64 3, .int .i64 0, .string n0B, .slice A 2 (capF 2 c)], .int .i64 j, .agg #[.int .i64 sk, .int .i64 sn, .string sz, .slice B sl.length (capF sl.length d)]] X fun e w' => ∃ A c, e = .returned (.agg #[.int .i64 3, .int .i64 0, .string n0B, .slice A 2 (capF 2 c)]) ∧ EIn w' Z (appE (.node dk dn dz dl) (.node dk dn dz dl)) A ∧ Below X.heap.size X w') := Lib.hid fun X hX Z hZ A c hA B d hB => by
                    have h := put_any (appE (.node tk tn tz tl) (.node tk tn tz tl)) (.node sk sn sz sl) A B c d j X (EIn.any _ hA) hat1 hat2 hat3 (EIn.any _ hB) (by omega) (by omega) (tameE_mono (by omega) (by omega) _ hsq) (by omega) (by omega)
                    rw [HAD.out] at h
                    exact h.mono fun e w' ⟨A2, c2, h1, h2, h3⟩ => ⟨A2, c2, h1, EIn.wide _ h2 (fun g hg _ => hZ g hg), h3⟩
                  go_cut [9] (fun v wx => ∃ (g : Nat) (A : Option Addr) (c : Nat), v = .pointer (some ⟨g, 0, none⟩) ∧ wc.heap.size ≤ g ∧ g < wx.heap.size ∧ Lies wx g 24 #[.int .i64 3, .int .i64 0, .string n0B, .slice A 2 (capF 2 c)] ∧ EIn wx Any (appE (.node dk dn dz dl) (.node dk dn dz dl)) A ∧ Below wc.heap.size wc wx)
                  case first =>
                    have hb_1 : Below wc.heap.size wc wc := Below.refl _ _
                    refine wp_region_K (S := (fun V' : World => (V'.cell? ⟨g0, 0, none⟩ = some (.int .i64 tk) ∧ V'.cell? ⟨g0, 1, none⟩ = some (.int .i64 tn) ∧ V'.cell? ⟨g0, 2, none⟩ = some (.string tz) ∧ V'.cell? ⟨g0, 3, none⟩ = some (.slice A0 tl.length (capF tl.length c0)) ∧ V'.cell? ⟨g1, 0, none⟩ = some (.int .i64 sk) ∧ V'.cell? ⟨g1, 1, none⟩ = some (.int .i64 sn) ∧ V'.cell? ⟨g1, 2, none⟩ = some (.string sz) ∧ V'.cell? ⟨g1, 3, none⟩ = some (.slice A1 sl.length (capF sl.length c1)) ∧ V'.cell? ⟨ga, 0, none⟩ = some (.int .i64 2) ∧ V'.cell? ⟨ga, 1, none⟩ = some (.int .i64 0) ∧ V'.cell? ⟨ga, 2, none⟩ = some (.string n0B) ∧ V'.cell? ⟨ga, 3, none⟩ = some (.slice Aa 1 (capF 1 ca)) ∧ V'.cell? ⟨gb, 0, none⟩ = some (.int .i64 2) ∧ V'.cell? ⟨gb, 1, none⟩ = some (.int .i64 0) ∧ V'.cell? ⟨gb, 2, none⟩ = some (.string n0B) ∧ V'.cell? ⟨gb, 3, none⟩ = some (.slice Ab 1 (capF 1 cb))))) 7 rfl (HSS.out _ hb_1.drew) (fun hSs => ?_)
                    change wpAnyK _ _ _ _ _ _ 8 (Array.replicate 8 false) _ _
                    refine wpAnyK_take (i := 0) (oi := ⟨some 54, _, _, _, _, _⟩) (v := .agg #[.int .i64 tk, .int .i64 tn, .string tz, .slice A0 tl.length (capF tl.length c0)]) rfl (by kernel_rfl) (by kernel_rfl) (by kernel_rfl) (by kernel_rfl) (fun _ _ _ h => h) (.inl ⟨by kernel_rfl, fun W hW => by first | (obtain ⟨z0, z1, z2, z3, z4, z5, z6, z7, z8, z9, z10, z11, z12, z13, z14, z15⟩ := hW; go_simp; done) | (obtain ⟨z0, z1, z2, z3, z4, z5, z6, z7, z8, z9, z10, z11, z12, z13, z14, z15⟩ := hW; go_simp; omega) | (obtain ⟨z0, z1, z2, z3, z4, z5, z6, z7, z8, z9, z10, z11, z12, z13, z14, z15⟩ := hW; go_simp; exact IntWalk.i64_in _ (by omega)) | (obtain ⟨z0, z1, z2, z3, z4, z5, z6, z7, z8, z9, z10, z11, z12, z13, z14, z15⟩ := hW; go_simp; simp [*]; done)⟩) hSs ?_
                    try simp only [Act.put, List.setIfInBounds_toArray, List.set_cons_zero, List.set_cons_succ]
                    refine wpAnyK_take (i := 1) (oi := ⟨some 55, _, _, _, _, _⟩) (v := .agg #[.int .i64 tk, .int .i64 tn, .string tz, .slice A0 tl.length (capF tl.length c0)]) rfl (by kernel_rfl) (by kernel_rfl) (by kernel_rfl) (by kernel_rfl) (fun _ _ _ h => h) (.inl ⟨by kernel_rfl, fun W hW => by first | (obtain ⟨z0, z1, z2, z3, z4, z5, z6, z7, z8, z9, z10, z11, z12, z13, z14, z15⟩ := hW; go_simp; done) | (obtain ⟨z0, z1, z2, z3, z4, z5, z6, z7, z8, z9, z10, z11, z12, z13, z14, z15⟩ := hW; go_simp; omega) | (obtain ⟨z0, z1, z2, z3, z4, z5, z6, z7, z8, z9, z10, z11, z12, z13, z14, z15⟩ := hW; go_simp; exact IntWalk.i64_in _ (by omega)) | (obtain ⟨z0, z1, z2, z3, z4, z5, z6, z7, z8, z9, z10, z11, z12, z13, z14, z15⟩ := hW; go_simp; simp [*]; done)⟩) hSs ?_
                    try simp only [Act.put, List.setIfInBounds_toArray, List.set_cons_zero, List.set_cons_succ]
                    refine wpAnyK_take (i := 3) (oi := ⟨some 57, _, _, _, _, _⟩) (v := .int .i64 j) rfl (by kernel_rfl) (by kernel_rfl) (by kernel_rfl) (by kernel_rfl) (fun _ _ _ h => h) (.inl ⟨by kernel_rfl, fun W hW => by kernel_rfl⟩) hSs ?_
                    try simp only [Act.put, List.setIfInBounds_toArray, List.set_cons_zero, List.set_cons_succ]
                    refine wpAnyK_take (i := 4) (oi := ⟨some 58, _, _, _, _, _⟩) (v := .agg #[.int .i64 sk, .int .i64 sn, .string sz, .slice A1 sl.length (capF sl.length c1)]) rfl (by kernel_rfl) (by kernel_rfl) (by kernel_rfl) (by kernel_rfl) (fun _ _ _ h => h) (.inl ⟨by kernel_rfl, fun W hW => by first | (obtain ⟨z0, z1, z2, z3, z4, z5, z6, z7, z8, z9, z10, z11, z12, z13, z14, z15⟩ := hW; go_simp; done) | (obtain ⟨z0, z1, z2, z3, z4, z5, z6, z7, z8, z9, z10, z11, z12, z13, z14, z15⟩ := hW; go_simp; omega) | (obtain ⟨z0, z1, z2, z3, z4, z5, z6, z7, z8, z9, z10, z11, z12, z13, z14, z15⟩ := hW; go_simp; exact IntWalk.i64_in _ (by omega)) | (obtain ⟨z0, z1, z2, z3, z4, z5, z6, z7, z8, z9, z10, z11, z12, z13, z14, z15⟩ := hW; go_simp; simp [*]; done)⟩) hSs ?_
                    try simp only [Act.put, List.setIfInBounds_toArray, List.set_cons_zero, List.set_cons_succ]
                    refine wpAnyK_both (i := 2) (j := 6) rfl rfl rfl rfl (by kernel_rfl) (fun K hK => ?_) (fun K hK => ?_)
                    · go_simp
                      refine (HA5.out _ (hb_1.drew) Any (fun _ _ => trivial) A0 c0 (EIn.below _ hg0t (Below.refl _ _).drew (Nat.le_refl _)) A0 c0 (EIn.below _ hg0t (Below.refl _ _).drew (Nat.le_refl _))).mono ?_
                      rintro e u_2 ⟨A_2, c_2, rfl, hT_2, hq_2⟩
                      have hb_2 := (hb_1.drew).trans (hq_2.mono (hb_1.drew).size)
                      have hg0t_2 := EIn.below _ (EIn.below _ hg0t (Below.refl _ _).drew (Nat.le_refl _)) hq_2 (Nat.le_refl _)
                      have hg1t_2 := EIn.below _ (EIn.below _ hg1t (Below.refl _ _).drew (Nat.le_refl _)) hq_2 (Nat.le_refl _)
                      have hgat_2 := EIn.below _ (EIn.below _ hgat (Below.refl _ _).drew (Nat.le_refl _)) hq_2 (Nat.le_refl _)
                      have hgbt_2 := EIn.below _ (EIn.below _ hgbt (Below.refl _ _).drew (Nat.le_refl _)) hq_2 (Nat.le_refl _)
                      refine hK.out _ _ (fun _ => HSS.out _ hb_2) (fun hS9 => ?_)
                      have hS_2 := hS9 (by decide)
                      clear hK K hS9
                      try simp only [Act.put, List.setIfInBounds_toArray, List.set_cons_zero, List.set_cons_succ]
                      refine wpAnyK_both (i := 5) (j := 6) rfl rfl rfl rfl (by kernel_rfl) (fun K hK => ?_) (fun K hK => ?_)
                      · go_simp
                        refine (HP5.out _ hb_2 Any (fun _ _ => trivial) A_2 c_2 hT_2 A1 c1 hg1t_2).mono ?_
                        rintro e u_3 ⟨A_3, c_3, rfl, hT_3, hq_3⟩
                        have hb_3 := hb_2.trans (hq_3.mono hb_2.size)
                        have hg0t_2_3 := EIn.below _ hg0t_2 hq_3 (Nat.le_refl _)
                        have hg1t_2_3 := EIn.below _ hg1t_2 hq_3 (Nat.le_refl _)
                        have hgat_2_3 := EIn.below _ hgat_2 hq_3 (Nat.le_refl _)
                        have hgbt_2_3 := EIn.below _ hgbt_2 hq_3 (Nat.le_refl _)
                        have hT_2_3 := EIn.below _ hT_2 hq_3 (Nat.le_refl _)
                        refine hK.out _ _ (fun _ => HSS.out _ hb_3) (fun hS9 => ?_)
                        have hS_3 := hS9 (by decide)
                        clear hK K hS9
                        try simp only [Act.put, List.setIfInBounds_toArray, List.set_cons_zero, List.set_cons_succ]
                        refine wpAnyK_one (i := 6) rfl rfl (by kernel_rfl) (fun K hK => ?_)
                        go_simp
                        have hb_4 := Below.alloc hb_3 hb_3.size (.cells #[.int .i64 0, .int .i64 0, .string (⟨#[]⟩ : ByteArray), .slice none 0 0] 24)
                        have hl_4 : Lies (u_3.alloc (.cells #[.int .i64 0, .int .i64 0, .string (⟨#[]⟩ : ByteArray), .slice none 0 0] 24)) (u_3.heap.size) 24 #[.int .i64 0, .int .i64 0, .string (⟨#[]⟩ : ByteArray), .slice none 0 0] := Lies.new _ _ _
                        refine hK.out _ _ (fun _ => HSS.out _ hb_4) (fun hS9 => ?_)
                        have hS_4 := hS9 (by decide)
                        clear hK K hS9
                        try simp only [Act.put, List.setIfInBounds_toArray, List.set_cons_zero, List.set_cons_succ]
                        have hg0t_2_3_4 : EIn (u_3.alloc (.cells #[.int .i64 0, .int .i64 0, .string (⟨#[]⟩ : ByteArray), .slice none 0 0] 24)) (fun g => g ≠ u_3.heap.size) (.node tk tn tz tl) A0 := EIn.keep _ hg0t_2_3 (fun g j _ hlt => ⟨World.cell?_alloc_lt _ _ _ hlt, Nat.ne_of_lt hlt⟩)
                        have hg1t_2_3_4 : EIn (u_3.alloc (.cells #[.int .i64 0, .int .i64 0, .string (⟨#[]⟩ : ByteArray), .slice none 0 0] 24)) (fun g => g ≠ u_3.heap.size) (.node sk sn sz sl) A1 := EIn.keep _ hg1t_2_3 (fun g j _ hlt => ⟨World.cell?_alloc_lt _ _ _ hlt, Nat.ne_of_lt hlt⟩)
                        have hgat_2_3_4 : EIn (u_3.alloc (.cells #[.int .i64 0, .int .i64 0, .string (⟨#[]⟩ : ByteArray), .slice none 0 0] 24)) (fun g => g ≠ u_3.heap.size) (lamE (.node ek en ez el)) Aa := EIn.keep _ hgat_2_3 (fun g j _ hlt => ⟨World.cell?_alloc_lt _ _ _ hlt, Nat.ne_of_lt hlt⟩)
                        have hgbt_2_3_4 : EIn (u_3.alloc (.cells #[.int .i64 0, .int .i64 0, .string (⟨#[]⟩ : ByteArray), .slice none 0 0] 24)) (fun g => g ≠ u_3.heap.size) (lamE (.node ek en ez el)) Ab := EIn.keep _ hgbt_2_3 (fun g j _ hlt => ⟨World.cell?_alloc_lt _ _ _ hlt, Nat.ne_of_lt hlt⟩)
                        have hT_2_3_4 : EIn (u_3.alloc (.cells #[.int .i64 0, .int .i64 0, .string (⟨#[]⟩ : ByteArray), .slice none 0 0] 24)) (fun g => g ≠ u_3.heap.size) (appE (.node tk tn tz tl) (.node tk tn tz tl)) A_2 := EIn.keep _ hT_2_3 (fun g j _ hlt => ⟨World.cell?_alloc_lt _ _ _ hlt, Nat.ne_of_lt hlt⟩)
                        have hT_3_4 : EIn (u_3.alloc (.cells #[.int .i64 0, .int .i64 0, .string (⟨#[]⟩ : ByteArray), .slice none 0 0] 24)) (fun g => g ≠ u_3.heap.size) (appE (.node dk dn dz dl) (.node dk dn dz dl)) A_3 := EIn.keep _ hT_3 (fun g j _ hlt => ⟨World.cell?_alloc_lt _ _ _ hlt, Nat.ne_of_lt hlt⟩)
                        refine wpAnyK_one (i := 7) rfl rfl (by kernel_rfl) (fun K hK => ?_)
                        refine wp_store_as (F := fun W9 => Below wc.heap.size wc W9 ∧ Lies W9 (u_3.heap.size) 24 #[.int .i64 3, .int .i64 0, .string n0B, .slice A_3 2 (capF 2 c_3)] ∧ EIn W9 Any (appE (.node dk dn dz dl) (.node dk dn dz dl)) A_3) _ _ _ rfl (u_3.heap.size) 0 #[.int .i64 3, .int .i64 0, .string n0B, .slice A_3 2 (capF 2 c_3)] rfl rfl (lies_is hl_4 rfl) (by kernel_rfl) (by simp [Value.oneCell']) ⟨below_cells hb_4 (hb_3.size) _ _, lies_set4 hl_4 _ _ _ _, EIn.any _ (ein_offs _ hT_3_4 (fun h => h rfl) _ _)⟩ (fun W_5 hF_5 => ?_)
                        refine hK.out _ _ (fun h => absurd rfl h) (fun _ => ?_)
                        clear hK K
                        try simp only [Act.put, List.setIfInBounds_toArray]
                        refine wpAnyK_done (by kernel_rfl) ?_ _
                        obtain ⟨f1, f2, f3⟩ := hF_5
                        go_wp2_with fail
                        go_meet
                        exact ⟨_, A_3, c_3, rfl, hb_3.size, f2.lt, f2, f3, f1⟩
                      · go_simp
                        have hb_6 := Below.alloc hb_2 hb_2.size (.cells #[.int .i64 0, .int .i64 0, .string (⟨#[]⟩ : ByteArray), .slice none 0 0] 24)
                        have hl_6 : Lies (u_2.alloc (.cells #[.int .i64 0, .int .i64 0, .string (⟨#[]⟩ : ByteArray), .slice none 0 0] 24)) (u_2.heap.size) 24 #[.int .i64 0, .int .i64 0, .string (⟨#[]⟩ : ByteArray), .slice none 0 0] := Lies.new _ _ _
                        refine hK.out _ _ (fun _ => HSS.out _ hb_6) (fun hS9 => ?_)
                        have hS_6 := hS9 (by decide)
                        clear hK K hS9
                        try simp only [Act.put, List.setIfInBounds_toArray, List.set_cons_zero, List.set_cons_succ]
                        have hg0t_2_6 : EIn (u_2.alloc (.cells #[.int .i64 0, .int .i64 0, .string (⟨#[]⟩ : ByteArray), .slice none 0 0] 24)) (fun g => g ≠ u_2.heap.size) (.node tk tn tz tl) A0 := EIn.keep _ hg0t_2 (fun g j _ hlt => ⟨World.cell?_alloc_lt _ _ _ hlt, Nat.ne_of_lt hlt⟩)
                        have hg1t_2_6 : EIn (u_2.alloc (.cells #[.int .i64 0, .int .i64 0, .string (⟨#[]⟩ : ByteArray), .slice none 0 0] 24)) (fun g => g ≠ u_2.heap.size) (.node sk sn sz sl) A1 := EIn.keep _ hg1t_2 (fun g j _ hlt => ⟨World.cell?_alloc_lt _ _ _ hlt, Nat.ne_of_lt hlt⟩)
                        have hgat_2_6 : EIn (u_2.alloc (.cells #[.int .i64 0, .int .i64 0, .string (⟨#[]⟩ : ByteArray), .slice none 0 0] 24)) (fun g => g ≠ u_2.heap.size) (lamE (.node ek en ez el)) Aa := EIn.keep _ hgat_2 (fun g j _ hlt => ⟨World.cell?_alloc_lt _ _ _ hlt, Nat.ne_of_lt hlt⟩)
                        have hgbt_2_6 : EIn (u_2.alloc (.cells #[.int .i64 0, .int .i64 0, .string (⟨#[]⟩ : ByteArray), .slice none 0 0] 24)) (fun g => g ≠ u_2.heap.size) (lamE (.node ek en ez el)) Ab := EIn.keep _ hgbt_2 (fun g j _ hlt => ⟨World.cell?_alloc_lt _ _ _ hlt, Nat.ne_of_lt hlt⟩)
                        have hT_2_6 : EIn (u_2.alloc (.cells #[.int .i64 0, .int .i64 0, .string (⟨#[]⟩ : ByteArray), .slice none 0 0] 24)) (fun g => g ≠ u_2.heap.size) (appE (.node tk tn tz tl) (.node tk tn tz tl)) A_2 := EIn.keep _ hT_2 (fun g j _ hlt => ⟨World.cell?_alloc_lt _ _ _ hlt, Nat.ne_of_lt hlt⟩)
                        refine wpAnyK_one (i := 5) rfl rfl (by kernel_rfl) (fun K hK => ?_)
                        go_simp
                        refine (HP5.out _ hb_6 (fun g => g ≠ u_2.heap.size) (fun g h => Nat.ne_of_gt (Nat.lt_of_lt_of_le hl_6.lt h)) A_2 c_2 hT_2_6 A1 c1 hg1t_2_6).mono ?_
                        rintro e u_7 ⟨A_7, c_7, rfl, hT_7, hq_7⟩
                        have hb_7 := hb_6.trans (hq_7.mono hb_6.size)
                        have hl_6_7 := hl_6.below hq_7 hl_6.lt
                        have hg0t_2_6_7 := EIn.below _ hg0t_2_6 hq_7 (Nat.le_refl _)
                        have hg1t_2_6_7 := EIn.below _ hg1t_2_6 hq_7 (Nat.le_refl _)
                        have hgat_2_6_7 := EIn.below _ hgat_2_6 hq_7 (Nat.le_refl _)
                        have hgbt_2_6_7 := EIn.below _ hgbt_2_6 hq_7 (Nat.le_refl _)
                        have hT_2_6_7 := EIn.below _ hT_2_6 hq_7 (Nat.le_refl _)
                        refine hK.out _ _ (fun _ => HSS.out _ hb_7) (fun hS9 => ?_)
                        have hS_7 := hS9 (by decide)
                        clear hK K hS9
                        try simp only [Act.put, List.setIfInBounds_toArray, List.set_cons_zero, List.set_cons_succ]
                        refine wpAnyK_one (i := 7) rfl rfl (by kernel_rfl) (fun K hK => ?_)
                        refine wp_store_as (F := fun W9 => Below wc.heap.size wc W9 ∧ Lies W9 (u_2.heap.size) 24 #[.int .i64 3, .int .i64 0, .string n0B, .slice A_7 2 (capF 2 c_7)] ∧ EIn W9 Any (appE (.node dk dn dz dl) (.node dk dn dz dl)) A_7) _ _ _ rfl (u_2.heap.size) 0 #[.int .i64 3, .int .i64 0, .string n0B, .slice A_7 2 (capF 2 c_7)] rfl rfl (lies_is hl_6_7 rfl) (by kernel_rfl) (by simp [Value.oneCell']) ⟨below_cells hb_7 (hb_2.size) _ _, lies_set4 hl_6_7 _ _ _ _, EIn.any _ (ein_offs _ hT_7 (fun h => h rfl) _ _)⟩ (fun W_8 hF_8 => ?_)
                        refine hK.out _ _ (fun h => absurd rfl h) (fun _ => ?_)
                        clear hK K
                        try simp only [Act.put, List.setIfInBounds_toArray]
                        refine wpAnyK_done (by kernel_rfl) ?_ _
                        obtain ⟨f1, f2, f3⟩ := hF_8
                        go_wp2_with fail
                        go_meet
                        exact ⟨_, A_7, c_7, rfl, hb_2.size, f2.lt, f2, f3, f1⟩
                    · go_simp
                      have hb_9 := Below.alloc hb_1 hb_1.size (.cells #[.int .i64 0, .int .i64 0, .string (⟨#[]⟩ : ByteArray), .slice none 0 0] 24)
                      have hl_9 : Lies (wc.alloc (.cells #[.int .i64 0, .int .i64 0, .string (⟨#[]⟩ : ByteArray), .slice none 0 0] 24)) (wc.heap.size) 24 #[.int .i64 0, .int .i64 0, .string (⟨#[]⟩ : ByteArray), .slice none 0 0] := Lies.new _ _ _
                      refine hK.out _ _ (fun _ => HSS.out _ (hb_9.drew)) (fun hS9 => ?_)
                      have hS_9 := hS9 (by decide)
                      clear hK K hS9
                      try simp only [Act.put, List.setIfInBounds_toArray, List.set_cons_zero, List.set_cons_succ]
                      have hg0t_9 : EIn (wc.alloc (.cells #[.int .i64 0, .int .i64 0, .string (⟨#[]⟩ : ByteArray), .slice none 0 0] 24)) (fun g => g ≠ wc.heap.size) (.node tk tn tz tl) A0 := EIn.keep _ hg0t (fun g j _ hlt => ⟨World.cell?_alloc_lt _ _ _ hlt, Nat.ne_of_lt hlt⟩)
                      have hg1t_9 : EIn (wc.alloc (.cells #[.int .i64 0, .int .i64 0, .string (⟨#[]⟩ : ByteArray), .slice none 0 0] 24)) (fun g => g ≠ wc.heap.size) (.node sk sn sz sl) A1 := EIn.keep _ hg1t (fun g j _ hlt => ⟨World.cell?_alloc_lt _ _ _ hlt, Nat.ne_of_lt hlt⟩)
                      have hgat_9 : EIn (wc.alloc (.cells #[.int .i64 0, .int .i64 0, .string (⟨#[]⟩ : ByteArray), .slice none 0 0] 24)) (fun g => g ≠ wc.heap.size) (lamE (.node ek en ez el)) Aa := EIn.keep _ hgat (fun g j _ hlt => ⟨World.cell?_alloc_lt _ _ _ hlt, Nat.ne_of_lt hlt⟩)
                      have hgbt_9 : EIn (wc.alloc (.cells #[.int .i64 0, .int .i64 0, .string (⟨#[]⟩ : ByteArray), .slice none 0 0] 24)) (fun g => g ≠ wc.heap.size) (lamE (.node ek en ez el)) Ab := EIn.keep _ hgbt (fun g j _ hlt => ⟨World.cell?_alloc_lt _ _ _ hlt, Nat.ne_of_lt hlt⟩)
                      refine wpAnyK_one (i := 2) rfl rfl (by kernel_rfl) (fun K hK => ?_)
                      go_simp
                      refine (HA5.out _ (hb_9.drew) (fun g => g ≠ wc.heap.size) (fun g h => Nat.ne_of_gt (Nat.lt_of_lt_of_le hl_9.lt h)) A0 c0 (EIn.below _ hg0t_9 (Below.refl _ _).drew (Nat.le_refl _)) A0 c0 (EIn.below _ hg0t_9 (Below.refl _ _).drew (Nat.le_refl _))).mono ?_
                      rintro e u_10 ⟨A_10, c_10, rfl, hT_10, hq_10⟩
                      have hb_10 := (hb_9.drew).trans (hq_10.mono (hb_9.drew).size)
                      have hl_9_10 := (hl_9.drew).below hq_10 hl_9.lt
                      have hg0t_9_10 := EIn.below _ (EIn.below _ hg0t_9 (Below.refl _ _).drew (Nat.le_refl _)) hq_10 (Nat.le_refl _)
                      have hg1t_9_10 := EIn.below _ (EIn.below _ hg1t_9 (Below.refl _ _).drew (Nat.le_refl _)) hq_10 (Nat.le_refl _)
                      have hgat_9_10 := EIn.below _ (EIn.below _ hgat_9 (Below.refl _ _).drew (Nat.le_refl _)) hq_10 (Nat.le_refl _)
                      have hgbt_9_10 := EIn.below _ (EIn.below _ hgbt_9 (Below.refl _ _).drew (Nat.le_refl _)) hq_10 (Nat.le_refl _)
                      refine hK.out _ _ (fun _ => HSS.out _ hb_10) (fun hS9 => ?_)
                      have hS_10 := hS9 (by decide)
                      clear hK K hS9
                      try simp only [Act.put, List.setIfInBounds_toArray, List.set_cons_zero, List.set_cons_succ]
                      refine wpAnyK_one (i := 5) rfl rfl (by kernel_rfl) (fun K hK => ?_)
                      go_simp
                      refine (HP5.out _ hb_10 (fun g => g ≠ wc.heap.size) (fun g h => Nat.ne_of_gt (Nat.lt_of_lt_of_le hl_9_10.lt h)) A_10 c_10 hT_10 A1 c1 hg1t_9_10).mono ?_
                      rintro e u_11 ⟨A_11, c_11, rfl, hT_11, hq_11⟩
                      have hb_11 := hb_10.trans (hq_11.mono hb_10.size)
                      have hl_9_10_11 := hl_9_10.below hq_11 hl_9_10.lt
                      have hg0t_9_10_11 := EIn.below _ hg0t_9_10 hq_11 (Nat.le_refl _)
                      have hg1t_9_10_11 := EIn.below _ hg1t_9_10 hq_11 (Nat.le_refl _)
                      have hgat_9_10_11 := EIn.below _ hgat_9_10 hq_11 (Nat.le_refl _)
                      have hgbt_9_10_11 := EIn.below _ hgbt_9_10 hq_11 (Nat.le_refl _)
                      have hT_10_11 := EIn.below _ hT_10 hq_11 (Nat.le_refl _)
                      refine hK.out _ _ (fun _ => HSS.out _ hb_11) (fun hS9 => ?_)
                      have hS_11 := hS9 (by decide)
                      clear hK K hS9
                      try simp only [Act.put, List.setIfInBounds_toArray, List.set_cons_zero, List.set_cons_succ]
                      refine wpAnyK_one (i := 7) rfl rfl (by kernel_rfl) (fun K hK => ?_)
                      refine wp_store_as (F := fun W9 => Below wc.heap.size wc W9 ∧ Lies W9 (wc.heap.size) 24 #[.int .i64 3, .int .i64 0, .string n0B, .slice A_11 2 (capF 2 c_11)] ∧ EIn W9 Any (appE (.node dk dn dz dl) (.node dk dn dz dl)) A_11) _ _ _ rfl (wc.heap.size) 0 #[.int .i64 3, .int .i64 0, .string n0B, .slice A_11 2 (capF 2 c_11)] rfl rfl (lies_is hl_9_10_11 rfl) (by kernel_rfl) (by simp [Value.oneCell']) ⟨below_cells hb_11 (Nat.le_refl _) _ _, lies_set4 hl_9_10_11 _ _ _ _, EIn.any _ (ein_offs _ hT_11 (fun h => h rfl) _ _)⟩ (fun W_12 hF_12 => ?_)
                      refine hK.out _ _ (fun h => absurd rfl h) (fun _ => ?_)
                      clear hK K
                      try simp only [Act.put, List.setIfInBounds_toArray]
                      refine wpAnyK_done (by kernel_rfl) ?_ _
                      obtain ⟨f1, f2, f3⟩ := hF_12
                      go_wp2_with fail
                      go_meet
                      exact ⟨_, A_11, c_11, rfl, Nat.le_refl _, f2.lt, f2, f3, f1⟩
                  case rest =>
                    obtain ⟨gc, Ac, cc, rfl, _, _, hlx, htx, hbx⟩ := hcut
                    have hxc : Bx8 w wc gc 3 0 n0B [(.node dk dn dz dl), (.node dk dn dz dl)] Ac cc := ⟨hlx, htx, HX0.out.bw.trans (hbx.mono HX0.out.bw.size)⟩
                    have hx0 := HX0.out.step hbx
                    have hx1 := HX1.out.step hbx
                    have hxa := HXa.out.step hbx
                    have hxb := HXb.out.step hbx
                    clear hlx htx hbx HSS HX0 HX1 HXa HXb hg0t hg1t hgat hgbt HA5 HP5
                    obtain ⟨e00, e01, e02, e03⟩ := hx0.four
                    obtain ⟨e10, e11, e12, e13⟩ := hx1.four
                    have HG : Hid (Calls Try.prog 15 #[.agg #[.int .i64 tk, .int .i64 tn, .string tz, .slice A0 tl.length (capF tl.length c0)], .int .i64 j, .agg #[.int .i64 sk, .int .i64 sn, .string sz, .slice A1 sl.length (capF sl.length c1)]] wc (GivesL dk dn dz dl.length (.node dk dn dz dl) wc)) := Lib.hid (by
                      have h := put_any (.node tk tn tz tl) (.node sk sn sz sl) A0 A1 c0 c1 j wc hx0.tin (by omega) (by omega) (tameE_mono (by omega) (by omega) _ htq) hx1.tin (by omega) (by omega) (tameE_mono (by omega) (by omega) _ hsq) (by omega) (by omega)
                      rw [← HD.out] at h
                      exact h.mono fun e w' h => h.any.lit)
                    go_wp2_with fail
                    refine HG.out.mono ?_
                    rintro e w9 ⟨Ad, cd, rfl, hTd, hb9⟩
                    clear e00 e01 e02 e03 e10 e11 e12 e13 HG
                    go_upto_region 7 with fail
                    have hxd : Bx8 w (w9.alloc (.cells #[.int .i64 dk, .int .i64 dn, .string dz, .slice Ad dl.length (capF dl.length cd)] 24)) w9.heap.size dk dn dz dl Ad cd := ⟨Lies.new _ _ _, EIn.below _ hTd ((Below.refl _ w9).alloc (Nat.le_refl _) _) (Nat.le_refl _), (hx0.step hb9).bw.alloc (hx0.step hb9).bw.size _⟩
                    replace hx0 := (hx0.step hb9).old (.cells #[.int .i64 dk, .int .i64 dn, .string dz, .slice Ad dl.length (capF dl.length cd)] 24)
                    replace hx1 := (hx1.step hb9).old (.cells #[.int .i64 dk, .int .i64 dn, .string dz, .slice Ad dl.length (capF dl.length cd)] 24)
                    replace hxa := (hxa.step hb9).old (.cells #[.int .i64 dk, .int .i64 dn, .string dz, .slice Ad dl.length (capF dl.length cd)] 24)
                    replace hxb := (hxb.step hb9).old (.cells #[.int .i64 dk, .int .i64 dn, .string dz, .slice Ad dl.length (capF dl.length cd)] 24)
                    replace hxc := (hxc.step hb9).old (.cells #[.int .i64 dk, .int .i64 dn, .string dz, .slice Ad dl.length (capF dl.length cd)] 24)
                    clear hTd hb9
                    obtain ⟨gd, hgd⟩ : ∃ g, g = w9.heap.size := ⟨_, rfl⟩
                    rw [← hgd] at hxd
                    rw [← hgd]
                    clear hgd
                    generalize w9.alloc (.cells #[.int .i64 dk, .int .i64 dn, .string dz, .slice Ad dl.length (capF dl.length cd)] 24) = V7 at hx0 hx1 hxa hxb hxc hxd ⊢
                    have hg0t := hx0.tin
                    have hg1t := hx1.tin
                    have hgat := hxa.tin
                    have hgbt := hxb.tin
                    have hgct := hxc.tin
                    have hgdt := hxd.tin
                    have HSS : Hid (∀ V', Below V7.heap.size V7 V' → (fun V' : World => (V'.cell? ⟨g0, 0, none⟩ = some (.int .i64 tk) ∧ V'.cell? ⟨g0, 1, none⟩ = some (.int .i64 tn) ∧ V'.cell? ⟨g0, 2, none⟩ = some (.string tz) ∧ V'.cell? ⟨g0, 3, none⟩ = some (.slice A0 tl.length (capF tl.length c0)) ∧ V'.cell? ⟨g1, 0, none⟩ = some (.int .i64 sk) ∧ V'.cell? ⟨g1, 1, none⟩ = some (.int .i64 sn) ∧ V'.cell? ⟨g1, 2, none⟩ = some (.string sz) ∧ V'.cell? ⟨g1, 3, none⟩ = some (.slice A1 sl.length (capF sl.length c1)) ∧ V'.cell? ⟨ga, 0, none⟩ = some (.int .i64 2) ∧ V'.cell? ⟨ga, 1, none⟩ = some (.int .i64 0) ∧ V'.cell? ⟨ga, 2, none⟩ = some (.string n0B) ∧ V'.cell? ⟨ga, 3, none⟩ = some (.slice Aa 1 (capF 1 ca)) ∧ V'.cell? ⟨gb, 0, none⟩ = some (.int .i64 2) ∧ V'.cell? ⟨gb, 1, none⟩ = some (.int .i64 0) ∧ V'.cell? ⟨gb, 2, none⟩ = some (.string n0B) ∧ V'.cell? ⟨gb, 3, none⟩ = some (.slice Ab 1 (capF 1 cb)) ∧ V'.cell? ⟨gc, 0, none⟩ = some (.int .i64 3) ∧ V'.cell? ⟨gc, 1, none⟩ = some (.int .i64 0) ∧ V'.cell? ⟨gc, 2, none⟩ = some (.string n0B) ∧ V'.cell? ⟨gc, 3, none⟩ = some (.slice Ac 2 (capF 2 cc)) ∧ V'.cell? ⟨gd, 0, none⟩ = some (.int .i64 dk) ∧ V'.cell? ⟨gd, 1, none⟩ = some (.int .i64 dn) ∧ V'.cell? ⟨gd, 2, none⟩ = some (.string dz) ∧ V'.cell? ⟨gd, 3, none⟩ = some (.slice Ad dl.length (capF dl.length cd)))) V') := Lib.hid fun V' h =>
                      ⟨(h.cell (p := ⟨g0, 0, none⟩) hx0.box.lt).trans (hx0.box.cell 0), (h.cell (p := ⟨g0, 1, none⟩) hx0.box.lt).trans (hx0.box.cell 1), (h.cell (p := ⟨g0, 2, none⟩) hx0.box.lt).trans (hx0.box.cell 2), (h.cell (p := ⟨g0, 3, none⟩) hx0.box.lt).trans (hx0.box.cell 3), (h.cell (p := ⟨g1, 0, none⟩) hx1.box.lt).trans (hx1.box.cell 0), (h.cell (p := ⟨g1, 1, none⟩) hx1.box.lt).trans (hx1.box.cell 1), (h.cell (p := ⟨g1, 2, none⟩) hx1.box.lt).trans (hx1.box.cell 2), (h.cell (p := ⟨g1, 3, none⟩) hx1.box.lt).trans (hx1.box.cell 3), (h.cell (p := ⟨ga, 0, none⟩) hxa.box.lt).trans (hxa.box.cell 0), (h.cell (p := ⟨ga, 1, none⟩) hxa.box.lt).trans (hxa.box.cell 1), (h.cell (p := ⟨ga, 2, none⟩) hxa.box.lt).trans (hxa.box.cell 2), (h.cell (p := ⟨ga, 3, none⟩) hxa.box.lt).trans (hxa.box.cell 3), (h.cell (p := ⟨gb, 0, none⟩) hxb.box.lt).trans (hxb.box.cell 0), (h.cell (p := ⟨gb, 1, none⟩) hxb.box.lt).trans (hxb.box.cell 1), (h.cell (p := ⟨gb, 2, none⟩) hxb.box.lt).trans (hxb.box.cell 2), (h.cell (p := ⟨gb, 3, none⟩) hxb.box.lt).trans (hxb.box.cell 3), (h.cell (p := ⟨gc, 0, none⟩) hxc.box.lt).trans (hxc.box.cell 0), (h.cell (p := ⟨gc, 1, none⟩) hxc.box.lt).trans (hxc.box.cell 1), (h.cell (p := ⟨gc, 2, none⟩) hxc.box.lt).trans (hxc.box.cell 2), (h.cell (p := ⟨gc, 3, none⟩) hxc.box.lt).trans (hxc.box.cell 3), (h.cell (p := ⟨gd, 0, none⟩) hxd.box.lt).trans (hxd.box.cell 0), (h.cell (p := ⟨gd, 1, none⟩) hxd.box.lt).trans (hxd.box.cell 1), (h.cell (p := ⟨gd, 2, none⟩) hxd.box.lt).trans (hxd.box.cell 2), (h.cell (p := ⟨gd, 3, none⟩) hxd.box.lt).trans (hxd.box.cell 3)⟩
                    have HX0 := Lib.hid hx0
                    have HX1 := Lib.hid hx1
                    have HXa := Lib.hid hxa
                    have HXb := Lib.hid hxb
                    have HXc := Lib.hid hxc
                    have HXd := Lib.hid hxd
                    clear hx0 hx1 hxa hxb hxc hxd
                    have HS1 : Hid (∀ X, Below V7.heap.size V7 X → ∀ (A : Option Addr) (c : Nat) (hA : EIn X Any (lamE (.node ek en ez el)) A) (B : Option Addr) (d : Nat) (hB : EIn X Any (lamE (.node ek en ez el)) B), Calls Try.prog 12 #[.agg #[.int .i64 2, .int .i64 0, .string n0B, .slice A 1 (capF 1 c)], .agg #[.int .i64 2, .int .i64 0, .string n0B, .slice B 1 (capF 1 d)]] X fun e w' => e = .returned (.bool true) ∧ Below X.heap.size X w') := Lib.hid fun X hX A c hA B d hB => by
                      have h := rsame6_any (depthE (lamE (.node ek en ez el))) (lamE (.node ek en ez el)) (lamE (.node ek en ez el)) A B c d X (Nat.le_refl _) hA hB
                      rw [sameE_refl] at h
                      exact h
                    have HA1 : Hid (∀ X, Below V7.heap.size V7 X → ∀ (A : Option Addr) (c : Nat) (hA : EIn X Any (.node dk dn dz dl) A) (B : Option Addr) (d : Nat) (hB : EIn X Any (.node dk dn dz dl) B), Calls Try.prog 25 #[.agg #[.int .i64 dk, .int .i64 dn, .string dz, .slice A dl.length (capF dl.length c)], .agg #[.int .i64 dk, .int .i64 dn, .string dz, .slice B dl.length (capF dl.length d)]] X fun e w' => ∃ A c, e = .returned (.agg #[.int .i64 3, .int .i64 0, .string n0B, .slice A 2 (capF 2 c)]) ∧ EIn w' Any (appE (.node dk dn dz dl) (.node dk dn dz dl)) A ∧ Below X.heap.size X w') := Lib.hid fun X hX A c hA B d hB => appl_any (.node dk dn dz dl) (.node dk dn dz dl) A B c d X hA hB
                    have HS2 : Hid (∀ X, Below V7.heap.size V7 X → ∀ (A : Option Addr) (c : Nat) (hA : EIn X Any (appE (.node dk dn dz dl) (.node dk dn dz dl)) A) (B : Option Addr) (d : Nat) (hB : EIn X Any (appE (.node dk dn dz dl) (.node dk dn dz dl)) B), Calls Try.prog 12 #[.agg #[.int .i64 3, .int .i64 0, .string n0B, .slice A 2 (capF 2 c)], .agg #[.int .i64 3, .int .i64 0, .string n0B, .slice B 2 (capF 2 d)]] X fun e w' => e = .returned (.bool true) ∧ Below X.heap.size X w') := Lib.hid fun X hX A c hA B d hB => by
                      have h := rsame6_any (depthE (appE (.node dk dn dz dl) (.node dk dn dz dl))) (appE (.node dk dn dz dl) (.node dk dn dz dl)) (appE (.node dk dn dz dl) (.node dk dn dz dl)) A B c d X (Nat.le_refl _) hA hB
                      rw [sameE_refl] at h
                      exact h
                    have HL1 : Hid (∀ X, Below V7.heap.size V7 X → ∀ (A : Option Addr) (c : Nat) (hA : EIn X Any (.node tk tn tz tl) A), Calls Try.prog 24 #[.agg #[.int .i64 tk, .int .i64 tn, .string tz, .slice A tl.length (capF tl.length c)]] X fun e w' => ∃ A c, e = .returned (.agg #[.int .i64 2, .int .i64 0, .string n0B, .slice A 1 (capF 1 c)]) ∧ EIn w' Any (lamE (.node tk tn tz tl)) A ∧ Below X.heap.size X w') := Lib.hid fun X hX A c hA => laml_any (.node tk tn tz tl) A c X hA
                    have HU1 : Hid (∀ X, Below V7.heap.size V7 X → ∀ (A : Option Addr) (c : Nat) (hA : EIn X Any (lamE (.node tk tn tz tl)) A), Calls Try.prog 17 #[.agg #[.int .i64 2, .int .i64 0, .string n0B, .slice A 1 (capF 1 c)], .int .i64 j] X fun e w' => e = .returned (.int .i64 (n1 : Int)) ∧ Below X.heap.size X w') := Lib.hid fun X hX A c hA => by
                      have h := uses_any (depthE (lamE (.node tk tn tz tl))) (lamE (.node tk tn tz tl)) A c j X (Nat.le_refl _) hlt1 hlt2 hlt3 (by omega) (by omega) hA
                      rw [HUL.out] at h
                      exact h
                    have HU2 : Hid (∀ X, Below V7.heap.size V7 X → ∀ (A : Option Addr) (c : Nat) (hA : EIn X Any (.node tk tn tz tl) A), Calls Try.prog 17 #[.agg #[.int .i64 tk, .int .i64 tn, .string tz, .slice A tl.length (capF tl.length c)], .int .i64 (j + 1)] X fun e w' => e = .returned (.int .i64 (n1 : Int)) ∧ Below X.heap.size X w') := Lib.hid fun X hX A c hA => by
                      have h := uses_any (depthE (.node tk tn tz tl)) (.node tk tn tz tl) A c (j + 1) X (Nat.le_refl _) (by omega) (by omega) (tameE_mono (by omega) (by omega) _ htq) (by omega) (by omega) hA
                      rw [← HN1.out] at h
                      exact h
                    have HA2 : Hid (∀ X, Below V7.heap.size V7 X → ∀ (A : Option Addr) (c : Nat) (hA : EIn X Any (.node tk tn tz tl) A) (B : Option Addr) (d : Nat) (hB : EIn X Any (.node sk sn sz sl) B), Calls Try.prog 25 #[.agg #[.int .i64 tk, .int .i64 tn, .string tz, .slice A tl.length (capF tl.length c)], .agg #[.int .i64 sk, .int .i64 sn, .string sz, .slice B sl.length (capF sl.length d)]] X fun e w' => ∃ A c, e = .returned (.agg #[.int .i64 3, .int .i64 0, .string n0B, .slice A 2 (capF 2 c)]) ∧ EIn w' Any (appE (.node tk tn tz tl) (.node sk sn sz sl)) A ∧ Below X.heap.size X w') := Lib.hid fun X hX A c hA B d hB => appl_any (.node tk tn tz tl) (.node sk sn sz sl) A B c d X hA hB
                    have HU3 : Hid (∀ X, Below V7.heap.size V7 X → ∀ (A : Option Addr) (c : Nat) (hA : EIn X Any (appE (.node tk tn tz tl) (.node sk sn sz sl)) A), Calls Try.prog 17 #[.agg #[.int .i64 3, .int .i64 0, .string n0B, .slice A 2 (capF 2 c)], .int .i64 j] X fun e w' => e = .returned (.int .i64 ((n2 : Int) + (n3 : Int))) ∧ Below X.heap.size X w') := Lib.hid fun X hX A c hA => by
                      have h := uses_any (depthE (appE (.node tk tn tz tl) (.node sk sn sz sl))) (appE (.node tk tn tz tl) (.node sk sn sz sl)) A c j X (Nat.le_refl _) has1 has2 has3 (by omega) (by omega) hA
                      rw [HUA.out, Int.natCast_add] at h
                      exact h
                    have HU4 : Hid (∀ X, Below V7.heap.size V7 X → ∀ (A : Option Addr) (c : Nat) (hA : EIn X Any (.node tk tn tz tl) A), Calls Try.prog 17 #[.agg #[.int .i64 tk, .int .i64 tn, .string tz, .slice A tl.length (capF tl.length c)], .int .i64 j] X fun e w' => e = .returned (.int .i64 (n2 : Int)) ∧ Below X.heap.size X w') := Lib.hid fun X hX A c hA => by
                      have h := uses_any (depthE (.node tk tn tz tl)) (.node tk tn tz tl) A c j X (Nat.le_refl _) (by omega) (by omega) (tameE_mono (by omega) (by omega) _ htq) (by omega) (by omega) hA
                      rw [← HN2.out] at h
                      exact h
                    have HU5 : Hid (∀ X, Below V7.heap.size V7 X → ∀ (A : Option Addr) (c : Nat) (hA : EIn X Any (.node sk sn sz sl) A), Calls Try.prog 17 #[.agg #[.int .i64 sk, .int .i64 sn, .string sz, .slice A sl.length (capF sl.length c)], .int .i64 j] X fun e w' => e = .returned (.int .i64 (n3 : Int)) ∧ Below X.heap.size X w') := Lib.hid fun X hX A c hA => by
                      have h := uses_any (depthE (.node sk sn sz sl)) (.node sk sn sz sl) A c j X (Nat.le_refl _) (by omega) (by omega) (tameE_mono (by omega) (by omega) _ hsq) (by omega) (by omega) hA
                      rw [← HN3.out] at h
                      exact h
                    have hb_1 : Below V7.heap.size V7 V7 := Below.refl _ _
                    refine wp_region_K (S := (fun V' : World => (V'.cell? ⟨g0, 0, none⟩ = some (.int .i64 tk) ∧ V'.cell? ⟨g0, 1, none⟩ = some (.int .i64 tn) ∧ V'.cell? ⟨g0, 2, none⟩ = some (.string tz) ∧ V'.cell? ⟨g0, 3, none⟩ = some (.slice A0 tl.length (capF tl.length c0)) ∧ V'.cell? ⟨g1, 0, none⟩ = some (.int .i64 sk) ∧ V'.cell? ⟨g1, 1, none⟩ = some (.int .i64 sn) ∧ V'.cell? ⟨g1, 2, none⟩ = some (.string sz) ∧ V'.cell? ⟨g1, 3, none⟩ = some (.slice A1 sl.length (capF sl.length c1)) ∧ V'.cell? ⟨ga, 0, none⟩ = some (.int .i64 2) ∧ V'.cell? ⟨ga, 1, none⟩ = some (.int .i64 0) ∧ V'.cell? ⟨ga, 2, none⟩ = some (.string n0B) ∧ V'.cell? ⟨ga, 3, none⟩ = some (.slice Aa 1 (capF 1 ca)) ∧ V'.cell? ⟨gb, 0, none⟩ = some (.int .i64 2) ∧ V'.cell? ⟨gb, 1, none⟩ = some (.int .i64 0) ∧ V'.cell? ⟨gb, 2, none⟩ = some (.string n0B) ∧ V'.cell? ⟨gb, 3, none⟩ = some (.slice Ab 1 (capF 1 cb)) ∧ V'.cell? ⟨gc, 0, none⟩ = some (.int .i64 3) ∧ V'.cell? ⟨gc, 1, none⟩ = some (.int .i64 0) ∧ V'.cell? ⟨gc, 2, none⟩ = some (.string n0B) ∧ V'.cell? ⟨gc, 3, none⟩ = some (.slice Ac 2 (capF 2 cc)) ∧ V'.cell? ⟨gd, 0, none⟩ = some (.int .i64 dk) ∧ V'.cell? ⟨gd, 1, none⟩ = some (.int .i64 dn) ∧ V'.cell? ⟨gd, 2, none⟩ = some (.string dz) ∧ V'.cell? ⟨gd, 3, none⟩ = some (.slice Ad dl.length (capF dl.length cd))))) 36 rfl (HSS.out _ hb_1.drew) (fun hSs => ?_)
                    change wpAnyK _ _ _ _ _ _ 37 (Array.replicate 37 false) _ _
                    refine wpAnyK_take (i := 0) (oi := ⟨some 64, _, _, _, _, _⟩) (v := .agg #[.int .i64 2, .int .i64 0, .string n0B, .slice Aa 1 (capF 1 ca)]) rfl (by kernel_rfl) (by kernel_rfl) (by kernel_rfl) (by kernel_rfl) (fun _ _ _ h => h) (.inl ⟨by kernel_rfl, fun W hW => by first | (obtain ⟨z0, z1, z2, z3, z4, z5, z6, z7, z8, z9, z10, z11, z12, z13, z14, z15, z16, z17, z18, z19, z20, z21, z22, z23⟩ := hW; go_simp; done) | (obtain ⟨z0, z1, z2, z3, z4, z5, z6, z7, z8, z9, z10, z11, z12, z13, z14, z15, z16, z17, z18, z19, z20, z21, z22, z23⟩ := hW; go_simp; omega) | (obtain ⟨z0, z1, z2, z3, z4, z5, z6, z7, z8, z9, z10, z11, z12, z13, z14, z15, z16, z17, z18, z19, z20, z21, z22, z23⟩ := hW; go_simp; exact IntWalk.i64_in _ (by omega)) | (obtain ⟨z0, z1, z2, z3, z4, z5, z6, z7, z8, z9, z10, z11, z12, z13, z14, z15, z16, z17, z18, z19, z20, z21, z22, z23⟩ := hW; go_simp; simp [*]; done)⟩) hSs ?_
                    try simp only [Act.put, List.setIfInBounds_toArray, List.set_cons_zero, List.set_cons_succ]
                    refine wpAnyK_take (i := 1) (oi := ⟨some 65, _, _, _, _, _⟩) (v := .agg #[.int .i64 2, .int .i64 0, .string n0B, .slice Ab 1 (capF 1 cb)]) rfl (by kernel_rfl) (by kernel_rfl) (by kernel_rfl) (by kernel_rfl) (fun _ _ _ h => h) (.inl ⟨by kernel_rfl, fun W hW => by first | (obtain ⟨z0, z1, z2, z3, z4, z5, z6, z7, z8, z9, z10, z11, z12, z13, z14, z15, z16, z17, z18, z19, z20, z21, z22, z23⟩ := hW; go_simp; done) | (obtain ⟨z0, z1, z2, z3, z4, z5, z6, z7, z8, z9, z10, z11, z12, z13, z14, z15, z16, z17, z18, z19, z20, z21, z22, z23⟩ := hW; go_simp; omega) | (obtain ⟨z0, z1, z2, z3, z4, z5, z6, z7, z8, z9, z10, z11, z12, z13, z14, z15, z16, z17, z18, z19, z20, z21, z22, z23⟩ := hW; go_simp; exact IntWalk.i64_in _ (by omega)) | (obtain ⟨z0, z1, z2, z3, z4, z5, z6, z7, z8, z9, z10, z11, z12, z13, z14, z15, z16, z17, z18, z19, z20, z21, z22, z23⟩ := hW; go_simp; simp [*]; done)⟩) hSs ?_
                    try simp only [Act.put, List.setIfInBounds_toArray, List.set_cons_zero, List.set_cons_succ]
                    refine wpAnyK_one (i := 2) rfl rfl (by kernel_rfl) (fun K hK => ?_)
                    go_simp
                    refine (HS1.out _ (hb_1.drew) Aa ca (EIn.below _ hgat (Below.refl _ _).drew (Nat.le_refl _)) Ab cb (EIn.below _ hgbt (Below.refl _ _).drew (Nat.le_refl _))).mono ?_
                    rintro e u_2 ⟨rfl, hq_2⟩
                    have hb_2 := (hb_1.drew).trans (hq_2.mono (hb_1.drew).size)
                    have hg0t_2 := EIn.below _ (EIn.below _ hg0t (Below.refl _ _).drew (Nat.le_refl _)) hq_2 (Nat.le_refl _)
                    have hg1t_2 := EIn.below _ (EIn.below _ hg1t (Below.refl _ _).drew (Nat.le_refl _)) hq_2 (Nat.le_refl _)
                    have hgat_2 := EIn.below _ (EIn.below _ hgat (Below.refl _ _).drew (Nat.le_refl _)) hq_2 (Nat.le_refl _)
                    have hgbt_2 := EIn.below _ (EIn.below _ hgbt (Below.refl _ _).drew (Nat.le_refl _)) hq_2 (Nat.le_refl _)
                    have hgct_2 := EIn.below _ (EIn.below _ hgct (Below.refl _ _).drew (Nat.le_refl _)) hq_2 (Nat.le_refl _)
                    have hgdt_2 := EIn.below _ (EIn.below _ hgdt (Below.refl _ _).drew (Nat.le_refl _)) hq_2 (Nat.le_refl _)
                    clear hg0t hg1t hgat hgbt hgct hgdt
                    refine hK.out _ _ (fun _ => HSS.out _ hb_2) (fun hS9 => ?_)
                    have hS_2 := hS9 (by decide)
                    clear hK K hS9
                    try simp only [Act.put, List.setIfInBounds_toArray, List.set_cons_zero, List.set_cons_succ]
                    refine wpAnyK_take (i := 3) (oi := ⟨some 67, _, _, _, _, _⟩) (v := .bool true) rfl (by kernel_rfl) (by kernel_rfl) (by kernel_rfl) (by kernel_rfl) (fun _ _ _ h => h) (.inl ⟨by kernel_rfl, fun W hW => by kernel_rfl⟩) hS_2 ?_
                    try simp only [Act.put, List.setIfInBounds_toArray, List.set_cons_zero, List.set_cons_succ]
                    refine wpAnyK_take (i := 4) (oi := ⟨some 68, _, _, _, _, _⟩) (v := .agg #[.int .i64 3, .int .i64 0, .string n0B, .slice Ac 2 (capF 2 cc)]) rfl (by kernel_rfl) (by kernel_rfl) (by kernel_rfl) (by kernel_rfl) (fun _ _ _ h => h) (.inl ⟨by kernel_rfl, fun W hW => by first | (obtain ⟨z0, z1, z2, z3, z4, z5, z6, z7, z8, z9, z10, z11, z12, z13, z14, z15, z16, z17, z18, z19, z20, z21, z22, z23⟩ := hW; go_simp; done) | (obtain ⟨z0, z1, z2, z3, z4, z5, z6, z7, z8, z9, z10, z11, z12, z13, z14, z15, z16, z17, z18, z19, z20, z21, z22, z23⟩ := hW; go_simp; omega) | (obtain ⟨z0, z1, z2, z3, z4, z5, z6, z7, z8, z9, z10, z11, z12, z13, z14, z15, z16, z17, z18, z19, z20, z21, z22, z23⟩ := hW; go_simp; exact IntWalk.i64_in _ (by omega)) | (obtain ⟨z0, z1, z2, z3, z4, z5, z6, z7, z8, z9, z10, z11, z12, z13, z14, z15, z16, z17, z18, z19, z20, z21, z22, z23⟩ := hW; go_simp; simp [*]; done)⟩) hS_2 ?_
                    try simp only [Act.put, List.setIfInBounds_toArray, List.set_cons_zero, List.set_cons_succ]
                    refine wpAnyK_take (i := 5) (oi := ⟨some 69, _, _, _, _, _⟩) (v := .agg #[.int .i64 dk, .int .i64 dn, .string dz, .slice Ad dl.length (capF dl.length cd)]) rfl (by kernel_rfl) (by kernel_rfl) (by kernel_rfl) (by kernel_rfl) (fun _ _ _ h => h) (.inl ⟨by kernel_rfl, fun W hW => by first | (obtain ⟨z0, z1, z2, z3, z4, z5, z6, z7, z8, z9, z10, z11, z12, z13, z14, z15, z16, z17, z18, z19, z20, z21, z22, z23⟩ := hW; go_simp; done) | (obtain ⟨z0, z1, z2, z3, z4, z5, z6, z7, z8, z9, z10, z11, z12, z13, z14, z15, z16, z17, z18, z19, z20, z21, z22, z23⟩ := hW; go_simp; omega) | (obtain ⟨z0, z1, z2, z3, z4, z5, z6, z7, z8, z9, z10, z11, z12, z13, z14, z15, z16, z17, z18, z19, z20, z21, z22, z23⟩ := hW; go_simp; exact IntWalk.i64_in _ (by omega)) | (obtain ⟨z0, z1, z2, z3, z4, z5, z6, z7, z8, z9, z10, z11, z12, z13, z14, z15, z16, z17, z18, z19, z20, z21, z22, z23⟩ := hW; go_simp; simp [*]; done)⟩) hS_2 ?_
                    try simp only [Act.put, List.setIfInBounds_toArray, List.set_cons_zero, List.set_cons_succ]
                    refine wpAnyK_take (i := 6) (oi := ⟨some 70, _, _, _, _, _⟩) (v := .agg #[.int .i64 dk, .int .i64 dn, .string dz, .slice Ad dl.length (capF dl.length cd)]) rfl (by kernel_rfl) (by kernel_rfl) (by kernel_rfl) (by kernel_rfl) (fun _ _ _ h => h) (.inl ⟨by kernel_rfl, fun W hW => by first | (obtain ⟨z0, z1, z2, z3, z4, z5, z6, z7, z8, z9, z10, z11, z12, z13, z14, z15, z16, z17, z18, z19, z20, z21, z22, z23⟩ := hW; go_simp; done) | (obtain ⟨z0, z1, z2, z3, z4, z5, z6, z7, z8, z9, z10, z11, z12, z13, z14, z15, z16, z17, z18, z19, z20, z21, z22, z23⟩ := hW; go_simp; omega) | (obtain ⟨z0, z1, z2, z3, z4, z5, z6, z7, z8, z9, z10, z11, z12, z13, z14, z15, z16, z17, z18, z19, z20, z21, z22, z23⟩ := hW; go_simp; exact IntWalk.i64_in _ (by omega)) | (obtain ⟨z0, z1, z2, z3, z4, z5, z6, z7, z8, z9, z10, z11, z12, z13, z14, z15, z16, z17, z18, z19, z20, z21, z22, z23⟩ := hW; go_simp; simp [*]; done)⟩) hS_2 ?_
                    try simp only [Act.put, List.setIfInBounds_toArray, List.set_cons_zero, List.set_cons_succ]
                    refine wpAnyK_oneW (i := 7) rfl (by kernel_rfl) (by kernel_rfl) (fun K hK => ?_)
                    go_simp
                    refine (HA1.out _ hb_2 Ad cd hgdt_2 Ad cd hgdt_2).mono ?_
                    rintro e u_3 ⟨A_3, c_3, rfl, hT_3, hq_3⟩
                    have hb_3 := hb_2.trans (hq_3.mono hb_2.size)
                    have hg0t_2_3 := EIn.below _ hg0t_2 hq_3 (Nat.le_refl _)
                    have hg1t_2_3 := EIn.below _ hg1t_2 hq_3 (Nat.le_refl _)
                    have hgat_2_3 := EIn.below _ hgat_2 hq_3 (Nat.le_refl _)
                    have hgbt_2_3 := EIn.below _ hgbt_2 hq_3 (Nat.le_refl _)
                    have hgct_2_3 := EIn.below _ hgct_2 hq_3 (Nat.le_refl _)
                    have hgdt_2_3 := EIn.below _ hgdt_2 hq_3 (Nat.le_refl _)
                    clear hg0t_2 hg1t_2 hgat_2 hgbt_2 hgct_2 hgdt_2
                    refine hK.out _ _ (fun _ => HSS.out _ hb_3) (fun hS9 => ?_)
                    have hS_3 := hS9 (by decide)
                    clear hK K hS9
                    try simp only [Act.put, List.setIfInBounds_toArray, List.set_cons_zero, List.set_cons_succ]
                    refine wpAnyK_oneW (i := 8) rfl (by kernel_rfl) (by kernel_rfl) (fun K hK => ?_)
                    go_simp
                    refine (HS2.out _ hb_3 Ac cc hgct_2_3 A_3 c_3 hT_3).mono ?_
                    rintro e u_4 ⟨rfl, hq_4⟩
                    have hb_4 := hb_3.trans (hq_4.mono hb_3.size)
                    have hg0t_2_3_4 := EIn.below _ hg0t_2_3 hq_4 (Nat.le_refl _)
                    have hg1t_2_3_4 := EIn.below _ hg1t_2_3 hq_4 (Nat.le_refl _)
                    have hgat_2_3_4 := EIn.below _ hgat_2_3 hq_4 (Nat.le_refl _)
                    have hgbt_2_3_4 := EIn.below _ hgbt_2_3 hq_4 (Nat.le_refl _)
                    have hgct_2_3_4 := EIn.below _ hgct_2_3 hq_4 (Nat.le_refl _)
                    have hgdt_2_3_4 := EIn.below _ hgdt_2_3 hq_4 (Nat.le_refl _)
                    have hT_3_4 := EIn.below _ hT_3 hq_4 (Nat.le_refl _)
                    clear hg0t_2_3 hg1t_2_3 hgat_2_3 hgbt_2_3 hgct_2_3 hgdt_2_3 hT_3
                    refine hK.out _ _ (fun _ => HSS.out _ hb_4) (fun hS9 => ?_)
                    have hS_4 := hS9 (by decide)
                    clear hK K hS9
                    try simp only [Act.put, List.setIfInBounds_toArray, List.set_cons_zero, List.set_cons_succ]
                    refine wpAnyK_take (i := 9) (oi := ⟨some 73, _, _, _, _, _⟩) (v := .bool true) rfl (by kernel_rfl) (by kernel_rfl) (by kernel_rfl) (by kernel_rfl) (fun _ _ _ h => h) (.inl ⟨by kernel_rfl, fun W hW => by kernel_rfl⟩) hS_4 ?_
                    try simp only [Act.put, List.setIfInBounds_toArray, List.set_cons_zero, List.set_cons_succ]
                    refine wpAnyK_take (i := 10) (oi := ⟨some 74, _, _, _, _, _⟩) (v := .bool true) rfl (by kernel_rfl) (by kernel_rfl) (by kernel_rfl) (by kernel_rfl) (fun _ _ _ h => h) (.inl ⟨by kernel_rfl, fun W hW => by kernel_rfl⟩) hS_4 ?_
                    try simp only [Act.put, List.setIfInBounds_toArray, List.set_cons_zero, List.set_cons_succ]
                    refine wpAnyK_take (i := 11) (oi := ⟨some 75, _, _, _, _, _⟩) (v := .agg #[.int .i64 tk, .int .i64 tn, .string tz, .slice A0 tl.length (capF tl.length c0)]) rfl (by kernel_rfl) (by kernel_rfl) (by kernel_rfl) (by kernel_rfl) (fun _ _ _ h => h) (.inl ⟨by kernel_rfl, fun W hW => by first | (obtain ⟨z0, z1, z2, z3, z4, z5, z6, z7, z8, z9, z10, z11, z12, z13, z14, z15, z16, z17, z18, z19, z20, z21, z22, z23⟩ := hW; go_simp; done) | (obtain ⟨z0, z1, z2, z3, z4, z5, z6, z7, z8, z9, z10, z11, z12, z13, z14, z15, z16, z17, z18, z19, z20, z21, z22, z23⟩ := hW; go_simp; omega) | (obtain ⟨z0, z1, z2, z3, z4, z5, z6, z7, z8, z9, z10, z11, z12, z13, z14, z15, z16, z17, z18, z19, z20, z21, z22, z23⟩ := hW; go_simp; exact IntWalk.i64_in _ (by omega)) | (obtain ⟨z0, z1, z2, z3, z4, z5, z6, z7, z8, z9, z10, z11, z12, z13, z14, z15, z16, z17, z18, z19, z20, z21, z22, z23⟩ := hW; go_simp; simp [*]; done)⟩) hS_4 ?_
                    try simp only [Act.put, List.setIfInBounds_toArray, List.set_cons_zero, List.set_cons_succ]
                    refine wpAnyK_take (i := 13) (oi := ⟨some 77, _, _, _, _, _⟩) (v := .int .i64 j) rfl (by kernel_rfl) (by kernel_rfl) (by kernel_rfl) (by kernel_rfl) (fun _ _ _ h => h) (.inl ⟨by kernel_rfl, fun W hW => by kernel_rfl⟩) hS_4 ?_
                    try simp only [Act.put, List.setIfInBounds_toArray, List.set_cons_zero, List.set_cons_succ]
                    refine wpAnyK_take (i := 15) (oi := ⟨some 79, _, _, _, _, _⟩) (v := .agg #[.int .i64 tk, .int .i64 tn, .string tz, .slice A0 tl.length (capF tl.length c0)]) rfl (by kernel_rfl) (by kernel_rfl) (by kernel_rfl) (by kernel_rfl) (fun _ _ _ h => h) (.inl ⟨by kernel_rfl, fun W hW => by first | (obtain ⟨z0, z1, z2, z3, z4, z5, z6, z7, z8, z9, z10, z11, z12, z13, z14, z15, z16, z17, z18, z19, z20, z21, z22, z23⟩ := hW; go_simp; done) | (obtain ⟨z0, z1, z2, z3, z4, z5, z6, z7, z8, z9, z10, z11, z12, z13, z14, z15, z16, z17, z18, z19, z20, z21, z22, z23⟩ := hW; go_simp; omega) | (obtain ⟨z0, z1, z2, z3, z4, z5, z6, z7, z8, z9, z10, z11, z12, z13, z14, z15, z16, z17, z18, z19, z20, z21, z22, z23⟩ := hW; go_simp; exact IntWalk.i64_in _ (by omega)) | (obtain ⟨z0, z1, z2, z3, z4, z5, z6, z7, z8, z9, z10, z11, z12, z13, z14, z15, z16, z17, z18, z19, z20, z21, z22, z23⟩ := hW; go_simp; simp [*]; done)⟩) hS_4 ?_
                    try simp only [Act.put, List.setIfInBounds_toArray, List.set_cons_zero, List.set_cons_succ]
                    refine wpAnyK_take (i := 16) (oi := ⟨some 80, _, _, _, _, _⟩) (v := .int .i64 j) rfl (by kernel_rfl) (by kernel_rfl) (by kernel_rfl) (by kernel_rfl) (fun _ _ _ h => h) (.inl ⟨by kernel_rfl, fun W hW => by kernel_rfl⟩) hS_4 ?_
                    try simp only [Act.put, List.setIfInBounds_toArray, List.set_cons_zero, List.set_cons_succ]
                    refine wpAnyK_take (i := 17) (oi := ⟨some 81, _, _, _, _, _⟩) (v := .int .i64 (j + 1)) rfl (by kernel_rfl) (by kernel_rfl) (by kernel_rfl) (by kernel_rfl) (fun _ _ _ h => h) (.inl ⟨by kernel_rfl, fun W hW => by first | (obtain ⟨z0, z1, z2, z3, z4, z5, z6, z7, z8, z9, z10, z11, z12, z13, z14, z15, z16, z17, z18, z19, z20, z21, z22, z23⟩ := hW; go_simp; done) | (obtain ⟨z0, z1, z2, z3, z4, z5, z6, z7, z8, z9, z10, z11, z12, z13, z14, z15, z16, z17, z18, z19, z20, z21, z22, z23⟩ := hW; go_simp; omega) | (obtain ⟨z0, z1, z2, z3, z4, z5, z6, z7, z8, z9, z10, z11, z12, z13, z14, z15, z16, z17, z18, z19, z20, z21, z22, z23⟩ := hW; go_simp; exact IntWalk.i64_in _ (by omega)) | (obtain ⟨z0, z1, z2, z3, z4, z5, z6, z7, z8, z9, z10, z11, z12, z13, z14, z15, z16, z17, z18, z19, z20, z21, z22, z23⟩ := hW; go_simp; simp [*]; done)⟩) hS_4 ?_
                    try simp only [Act.put, List.setIfInBounds_toArray, List.set_cons_zero, List.set_cons_succ]
                    refine wpAnyK_oneW (i := 12) rfl (by kernel_rfl) (by kernel_rfl) (fun K hK => ?_)
                    go_simp
                    refine (HL1.out _ hb_4 A0 c0 hg0t_2_3_4).mono ?_
                    rintro e u_5 ⟨A_5, c_5, rfl, hT_5, hq_5⟩
                    have hb_5 := hb_4.trans (hq_5.mono hb_4.size)
                    have hg0t_2_3_4_5 := EIn.below _ hg0t_2_3_4 hq_5 (Nat.le_refl _)
                    have hg1t_2_3_4_5 := EIn.below _ hg1t_2_3_4 hq_5 (Nat.le_refl _)
                    have hgat_2_3_4_5 := EIn.below _ hgat_2_3_4 hq_5 (Nat.le_refl _)
                    have hgbt_2_3_4_5 := EIn.below _ hgbt_2_3_4 hq_5 (Nat.le_refl _)
                    have hgct_2_3_4_5 := EIn.below _ hgct_2_3_4 hq_5 (Nat.le_refl _)
                    have hgdt_2_3_4_5 := EIn.below _ hgdt_2_3_4 hq_5 (Nat.le_refl _)
                    have hT_3_4_5 := EIn.below _ hT_3_4 hq_5 (Nat.le_refl _)
                    clear hg0t_2_3_4 hg1t_2_3_4 hgat_2_3_4 hgbt_2_3_4 hgct_2_3_4 hgdt_2_3_4 hT_3_4
                    refine hK.out _ _ (fun _ => HSS.out _ hb_5) (fun hS9 => ?_)
                    have hS_5 := hS9 (by decide)
                    clear hK K hS9
                    try simp only [Act.put, List.setIfInBounds_toArray, List.set_cons_zero, List.set_cons_succ]
                    refine wpAnyK_oneW (i := 14) rfl (by kernel_rfl) (by kernel_rfl) (fun K hK => ?_)
                    go_simp
                    refine (HU1.out _ hb_5 A_5 c_5 hT_5).mono ?_
                    rintro e u_6 ⟨rfl, hq_6⟩
                    have hb_6 := hb_5.trans (hq_6.mono hb_5.size)
                    have hg0t_2_3_4_5_6 := EIn.below _ hg0t_2_3_4_5 hq_6 (Nat.le_refl _)
                    have hg1t_2_3_4_5_6 := EIn.below _ hg1t_2_3_4_5 hq_6 (Nat.le_refl _)
                    have hgat_2_3_4_5_6 := EIn.below _ hgat_2_3_4_5 hq_6 (Nat.le_refl _)
                    have hgbt_2_3_4_5_6 := EIn.below _ hgbt_2_3_4_5 hq_6 (Nat.le_refl _)
                    have hgct_2_3_4_5_6 := EIn.below _ hgct_2_3_4_5 hq_6 (Nat.le_refl _)
                    have hgdt_2_3_4_5_6 := EIn.below _ hgdt_2_3_4_5 hq_6 (Nat.le_refl _)
                    have hT_3_4_5_6 := EIn.below _ hT_3_4_5 hq_6 (Nat.le_refl _)
                    have hT_5_6 := EIn.below _ hT_5 hq_6 (Nat.le_refl _)
                    clear hg0t_2_3_4_5 hg1t_2_3_4_5 hgat_2_3_4_5 hgbt_2_3_4_5 hgct_2_3_4_5 hgdt_2_3_4_5 hT_3_4_5 hT_5
                    refine hK.out _ _ (fun _ => HSS.out _ hb_6) (fun hS9 => ?_)
                    have hS_6 := hS9 (by decide)
                    clear hK K hS9
                    try simp only [Act.put, List.setIfInBounds_toArray, List.set_cons_zero, List.set_cons_succ]
                    refine wpAnyK_oneW (i := 18) rfl (by kernel_rfl) (by kernel_rfl) (fun K hK => ?_)
                    go_simp
                    refine (HU2.out _ hb_6 A0 c0 hg0t_2_3_4_5_6).mono ?_
                    rintro e u_7 ⟨rfl, hq_7⟩
                    have hb_7 := hb_6.trans (hq_7.mono hb_6.size)
                    have hg0t_2_3_4_5_6_7 := EIn.below _ hg0t_2_3_4_5_6 hq_7 (Nat.le_refl _)
                    have hg1t_2_3_4_5_6_7 := EIn.below _ hg1t_2_3_4_5_6 hq_7 (Nat.le_refl _)
                    have hgat_2_3_4_5_6_7 := EIn.below _ hgat_2_3_4_5_6 hq_7 (Nat.le_refl _)
                    have hgbt_2_3_4_5_6_7 := EIn.below _ hgbt_2_3_4_5_6 hq_7 (Nat.le_refl _)
                    have hgct_2_3_4_5_6_7 := EIn.below _ hgct_2_3_4_5_6 hq_7 (Nat.le_refl _)
                    have hgdt_2_3_4_5_6_7 := EIn.below _ hgdt_2_3_4_5_6 hq_7 (Nat.le_refl _)
                    have hT_3_4_5_6_7 := EIn.below _ hT_3_4_5_6 hq_7 (Nat.le_refl _)
                    have hT_5_6_7 := EIn.below _ hT_5_6 hq_7 (Nat.le_refl _)
                    clear hg0t_2_3_4_5_6 hg1t_2_3_4_5_6 hgat_2_3_4_5_6 hgbt_2_3_4_5_6 hgct_2_3_4_5_6 hgdt_2_3_4_5_6 hT_3_4_5_6 hT_5_6
                    refine hK.out _ _ (fun _ => HSS.out _ hb_7) (fun hS9 => ?_)
                    have hS_7 := hS9 (by decide)
                    clear hK K hS9
                    try simp only [Act.put, List.setIfInBounds_toArray, List.set_cons_zero, List.set_cons_succ]
                    refine wpAnyK_take (i := 19) (oi := ⟨some 83, _, _, _, _, _⟩) (v := .bool true) rfl (by kernel_rfl) (by kernel_rfl) (by kernel_rfl) (by kernel_rfl) (fun _ _ _ h => h) (.inl ⟨by kernel_rfl, fun W hW => by first | (obtain ⟨z0, z1, z2, z3, z4, z5, z6, z7, z8, z9, z10, z11, z12, z13, z14, z15, z16, z17, z18, z19, z20, z21, z22, z23⟩ := hW; go_simp; done) | (obtain ⟨z0, z1, z2, z3, z4, z5, z6, z7, z8, z9, z10, z11, z12, z13, z14, z15, z16, z17, z18, z19, z20, z21, z22, z23⟩ := hW; go_simp; omega) | (obtain ⟨z0, z1, z2, z3, z4, z5, z6, z7, z8, z9, z10, z11, z12, z13, z14, z15, z16, z17, z18, z19, z20, z21, z22, z23⟩ := hW; go_simp; exact IntWalk.i64_in _ (by omega)) | (obtain ⟨z0, z1, z2, z3, z4, z5, z6, z7, z8, z9, z10, z11, z12, z13, z14, z15, z16, z17, z18, z19, z20, z21, z22, z23⟩ := hW; go_simp; simp [*]; done)⟩) hS_7 ?_
                    try simp only [Act.put, List.setIfInBounds_toArray, List.set_cons_zero, List.set_cons_succ]
                    refine wpAnyK_take (i := 20) (oi := ⟨some 84, _, _, _, _, _⟩) (v := .bool true) rfl (by kernel_rfl) (by kernel_rfl) (by kernel_rfl) (by kernel_rfl) (fun _ _ _ h => h) (.inl ⟨by kernel_rfl, fun W hW => by kernel_rfl⟩) hS_7 ?_
                    try simp only [Act.put, List.setIfInBounds_toArray, List.set_cons_zero, List.set_cons_succ]
                    refine wpAnyK_take (i := 21) (oi := ⟨some 85, _, _, _, _, _⟩) (v := .bool true) rfl (by kernel_rfl) (by kernel_rfl) (by kernel_rfl) (by kernel_rfl) (fun _ _ _ h => h) (.inl ⟨by kernel_rfl, fun W hW => by kernel_rfl⟩) hS_7 ?_
                    try simp only [Act.put, List.setIfInBounds_toArray, List.set_cons_zero, List.set_cons_succ]
                    refine wpAnyK_take (i := 22) (oi := ⟨some 86, _, _, _, _, _⟩) (v := .agg #[.int .i64 tk, .int .i64 tn, .string tz, .slice A0 tl.length (capF tl.length c0)]) rfl (by kernel_rfl) (by kernel_rfl) (by kernel_rfl) (by kernel_rfl) (fun _ _ _ h => h) (.inl ⟨by kernel_rfl, fun W hW => by first | (obtain ⟨z0, z1, z2, z3, z4, z5, z6, z7, z8, z9, z10, z11, z12, z13, z14, z15, z16, z17, z18, z19, z20, z21, z22, z23⟩ := hW; go_simp; done) | (obtain ⟨z0, z1, z2, z3, z4, z5, z6, z7, z8, z9, z10, z11, z12, z13, z14, z15, z16, z17, z18, z19, z20, z21, z22, z23⟩ := hW; go_simp; omega) | (obtain ⟨z0, z1, z2, z3, z4, z5, z6, z7, z8, z9, z10, z11, z12, z13, z14, z15, z16, z17, z18, z19, z20, z21, z22, z23⟩ := hW; go_simp; exact IntWalk.i64_in _ (by omega)) | (obtain ⟨z0, z1, z2, z3, z4, z5, z6, z7, z8, z9, z10, z11, z12, z13, z14, z15, z16, z17, z18, z19, z20, z21, z22, z23⟩ := hW; go_simp; simp [*]; done)⟩) hS_7 ?_
                    try simp only [Act.put, List.setIfInBounds_toArray, List.set_cons_zero, List.set_cons_succ]
                    refine wpAnyK_take (i := 23) (oi := ⟨some 87, _, _, _, _, _⟩) (v := .agg #[.int .i64 sk, .int .i64 sn, .string sz, .slice A1 sl.length (capF sl.length c1)]) rfl (by kernel_rfl) (by kernel_rfl) (by kernel_rfl) (by kernel_rfl) (fun _ _ _ h => h) (.inl ⟨by kernel_rfl, fun W hW => by first | (obtain ⟨z0, z1, z2, z3, z4, z5, z6, z7, z8, z9, z10, z11, z12, z13, z14, z15, z16, z17, z18, z19, z20, z21, z22, z23⟩ := hW; go_simp; done) | (obtain ⟨z0, z1, z2, z3, z4, z5, z6, z7, z8, z9, z10, z11, z12, z13, z14, z15, z16, z17, z18, z19, z20, z21, z22, z23⟩ := hW; go_simp; omega) | (obtain ⟨z0, z1, z2, z3, z4, z5, z6, z7, z8, z9, z10, z11, z12, z13, z14, z15, z16, z17, z18, z19, z20, z21, z22, z23⟩ := hW; go_simp; exact IntWalk.i64_in _ (by omega)) | (obtain ⟨z0, z1, z2, z3, z4, z5, z6, z7, z8, z9, z10, z11, z12, z13, z14, z15, z16, z17, z18, z19, z20, z21, z22, z23⟩ := hW; go_simp; simp [*]; done)⟩) hS_7 ?_
                    try simp only [Act.put, List.setIfInBounds_toArray, List.set_cons_zero, List.set_cons_succ]
                    refine wpAnyK_take (i := 25) (oi := ⟨some 89, _, _, _, _, _⟩) (v := .int .i64 j) rfl (by kernel_rfl) (by kernel_rfl) (by kernel_rfl) (by kernel_rfl) (fun _ _ _ h => h) (.inl ⟨by kernel_rfl, fun W hW => by kernel_rfl⟩) hS_7 ?_
                    try simp only [Act.put, List.setIfInBounds_toArray, List.set_cons_zero, List.set_cons_succ]
                    refine wpAnyK_take (i := 27) (oi := ⟨some 91, _, _, _, _, _⟩) (v := .agg #[.int .i64 tk, .int .i64 tn, .string tz, .slice A0 tl.length (capF tl.length c0)]) rfl (by kernel_rfl) (by kernel_rfl) (by kernel_rfl) (by kernel_rfl) (fun _ _ _ h => h) (.inl ⟨by kernel_rfl, fun W hW => by first | (obtain ⟨z0, z1, z2, z3, z4, z5, z6, z7, z8, z9, z10, z11, z12, z13, z14, z15, z16, z17, z18, z19, z20, z21, z22, z23⟩ := hW; go_simp; done) | (obtain ⟨z0, z1, z2, z3, z4, z5, z6, z7, z8, z9, z10, z11, z12, z13, z14, z15, z16, z17, z18, z19, z20, z21, z22, z23⟩ := hW; go_simp; omega) | (obtain ⟨z0, z1, z2, z3, z4, z5, z6, z7, z8, z9, z10, z11, z12, z13, z14, z15, z16, z17, z18, z19, z20, z21, z22, z23⟩ := hW; go_simp; exact IntWalk.i64_in _ (by omega)) | (obtain ⟨z0, z1, z2, z3, z4, z5, z6, z7, z8, z9, z10, z11, z12, z13, z14, z15, z16, z17, z18, z19, z20, z21, z22, z23⟩ := hW; go_simp; simp [*]; done)⟩) hS_7 ?_
                    try simp only [Act.put, List.setIfInBounds_toArray, List.set_cons_zero, List.set_cons_succ]
                    refine wpAnyK_take (i := 28) (oi := ⟨some 92, _, _, _, _, _⟩) (v := .int .i64 j) rfl (by kernel_rfl) (by kernel_rfl) (by kernel_rfl) (by kernel_rfl) (fun _ _ _ h => h) (.inl ⟨by kernel_rfl, fun W hW => by kernel_rfl⟩) hS_7 ?_
                    try simp only [Act.put, List.setIfInBounds_toArray, List.set_cons_zero, List.set_cons_succ]
                    refine wpAnyK_take (i := 30) (oi := ⟨some 94, _, _, _, _, _⟩) (v := .agg #[.int .i64 sk, .int .i64 sn, .string sz, .slice A1 sl.length (capF sl.length c1)]) rfl (by kernel_rfl) (by kernel_rfl) (by kernel_rfl) (by kernel_rfl) (fun _ _ _ h => h) (.inl ⟨by kernel_rfl, fun W hW => by first | (obtain ⟨z0, z1, z2, z3, z4, z5, z6, z7, z8, z9, z10, z11, z12, z13, z14, z15, z16, z17, z18, z19, z20, z21, z22, z23⟩ := hW; go_simp; done) | (obtain ⟨z0, z1, z2, z3, z4, z5, z6, z7, z8, z9, z10, z11, z12, z13, z14, z15, z16, z17, z18, z19, z20, z21, z22, z23⟩ := hW; go_simp; omega) | (obtain ⟨z0, z1, z2, z3, z4, z5, z6, z7, z8, z9, z10, z11, z12, z13, z14, z15, z16, z17, z18, z19, z20, z21, z22, z23⟩ := hW; go_simp; exact IntWalk.i64_in _ (by omega)) | (obtain ⟨z0, z1, z2, z3, z4, z5, z6, z7, z8, z9, z10, z11, z12, z13, z14, z15, z16, z17, z18, z19, z20, z21, z22, z23⟩ := hW; go_simp; simp [*]; done)⟩) hS_7 ?_
                    try simp only [Act.put, List.setIfInBounds_toArray, List.set_cons_zero, List.set_cons_succ]
                    refine wpAnyK_take (i := 31) (oi := ⟨some 95, _, _, _, _, _⟩) (v := .int .i64 j) rfl (by kernel_rfl) (by kernel_rfl) (by kernel_rfl) (by kernel_rfl) (fun _ _ _ h => h) (.inl ⟨by kernel_rfl, fun W hW => by kernel_rfl⟩) hS_7 ?_
                    try simp only [Act.put, List.setIfInBounds_toArray, List.set_cons_zero, List.set_cons_succ]
                    refine wpAnyK_oneW (i := 24) rfl (by kernel_rfl) (by kernel_rfl) (fun K hK => ?_)
                    go_simp
                    refine (HA2.out _ hb_7 A0 c0 hg0t_2_3_4_5_6_7 A1 c1 hg1t_2_3_4_5_6_7).mono ?_
                    rintro e u_8 ⟨A_8, c_8, rfl, hT_8, hq_8⟩
                    have hb_8 := hb_7.trans (hq_8.mono hb_7.size)
                    have hg0t_2_3_4_5_6_7_8 := EIn.below _ hg0t_2_3_4_5_6_7 hq_8 (Nat.le_refl _)
                    have hg1t_2_3_4_5_6_7_8 := EIn.below _ hg1t_2_3_4_5_6_7 hq_8 (Nat.le_refl _)
                    have hgat_2_3_4_5_6_7_8 := EIn.below _ hgat_2_3_4_5_6_7 hq_8 (Nat.le_refl _)
                    have hgbt_2_3_4_5_6_7_8 := EIn.below _ hgbt_2_3_4_5_6_7 hq_8 (Nat.le_refl _)
                    have hgct_2_3_4_5_6_7_8 := EIn.below _ hgct_2_3_4_5_6_7 hq_8 (Nat.le_refl _)
                    have hgdt_2_3_4_5_6_7_8 := EIn.below _ hgdt_2_3_4_5_6_7 hq_8 (Nat.le_refl _)
                    have hT_3_4_5_6_7_8 := EIn.below _ hT_3_4_5_6_7 hq_8 (Nat.le_refl _)
                    have hT_5_6_7_8 := EIn.below _ hT_5_6_7 hq_8 (Nat.le_refl _)
                    clear hg0t_2_3_4_5_6_7 hg1t_2_3_4_5_6_7 hgat_2_3_4_5_6_7 hgbt_2_3_4_5_6_7 hgct_2_3_4_5_6_7 hgdt_2_3_4_5_6_7 hT_3_4_5_6_7 hT_5_6_7
                    refine hK.out _ _ (fun _ => HSS.out _ hb_8) (fun hS9 => ?_)
                    have hS_8 := hS9 (by decide)
                    clear hK K hS9
                    try simp only [Act.put, List.setIfInBounds_toArray, List.set_cons_zero, List.set_cons_succ]
                    refine wpAnyK_oneW (i := 26) rfl (by kernel_rfl) (by kernel_rfl) (fun K hK => ?_)
                    go_simp
                    refine (HU3.out _ hb_8 A_8 c_8 hT_8).mono ?_
                    rintro e u_9 ⟨rfl, hq_9⟩
                    have hb_9 := hb_8.trans (hq_9.mono hb_8.size)
                    have hg0t_2_3_4_5_6_7_8_9 := EIn.below _ hg0t_2_3_4_5_6_7_8 hq_9 (Nat.le_refl _)
                    have hg1t_2_3_4_5_6_7_8_9 := EIn.below _ hg1t_2_3_4_5_6_7_8 hq_9 (Nat.le_refl _)
                    have hgat_2_3_4_5_6_7_8_9 := EIn.below _ hgat_2_3_4_5_6_7_8 hq_9 (Nat.le_refl _)
                    have hgbt_2_3_4_5_6_7_8_9 := EIn.below _ hgbt_2_3_4_5_6_7_8 hq_9 (Nat.le_refl _)
                    have hgct_2_3_4_5_6_7_8_9 := EIn.below _ hgct_2_3_4_5_6_7_8 hq_9 (Nat.le_refl _)
                    have hgdt_2_3_4_5_6_7_8_9 := EIn.below _ hgdt_2_3_4_5_6_7_8 hq_9 (Nat.le_refl _)
                    have hT_3_4_5_6_7_8_9 := EIn.below _ hT_3_4_5_6_7_8 hq_9 (Nat.le_refl _)
                    have hT_5_6_7_8_9 := EIn.below _ hT_5_6_7_8 hq_9 (Nat.le_refl _)
                    have hT_8_9 := EIn.below _ hT_8 hq_9 (Nat.le_refl _)
                    clear hg0t_2_3_4_5_6_7_8 hg1t_2_3_4_5_6_7_8 hgat_2_3_4_5_6_7_8 hgbt_2_3_4_5_6_7_8 hgct_2_3_4_5_6_7_8 hgdt_2_3_4_5_6_7_8 hT_3_4_5_6_7_8 hT_5_6_7_8 hT_8
                    refine hK.out _ _ (fun _ => HSS.out _ hb_9) (fun hS9 => ?_)
                    have hS_9 := hS9 (by decide)
                    clear hK K hS9
                    try simp only [Act.put, List.setIfInBounds_toArray, List.set_cons_zero, List.set_cons_succ]
                    refine wpAnyK_oneW (i := 29) rfl (by kernel_rfl) (by kernel_rfl) (fun K hK => ?_)
                    go_simp
                    refine (HU4.out _ hb_9 A0 c0 hg0t_2_3_4_5_6_7_8_9).mono ?_
                    rintro e u_10 ⟨rfl, hq_10⟩
                    have hb_10 := hb_9.trans (hq_10.mono hb_9.size)
                    have hg0t_2_3_4_5_6_7_8_9_10 := EIn.below _ hg0t_2_3_4_5_6_7_8_9 hq_10 (Nat.le_refl _)
                    have hg1t_2_3_4_5_6_7_8_9_10 := EIn.below _ hg1t_2_3_4_5_6_7_8_9 hq_10 (Nat.le_refl _)
                    have hgat_2_3_4_5_6_7_8_9_10 := EIn.below _ hgat_2_3_4_5_6_7_8_9 hq_10 (Nat.le_refl _)
                    have hgbt_2_3_4_5_6_7_8_9_10 := EIn.below _ hgbt_2_3_4_5_6_7_8_9 hq_10 (Nat.le_refl _)
                    have hgct_2_3_4_5_6_7_8_9_10 := EIn.below _ hgct_2_3_4_5_6_7_8_9 hq_10 (Nat.le_refl _)
                    have hgdt_2_3_4_5_6_7_8_9_10 := EIn.below _ hgdt_2_3_4_5_6_7_8_9 hq_10 (Nat.le_refl _)
                    have hT_3_4_5_6_7_8_9_10 := EIn.below _ hT_3_4_5_6_7_8_9 hq_10 (Nat.le_refl _)
                    have hT_5_6_7_8_9_10 := EIn.below _ hT_5_6_7_8_9 hq_10 (Nat.le_refl _)
                    have hT_8_9_10 := EIn.below _ hT_8_9 hq_10 (Nat.le_refl _)
                    clear hg0t_2_3_4_5_6_7_8_9 hg1t_2_3_4_5_6_7_8_9 hgat_2_3_4_5_6_7_8_9 hgbt_2_3_4_5_6_7_8_9 hgct_2_3_4_5_6_7_8_9 hgdt_2_3_4_5_6_7_8_9 hT_3_4_5_6_7_8_9 hT_5_6_7_8_9 hT_8_9
                    refine hK.out _ _ (fun _ => HSS.out _ hb_10) (fun hS9 => ?_)
                    have hS_10 := hS9 (by decide)
                    clear hK K hS9
                    try simp only [Act.put, List.setIfInBounds_toArray, List.set_cons_zero, List.set_cons_succ]
                    refine wpAnyK_oneW (i := 32) rfl (by kernel_rfl) (by kernel_rfl) (fun K hK => ?_)
                    go_simp
                    refine (HU5.out _ hb_10 A1 c1 hg1t_2_3_4_5_6_7_8_9_10).mono ?_
                    rintro e u_11 ⟨rfl, hq_11⟩
                    have hb_11 := hb_10.trans (hq_11.mono hb_10.size)
                    have hg0t_2_3_4_5_6_7_8_9_10_11 := EIn.below _ hg0t_2_3_4_5_6_7_8_9_10 hq_11 (Nat.le_refl _)
                    have hg1t_2_3_4_5_6_7_8_9_10_11 := EIn.below _ hg1t_2_3_4_5_6_7_8_9_10 hq_11 (Nat.le_refl _)
                    have hgat_2_3_4_5_6_7_8_9_10_11 := EIn.below _ hgat_2_3_4_5_6_7_8_9_10 hq_11 (Nat.le_refl _)
                    have hgbt_2_3_4_5_6_7_8_9_10_11 := EIn.below _ hgbt_2_3_4_5_6_7_8_9_10 hq_11 (Nat.le_refl _)
                    have hgct_2_3_4_5_6_7_8_9_10_11 := EIn.below _ hgct_2_3_4_5_6_7_8_9_10 hq_11 (Nat.le_refl _)
                    have hgdt_2_3_4_5_6_7_8_9_10_11 := EIn.below _ hgdt_2_3_4_5_6_7_8_9_10 hq_11 (Nat.le_refl _)
                    have hT_3_4_5_6_7_8_9_10_11 := EIn.below _ hT_3_4_5_6_7_8_9_10 hq_11 (Nat.le_refl _)
                    have hT_5_6_7_8_9_10_11 := EIn.below _ hT_5_6_7_8_9_10 hq_11 (Nat.le_refl _)
                    have hT_8_9_10_11 := EIn.below _ hT_8_9_10 hq_11 (Nat.le_refl _)
                    clear hg0t_2_3_4_5_6_7_8_9_10 hg1t_2_3_4_5_6_7_8_9_10 hgat_2_3_4_5_6_7_8_9_10 hgbt_2_3_4_5_6_7_8_9_10 hgct_2_3_4_5_6_7_8_9_10 hgdt_2_3_4_5_6_7_8_9_10 hT_3_4_5_6_7_8_9_10 hT_5_6_7_8_9_10 hT_8_9_10
                    refine hK.out _ _ (fun _ => HSS.out _ hb_11) (fun hS9 => ?_)
                    have hS_11 := hS9 (by decide)
                    clear hK K hS9
                    try simp only [Act.put, List.setIfInBounds_toArray, List.set_cons_zero, List.set_cons_succ]
                    refine wpAnyK_take (i := 33) (oi := ⟨some 97, _, _, _, _, _⟩) (v := .int .i64 ((n2 : Int) + (n3 : Int))) rfl (by kernel_rfl) (by kernel_rfl) (by kernel_rfl) (by kernel_rfl) (fun _ _ _ h => h) (.inl ⟨by kernel_rfl, fun W hW => by first | (obtain ⟨z0, z1, z2, z3, z4, z5, z6, z7, z8, z9, z10, z11, z12, z13, z14, z15, z16, z17, z18, z19, z20, z21, z22, z23⟩ := hW; go_simp; done) | (obtain ⟨z0, z1, z2, z3, z4, z5, z6, z7, z8, z9, z10, z11, z12, z13, z14, z15, z16, z17, z18, z19, z20, z21, z22, z23⟩ := hW; go_simp; omega) | (obtain ⟨z0, z1, z2, z3, z4, z5, z6, z7, z8, z9, z10, z11, z12, z13, z14, z15, z16, z17, z18, z19, z20, z21, z22, z23⟩ := hW; go_simp; exact IntWalk.i64_in _ (by omega)) | (obtain ⟨z0, z1, z2, z3, z4, z5, z6, z7, z8, z9, z10, z11, z12, z13, z14, z15, z16, z17, z18, z19, z20, z21, z22, z23⟩ := hW; go_simp; simp [*]; done)⟩) hS_11 ?_
                    try simp only [Act.put, List.setIfInBounds_toArray, List.set_cons_zero, List.set_cons_succ]
                    refine wpAnyK_take (i := 34) (oi := ⟨some 98, _, _, _, _, _⟩) (v := .bool true) rfl (by kernel_rfl) (by kernel_rfl) (by kernel_rfl) (by kernel_rfl) (fun _ _ _ h => h) (.inl ⟨by kernel_rfl, fun W hW => by first | (obtain ⟨z0, z1, z2, z3, z4, z5, z6, z7, z8, z9, z10, z11, z12, z13, z14, z15, z16, z17, z18, z19, z20, z21, z22, z23⟩ := hW; go_simp; done) | (obtain ⟨z0, z1, z2, z3, z4, z5, z6, z7, z8, z9, z10, z11, z12, z13, z14, z15, z16, z17, z18, z19, z20, z21, z22, z23⟩ := hW; go_simp; omega) | (obtain ⟨z0, z1, z2, z3, z4, z5, z6, z7, z8, z9, z10, z11, z12, z13, z14, z15, z16, z17, z18, z19, z20, z21, z22, z23⟩ := hW; go_simp; exact IntWalk.i64_in _ (by omega)) | (obtain ⟨z0, z1, z2, z3, z4, z5, z6, z7, z8, z9, z10, z11, z12, z13, z14, z15, z16, z17, z18, z19, z20, z21, z22, z23⟩ := hW; go_simp; simp [*]; done)⟩) hS_11 ?_
                    try simp only [Act.put, List.setIfInBounds_toArray, List.set_cons_zero, List.set_cons_succ]
                    refine wpAnyK_take (i := 35) (oi := ⟨some 99, _, _, _, _, _⟩) (v := .bool true) rfl (by kernel_rfl) (by kernel_rfl) (by kernel_rfl) (by kernel_rfl) (fun _ _ _ h => h) (.inl ⟨by kernel_rfl, fun W hW => by kernel_rfl⟩) hS_11 ?_
                    try simp only [Act.put, List.setIfInBounds_toArray, List.set_cons_zero, List.set_cons_succ]
                    refine wpAnyK_one (i := 36) rfl rfl (by kernel_rfl) (fun K hK => ?_)
                    go_simp
                    refine hK.out _ _ (fun h => absurd rfl h) (fun _ => ?_)
                    clear hK K
                    try simp only [Act.put, List.setIfInBounds_toArray, List.set_cons_zero, List.set_cons_succ]
                    refine wpAnyK_done (by kernel_rfl) ?_ _
                    have hbx := HX0.out.bw.trans (hb_11.mono HX0.out.bw.size)
                    go_wp2_with fail
                    go_ret
                    exact ⟨rfl, hbx⟩
end Lx
end Go.Proofs.Ytcgiloccmehbeaa
