/-
  The law UseLams, walked.
-/
import Derived.Test.YtikchgigakbeiaaUsLt
import Derived.Test.YtikchgigakbeiaaC10
import Derived.Deep.RegionHeld3
import Derived.Deep.DrawnRows
namespace Go.Proofs.Ytikchgigakbeiaa
open Go Go.RowKit
namespace Lx
set_option maxRecDepth 100000
theorem rowI_cut {w : World} {x : Int} {xs : List Int} {gl ol cL : Nat} (h : RowI w (some ⟨gl, ol, none⟩) (x :: xs)) : RowI w (if xs.length + 1 + cL = 1 then (some ⟨gl, ol, none⟩ : Option Addr) else some ⟨gl, ol + 1, none⟩) xs := by
  split
  · rename_i e
    have : xs = [] := List.eq_nil_of_length_eq_zero (by omega)
    subst this
    exact fun j hj => by simp at hj
  · exact rowI_tail h rfl
set_option maxHeartbeats 16000000 in
theorem useLams_law (t : Te) (A0 : Option Addr) (c0 : Nat) (s : Te) (A1 : Option Addr) (c1 : Nat) (w : World) (hI : EIn w Any t A0) (hJ : EIn w Any s A1) :
    Calls Try.prog 3 #[ev t A0 c0, ev s A1 c1] w fun e w' => e = .returned (.bool true) ∧ Below w.heap.size w w' := by
  obtain ⟨tk, tn, tz, tl⟩ := t
  obtain ⟨sk, sn, sz, sl⟩ := s
  show Calls Try.prog 3 #[.agg #[.int .i64 tk, .int .i64 tn, .string tz, .slice A0 tl.length (capF tl.length c0)], .agg #[.int .i64 sk, .int .i64 sn, .string sz, .slice A1 sl.length (capF sl.length c1)]] w _
  have HX0 := Lib.hid ((Bx8.new (c := c0) hI (Below.refl _ w) rfl).old (.cells #[.int .i64 sk, .int .i64 sn, .string sz, .slice A1 sl.length (capF sl.length c1)] 24))
  have HX1 := Lib.hid (Bx8.new (c := c1) (g := w.heap.size + 1) hJ ((Below.refl _ w).alloc (Nat.le_refl _) (.cells #[.int .i64 tk, .int .i64 tn, .string tz, .slice A0 tl.length (capF tl.length c0)] 24)) (by simp))
  clear hI hJ
  go_enter Try.func3, Try.ntmps3
  go_wp2_with fail
  refine (fixed11_any _).mono ?_
  rintro e w2 ⟨rfl, hb2⟩
  replace HX0 := Lib.hid (HX0.out.step hb2)
  replace HX1 := Lib.hid (HX1.out.step hb2)
  clear hb2
  obtain ⟨d0, d1, d2, d3⟩ := HX0.out.four
  have HG := Lib.hid (HX0.out.small 100 (by omega) (by omega))
  cases hv : decide (0 ≤ fewE (.node tk tn tz tl) 100 600)
  · rw [hv] at HG
    clear hv
    go_wp2_with fail
    refine HG.out.mono ?_
    rintro e w3 ⟨rfl, hb3⟩
    clear HG d0 d1 d2 d3
    replace HX0 := Lib.hid (HX0.out.step hb3)
    replace HX1 := Lib.hid (HX1.out.step hb3)
    clear hb3
    go_wp2_with fail
    refine (fixed11_any w3).mono ?_
    rintro e w4 ⟨rfl, hb4⟩
    have hbw := HX0.out.bw.trans (hb4.mono HX0.out.bw.size)
    go_wp2_with fail
    go_ret
    exact ⟨rfl, hbw⟩
  · rw [hv] at HG
    have hm0 := small8 hv (by omega)
    clear hv
    go_wp2_with fail
    refine HG.out.mono ?_
    rintro e w3 ⟨rfl, hb3⟩
    clear HG d0 d1 d2 d3
    replace HX0 := Lib.hid (HX0.out.step hb3)
    replace HX1 := Lib.hid (HX1.out.step hb3)
    clear hb3
    obtain ⟨d0, d1, d2, d3⟩ := HX0.out.four
    obtain ⟨dd, hdd⟩ : ∃ d : Int, d = (depthE (.node tk tn tz tl) : Int) := ⟨_, rfl⟩
    have HG := Lib.hid (HX0.out.depth (by omega))
    rw [← hdd] at HG
    have hdd0 : 0 ≤ dd := by omega
    by_cases hc : 300 < dd
    · clear hdd
      go_wp2_with fail
      refine HG.out.mono ?_
      rintro e w5 ⟨rfl, hb5⟩
      clear HG d0 d1 d2 d3
      replace HX0 := Lib.hid (HX0.out.step hb5)
      replace HX1 := Lib.hid (HX1.out.step hb5)
      clear hb5
      go_wp2_with fail
      refine (fixed11_any w5).mono ?_
      rintro e w6 ⟨rfl, hb6⟩
      have hbw := HX0.out.bw.trans (hb6.mono HX0.out.bw.size)
      go_wp2_with fail
      go_ret
      exact ⟨rfl, hbw⟩
    · have HDD := Lib.hid hdd
      clear hdd
      go_wp2_with fail
      refine HG.out.mono ?_
      rintro e w5 ⟨rfl, hb5⟩
      clear HG d0 d1 d2 d3
      replace HX0 := Lib.hid (HX0.out.step hb5)
      replace HX1 := Lib.hid (HX1.out.step hb5)
      clear hb5
      obtain ⟨d0, d1, d2, d3⟩ := HX1.out.four
      have HG := Lib.hid (HX1.out.small 100 (by omega) (by omega))
      cases hv : decide (0 ≤ fewE (.node sk sn sz sl) 100 600)
      · rw [hv] at HG
        clear hv
        go_wp2_with fail
        refine HG.out.mono ?_
        rintro e w7 ⟨rfl, hb7⟩
        clear HG d0 d1 d2 d3
        replace HX0 := Lib.hid (HX0.out.step hb7)
        replace HX1 := Lib.hid (HX1.out.step hb7)
        clear hb7
        go_wp2_with fail
        refine (fixed11_any w7).mono ?_
        rintro e w8 ⟨rfl, hb8⟩
        have hbw := HX0.out.bw.trans (hb8.mono HX0.out.bw.size)
        go_wp2_with fail
        go_ret
        exact ⟨rfl, hbw⟩
      · rw [hv] at HG
        have hm1 := small8 hv (by omega)
        clear hv
        go_wp2_with fail
        refine HG.out.mono ?_
        rintro e w7 ⟨rfl, hb7⟩
        clear HG d0 d1 d2 d3
        replace HX0 := Lib.hid (HX0.out.step hb7)
        replace HX1 := Lib.hid (HX1.out.step hb7)
        clear hb7
        obtain ⟨d0, d1, d2, d3⟩ := HX1.out.four
        obtain ⟨dd, hdd⟩ : ∃ d : Int, d = (depthE (.node sk sn sz sl) : Int) := ⟨_, rfl⟩
        have HG := Lib.hid (HX1.out.depth (by omega))
        rw [← hdd] at HG
        have hdd0 : 0 ≤ dd := by omega
        by_cases hc : 300 < dd
        · clear hdd
          go_wp2_with fail
          refine HG.out.mono ?_
          rintro e w9 ⟨rfl, hb9⟩
          clear HG d0 d1 d2 d3
          replace HX0 := Lib.hid (HX0.out.step hb9)
          replace HX1 := Lib.hid (HX1.out.step hb9)
          clear hb9
          go_wp2_with fail
          refine (fixed11_any w9).mono ?_
          rintro e w10 ⟨rfl, hb10⟩
          have hbw := HX0.out.bw.trans (hb10.mono HX0.out.bw.size)
          go_wp2_with fail
          go_ret
          exact ⟨rfl, hbw⟩
        · have HDD := Lib.hid hdd
          clear hdd
          go_wp2_with fail
          refine HG.out.mono ?_
          rintro e w9 ⟨rfl, hb9⟩
          clear HG d0 d1 d2 d3
          replace HX0 := Lib.hid (HX0.out.step hb9)
          replace HX1 := Lib.hid (HX1.out.step hb9)
          clear hb9
          obtain ⟨d0, d1, d2, d3⟩ := HX0.out.four
          have HG := Lib.hid (rMay6_any (.node tk tn tz tl) A0 c0 5 _ HX0.out.tin (by omega) (by omega) (by omega))
          cases hv : mayQ (.node tk tn tz tl) 5 false
          · rw [hv] at HG
            clear hv
            go_wp2_with fail
            refine HG.out.mono ?_
            rintro e w11 ⟨rfl, hb11⟩
            clear HG d0 d1 d2 d3
            replace HX0 := Lib.hid (HX0.out.step hb11)
            replace HX1 := Lib.hid (HX1.out.step hb11)
            clear hb11
            go_wp2_with fail
            refine (fixed11_any w11).mono ?_
            rintro e w12 ⟨rfl, hb12⟩
            have hbw := HX0.out.bw.trans (hb12.mono HX0.out.bw.size)
            go_wp2_with fail
            go_ret
            exact ⟨rfl, hbw⟩
          · rw [hv] at HG
            have hmt := hv
            clear hv
            go_wp2_with fail
            refine HG.out.mono ?_
            rintro e w11 ⟨rfl, hb11⟩
            clear HG d0 d1 d2 d3
            replace HX0 := Lib.hid (HX0.out.step hb11)
            replace HX1 := Lib.hid (HX1.out.step hb11)
            clear hb11
            obtain ⟨d0, d1, d2, d3⟩ := HX1.out.four
            have HG := Lib.hid (rMay6_any (.node sk sn sz sl) A1 c1 5 _ HX1.out.tin (by omega) (by omega) (by omega))
            cases hv : mayQ (.node sk sn sz sl) 5 false
            · rw [hv] at HG
              clear hv
              go_wp2_with fail
              refine HG.out.mono ?_
              rintro e w13 ⟨rfl, hb13⟩
              clear HG d0 d1 d2 d3
              replace HX0 := Lib.hid (HX0.out.step hb13)
              replace HX1 := Lib.hid (HX1.out.step hb13)
              clear hb13
              go_wp2_with fail
              refine (fixed11_any w13).mono ?_
              rintro e w14 ⟨rfl, hb14⟩
              have hbw := HX0.out.bw.trans (hb14.mono HX0.out.bw.size)
              go_wp2_with fail
              go_ret
              exact ⟨rfl, hbw⟩
            · rw [hv] at HG
              have hms := hv
              clear hv
              go_wp2_with fail
              refine HG.out.mono ?_
              rintro e w13 ⟨rfl, hb13⟩
              clear HG d0 d1 d2 d3
              replace HX0 := Lib.hid (HX0.out.step hb13)
              replace HX1 := Lib.hid (HX1.out.step hb13)
              clear hb13
              have htt := may_tame hmt (by omega) (by omega)
              have hts := may_tame hms (by omega) (by omega)
              have hol := ofE_len (.node tk tn tz tl)
              have hos := ofE_len (.node sk sn sz sl)
              have hap := ofE_app (.node tk tn tz tl) (.node sk sn sz sl)
              have hla := ofE_lam (.node tk tn tz tl)
              have hfl := free_lam (.node tk tn tz tl)
              have hal := free_app_len (.node tk tn tz tl) (.node sk sn sz sl)
              have hlen : ∀ q : Te, (freeE q).length ≤ sizeE q := fun q => by rw [free_same, rfreeE, rfE]; have h1 := rf_len (fvE q 0) []; have h2 := fvE_len q 0; simp at h1; omega
              have hla1 := hlen (.node tk tn tz tl)
              have hlb1 := hlen (.node sk sn sz sl)
              have hll1 := hlen (lamE (.node tk tn tz tl))
              have hlh1 := hlen (appE (.node tk tn tz tl) (.node sk sn sz sl))
              rw [size_lam] at hll1
              rw [size_app] at hlh1
              have hFB : ∀ x ∈ freeE (lamE (.node tk tn tz tl)), 0 ≤ x ∧ x < 100 := fun x hx => by
                have h1 := (freeE_mem _ _).1 hx
                rw [fv_lam] at h1
                refine ⟨fvE_pos _ _ _ h1, ?_⟩
                have h2 : x + 1 ∈ fvE (.node tk tn tz tl) 0 := (fv_shift (.node tk tn tz tl) 0 (x + 1)).2 (.inr ⟨by have := fvE_pos _ _ _ h1; omega, by rw [show x + 1 - 1 = x from by omega]; exact h1⟩)
                have h3 := of_decide_eq_true ((may_least hmt (by omega)).symm.trans hmt) (x + 1) ((freeE_mem _ _).2 h2)
                omega
              obtain ⟨us, hus⟩ : ∃ u : Int, u = (usesE (.node tk tn tz tl) 0 : Int) := ⟨_, rfl⟩
              have huz : 0 ≤ us ∧ us ≤ 100 := by have := usesE_le (.node tk tn tz tl) 0; omega
              have HUS := Lib.hid hus
              rw [← hus] at hla
              clear hus hlen
              obtain ⟨O, hO⟩ : ∃ O, O = ofE (.node tk tn tz tl) := ⟨_, rfl⟩
              obtain ⟨O2, hO2⟩ : ∃ O, O = ofE (.node sk sn sz sl) := ⟨_, rfl⟩
              rw [← hO] at hol hap hla
              rw [← hO2] at hos hap
              obtain ⟨Fa, hFa⟩ : ∃ F, F = freeE (.node tk tn tz tl) := ⟨_, rfl⟩
              obtain ⟨Fb, hFb⟩ : ∃ F, F = freeE (.node sk sn sz sl) := ⟨_, rfl⟩
              obtain ⟨F, hF⟩ : ∃ F, F = freeE (lamE (.node tk tn tz tl)) := ⟨_, rfl⟩
              obtain ⟨Fh, hFh⟩ : ∃ F, F = freeE (appE (.node tk tn tz tl) (.node sk sn sz sl)) := ⟨_, rfl⟩
              rw [← hFa, ← hF] at hfl
              rw [← hFh, ← hFa, ← hFb] at hal
              rw [← hFa] at hla1
              rw [← hFb] at hlb1
              rw [← hF] at hll1 hFB
              rw [← hFh] at hlh1
              have HFa := Lib.hid hFa
              have HFb := Lib.hid hFb
              have HF1 := Lib.hid hF
              have HFh := Lib.hid hFh
              have HOa := Lib.hid hO
              have HOb := Lib.hid hO2
              have HOL0 : Hid (us :: O = ofE (lamE (.node tk tn tz tl))) := Lib.hid hla.symm
              obtain ⟨L1, hL1⟩ : ∃ l, l = ([] : List Int) ++ O := ⟨_, rfl⟩
              obtain ⟨OL, hOL⟩ : ∃ l, l = L1 ++ O2 := ⟨_, rfl⟩
              have hL1b : L1.length ≤ 10000000 := by rw [hL1]; simp; omega
              have hBl : OL.length ≤ 1000000000000 := by rw [hOL, List.length_append]; omega
              have HL1 := Lib.hid hL1
              have HL2 := Lib.hid hOL
              have HOP0 : Hid (OL = ofE (appE (.node tk tn tz tl) (.node sk sn sz sl))) := Lib.hid (by rw [hap, hOL, hL1]; rfl)
              clear hL1 hOL
              have HFA0 := Lib.hid hfl
              have HFB1 := Lib.hid hFB
              have hFal : Fa.length ≤ 1000000000000 := by omega
              have hFbl : Fb.length ≤ 1000000000000 := by omega
              have hOl : O.length ≤ 1000000000000 := by omega
              clear hFa hFb hF hFh hO hO2 hla hap hfl hFB
              obtain ⟨W9, hW9⟩ : ∃ V, V = w13 := ⟨_, rfl⟩
              rw [← hW9] at HX0 HX1 ⊢
              clear hW9
              go_upto_region 3 with fail
              obtain ⟨g0, hg0⟩ : ∃ g, g = w.heap.size := ⟨_, rfl⟩
              obtain ⟨g1, hg1⟩ : ∃ g, g = w.heap.size + 1 := ⟨_, rfl⟩
              have hx0 := HX0.out
              have hx1 := HX1.out
              rw [← hg0] at hx0
              rw [← hg1] at hx1
              rw [← hg1, ← hg0]
              clear hg0 hg1 HX0 HX1
              generalize W9 = V at hx0 hx1 ⊢
              have ht0 := hx0.tin
              have ht1 := hx1.tin
              have HB := Lib.hid hx0.bw
              have HSS : Hid (∀ V', Below V.heap.size V V' → (fun V' : World => (V'.cell? ⟨g0, 0, none⟩ = some (.int .i64 tk) ∧ V'.cell? ⟨g0, 1, none⟩ = some (.int .i64 tn) ∧ V'.cell? ⟨g0, 2, none⟩ = some (.string tz) ∧ V'.cell? ⟨g0, 3, none⟩ = some (.slice A0 tl.length (capF tl.length c0)) ∧ V'.cell? ⟨g1, 0, none⟩ = some (.int .i64 sk) ∧ V'.cell? ⟨g1, 1, none⟩ = some (.int .i64 sn) ∧ V'.cell? ⟨g1, 2, none⟩ = some (.string sz) ∧ V'.cell? ⟨g1, 3, none⟩ = some (.slice A1 sl.length (capF sl.length c1)))) V') := Lib.hid fun V' h =>
                ⟨(h.cell (p := ⟨g0, 0, none⟩) hx0.box.lt).trans (hx0.box.cell 0), (h.cell (p := ⟨g0, 1, none⟩) hx0.box.lt).trans (hx0.box.cell 1), (h.cell (p := ⟨g0, 2, none⟩) hx0.box.lt).trans (hx0.box.cell 2), (h.cell (p := ⟨g0, 3, none⟩) hx0.box.lt).trans (hx0.box.cell 3), (h.cell (p := ⟨g1, 0, none⟩) hx1.box.lt).trans (hx1.box.cell 0), (h.cell (p := ⟨g1, 1, none⟩) hx1.box.lt).trans (hx1.box.cell 1), (h.cell (p := ⟨g1, 2, none⟩) hx1.box.lt).trans (hx1.box.cell 2), (h.cell (p := ⟨g1, 3, none⟩) hx1.box.lt).trans (hx1.box.cell 3)⟩
              have HLA : Hid (∀ X, Below V.heap.size V X → ∀ (A : Option Addr) (c : Nat) (hA : EIn X Any (.node tk tn tz tl) A), Calls Try.prog 10 #[.agg #[.int .i64 tk, .int .i64 tn, .string tz, .slice A tl.length (capF tl.length c)]] X fun e w' => ∃ A c, e = .returned (.agg #[.int .i64 2, .int .i64 0, .string n0B, .slice A 1 (capF 1 c)]) ∧ EIn w' Any (lamE (.node tk tn tz tl)) A ∧ Below X.heap.size X w') := Lib.hid fun X hX A c hA => lamq_any (.node tk tn tz tl) A c X hA
              have HOL : Hid (∀ X, Below V.heap.size V X → ∀ (A : Option Addr) (c : Nat) (hA : EIn X Any (lamE (.node tk tn tz tl)) A), Calls Try.prog 9 #[.agg #[.int .i64 2, .int .i64 0, .string n0B, .slice A 1 (capF 1 c)]] X (fun e w' => ∃ B d, e = .returned (.slice B (us :: O).length ((us :: O).length + d)) ∧ RowI w' B (us :: O) ∧ Below X.heap.size X w')) := Lib.hid fun X hX A c hA => by
                have h := of_any (lamE (.node tk tn tz tl)) A c X (by have := depth_lam (.node tk tn tz tl); omega) (by have := size_lam (.node tk tn tz tl); omega) (tame_lam htt) hA
                rw [← HOL0.out] at h
                exact h.mono fun e w' ⟨B, d, he, hr, hb⟩ => ⟨B, d - (us :: O).length, by rw [he, Nat.add_sub_cancel' (own_cap hr)], rowI_own hr, hb⟩
              have HFL : Hid (∀ X, Below V.heap.size V X → ∀ (A : Option Addr) (c : Nat) (hA : EIn X Any (lamE (.node tk tn tz tl)) A), Calls Try.prog 11 #[.agg #[.int .i64 2, .int .i64 0, .string n0B, .slice A 1 (capF 1 c)]] X (fun e w' => ∃ B d, e = .returned (.slice B F.length d) ∧ RowI w' B F ∧ Below X.heap.size X w')) := Lib.hid fun X hX A c hA => by
                have h := useFree_any (lamE (.node tk tn tz tl)) A c X (by have := depth_lam (.node tk tn tz tl); omega) (by have := size_lam (.node tk tn tz tl); omega) (tame_lam htt) hA
                rw [← HF1.out] at h
                exact h.mono fun e w' ⟨B, d, he, hr, hb⟩ => ⟨B, d, he, rowI_own hr, hb⟩
              have HX0 := Lib.hid hx0
              have HX1 := Lib.hid hx1
              clear hx0 hx1
              have hb_1 : Below V.heap.size V V := Below.refl _ _
              refine wp_region_held_drew (S := (fun V' : World => (V'.cell? ⟨g0, 0, none⟩ = some (.int .i64 tk) ∧ V'.cell? ⟨g0, 1, none⟩ = some (.int .i64 tn) ∧ V'.cell? ⟨g0, 2, none⟩ = some (.string tz) ∧ V'.cell? ⟨g0, 3, none⟩ = some (.slice A0 tl.length (capF tl.length c0)) ∧ V'.cell? ⟨g1, 0, none⟩ = some (.int .i64 sk) ∧ V'.cell? ⟨g1, 1, none⟩ = some (.int .i64 sn) ∧ V'.cell? ⟨g1, 2, none⟩ = some (.string sz) ∧ V'.cell? ⟨g1, 3, none⟩ = some (.slice A1 sl.length (capF sl.length c1))))) rfl (HSS.out _ hb_1.drew) (fun hSs => ?_)
              change wpAnyH _ _ _ _ _ 8 (Array.replicate 8 false) _ _
              refine wpAnyH_take (i := 0) (oi := ⟨some 45, _, _, _, _, _⟩) (v := .agg #[.int .i64 tk, .int .i64 tn, .string tz, .slice A0 tl.length (capF tl.length c0)]) rfl (by kernel_rfl) (by kernel_rfl) (by kernel_rfl) (fun _ _ _ h => h) (.inl ⟨by kernel_rfl, fun W hW => by first | (obtain ⟨z0, z1, z2, z3, z4, z5, z6, z7⟩ := hW; go_simp; done) | (obtain ⟨z0, z1, z2, z3, z4, z5, z6, z7⟩ := hW; go_simp; omega) | (obtain ⟨z0, z1, z2, z3, z4, z5, z6, z7⟩ := hW; go_simp; exact IntWalk.i64_in _ (by omega)) | (obtain ⟨z0, z1, z2, z3, z4, z5, z6, z7⟩ := hW; go_simp; simp [*]; done)⟩) hSs ?_
              try simp only [Act.put, List.setIfInBounds_toArray, List.set_cons_zero, List.set_cons_succ]
              refine wpAnyH_take (i := 3) (oi := ⟨some 48, _, _, _, _, _⟩) (v := .agg #[.int .i64 tk, .int .i64 tn, .string tz, .slice A0 tl.length (capF tl.length c0)]) rfl (by kernel_rfl) (by kernel_rfl) (by kernel_rfl) (fun _ _ _ h => h) (.inl ⟨by kernel_rfl, fun W hW => by first | (obtain ⟨z0, z1, z2, z3, z4, z5, z6, z7⟩ := hW; go_simp; done) | (obtain ⟨z0, z1, z2, z3, z4, z5, z6, z7⟩ := hW; go_simp; omega) | (obtain ⟨z0, z1, z2, z3, z4, z5, z6, z7⟩ := hW; go_simp; exact IntWalk.i64_in _ (by omega)) | (obtain ⟨z0, z1, z2, z3, z4, z5, z6, z7⟩ := hW; go_simp; simp [*]; done)⟩) hSs ?_
              try simp only [Act.put, List.setIfInBounds_toArray, List.set_cons_zero, List.set_cons_succ]
              refine wpAnyH_ready (rs := [1]) (by kernel_rfl) (by simp) (AllReadyH.cons rfl (fun K hK => ?_) AllReadyH.nil)
              go_simp
              refine (HLA.out _ (hb_1.drew) A0 c0 (EIn.below _ ht0 (Below.refl _ _).drew (Nat.le_refl _))).mono ?_
              rintro e u_2 ⟨A_2, c_2, rfl, hT_2, hq_2⟩
              have hb_2 := (hb_1.drew).trans (hq_2.mono (hb_1.drew).size)
              have ht0_2 := EIn.below _ (EIn.below _ ht0 (Below.refl _ _).drew (Nat.le_refl _)) hq_2 (Nat.le_refl _)
              have ht1_2 := EIn.below _ (EIn.below _ ht1 (Below.refl _ _).drew (Nat.le_refl _)) hq_2 (Nat.le_refl _)
              clear ht0 ht1
              refine hK.out _ _ (HSS.out _ hb_2) (fun hS_2 => ?_)
              clear hK K
              try simp only [Act.put, List.setIfInBounds_toArray, List.set_cons_zero, List.set_cons_succ]
              refine wpAnyH_ready (rs := [2]) (by kernel_rfl) (by simp) (AllReadyH.cons rfl (fun K hK => ?_) AllReadyH.nil)
              go_simp
              refine (HOL.out _ hb_2 A_2 c_2 hT_2).mono ?_
              rintro e u_3 ⟨A_3, c_3, rfl, hR_3, hq_3⟩
              have hb_3 := hb_2.trans (hq_3.mono hb_2.size)
              have ht0_2_3 := EIn.below _ ht0_2 hq_3 (Nat.le_refl _)
              have ht1_2_3 := EIn.below _ ht1_2 hq_3 (Nat.le_refl _)
              have hT_2_3 := EIn.below _ hT_2 hq_3 (Nat.le_refl _)
              clear ht0_2 ht1_2 hT_2
              refine hK.out _ _ (HSS.out _ hb_3) (fun hS_3 => ?_)
              clear hK K
              try simp only [Act.put, List.setIfInBounds_toArray, List.set_cons_zero, List.set_cons_succ]
              refine wpAnyH_ready (rs := [4]) (by kernel_rfl) (by simp) (AllReadyH.cons rfl (fun K hK => ?_) AllReadyH.nil)
              go_simp
              refine (HLA.out _ hb_3 A0 c0 ht0_2_3).mono ?_
              rintro e u_4 ⟨A_4, c_4, rfl, hT_4, hq_4⟩
              have hb_4 := hb_3.trans (hq_4.mono hb_3.size)
              have ht0_2_3_4 := EIn.below _ ht0_2_3 hq_4 (Nat.le_refl _)
              have ht1_2_3_4 := EIn.below _ ht1_2_3 hq_4 (Nat.le_refl _)
              have hT_2_3_4 := EIn.below _ hT_2_3 hq_4 (Nat.le_refl _)
              clear ht0_2_3 ht1_2_3 hT_2_3
              have hR_3_4 := hR_3.below hq_4 (Nat.le_refl _)
              clear hR_3
              refine hK.out _ _ (HSS.out _ hb_4) (fun hS_4 => ?_)
              clear hK K
              try simp only [Act.put, List.setIfInBounds_toArray, List.set_cons_zero, List.set_cons_succ]
              refine wpAnyH_ready (rs := [5]) (by kernel_rfl) (by simp) (AllReadyH.cons rfl (fun K hK => ?_) AllReadyH.nil)
              go_simp
              refine (HFL.out _ hb_4 A_4 c_4 hT_4).mono ?_
              rintro e u_5 ⟨A_5, c_5, rfl, hR_5, hq_5⟩
              have hb_5 := hb_4.trans (hq_5.mono hb_4.size)
              have ht0_2_3_4_5 := EIn.below _ ht0_2_3_4 hq_5 (Nat.le_refl _)
              have ht1_2_3_4_5 := EIn.below _ ht1_2_3_4 hq_5 (Nat.le_refl _)
              have hT_2_3_4_5 := EIn.below _ hT_2_3_4 hq_5 (Nat.le_refl _)
              have hT_4_5 := EIn.below _ hT_4 hq_5 (Nat.le_refl _)
              clear ht0_2_3_4 ht1_2_3_4 hT_2_3_4 hT_4
              have hR_3_4_5 := hR_3_4.below hq_5 (Nat.le_refl _)
              clear hR_3_4
              refine hK.out _ _ (HSS.out _ hb_5) (fun hS_5 => ?_)
              clear hK K
              try simp only [Act.put, List.setIfInBounds_toArray, List.set_cons_zero, List.set_cons_succ]
              refine wpAnyH_take (i := 6) (oi := ⟨some 5, _, _, _, _, _⟩) (v := .slice A_3 (us :: O).length ((us :: O).length + c_3)) rfl (by kernel_rfl) (by kernel_rfl) (by kernel_rfl) (fun _ _ _ h => h) (.inl ⟨by kernel_rfl, fun W hW => by kernel_rfl⟩) hS_5 ?_
              try simp only [Act.put, List.setIfInBounds_toArray, List.set_cons_zero, List.set_cons_succ]
              refine wpAnyH_take (i := 7) (oi := ⟨some 6, _, _, _, _, _⟩) (v := .slice A_5 F.length c_5) rfl (by kernel_rfl) (by kernel_rfl) (by kernel_rfl) (fun _ _ _ h => h) (.inl ⟨by kernel_rfl, fun W hW => by kernel_rfl⟩) hS_5 ?_
              try simp only [Act.put, List.setIfInBounds_toArray, List.set_cons_zero, List.set_cons_succ]
              refine wpAnyH_done (by kernel_rfl) ?_ _
              have hbx := hb_5
              replace HX0 := Lib.hid (HX0.out.step hbx)
              replace HX1 := Lib.hid (HX1.out.step hbx)
              have HRF := Lib.hid hR_5
              have HRL := Lib.hid hR_3_4_5
              clear HSS HB hbx HLA HOL HFL ht0_2_3_4_5 ht1_2_3_4_5 hT_2_3_4_5 hT_4_5 hR_5 hR_3_4_5
              obtain ⟨V7, hV7⟩ : ∃ V, V = u_5 := ⟨_, rfl⟩
              rw [← hV7] at HX0 HX1 HRF HRL ⊢
              clear hV7
              obtain ⟨gl, ol, hAL, _⟩ := HRL.out 0 (by simp)
              rw [hAL] at HRL ⊢
              obtain ⟨cL, hcL⟩ : ∃ a, a = c_3 := ⟨_, rfl⟩
              rw [← hcL]
              clear hcL hAL
              obtain ⟨AF, hAF⟩ : ∃ a, a = A_5 := ⟨_, rfl⟩
              rw [← hAF] at HRF ⊢
              clear hAF
              rw [show (us :: O).length = O.length + 1 from rfl]
              have hne0 : (((O.length + 1 : Nat) : Int) == 0) = false := by simp; omega
              obtain ⟨mf, hmf⟩ : ∃ m, m = F.length := ⟨_, rfl⟩
              rw [← hmf]
              have hmf1 : mf ≤ F.length := by omega
              have hmf2 : F.length ≤ mf := by omega
              clear hmf
              go_wp2_with fail
              have hr0 : (V7.alloc (.cells #[] 3)).ownsRow V7.heap.size 3 1 (.slice (some ⟨V7.heap.size, 0, none⟩) 0 0) 0 (vI []) := World.ownsRow_made V7 #[] 0 (Nat.le_refl _) (by simp [maxLen]) (by simp)
              have hb0 : Below V7.heap.size V7 (V7.alloc (.cells #[] 3)) := (Below.refl _ V7).alloc (Nat.le_refl _) _
              obtain ⟨i0, hi0, hz0, hz1, hz2⟩ := info_parts infoI
              go_loopw [7, 8] (fun v x wr => ∃ (i gq cq : Nat), i ≤ mf ∧ x = .int .i64 i ∧ v = .slice (some ⟨gq, 0, none⟩) i cq ∧ wr.ownsRow V7.heap.size 3 1 (.slice (some ⟨gq, 0, none⟩) i cq) i (vI (onL (F.take i))) ∧ Below V7.heap.size V7 wr) (fun _ x _ => mf - (intOf x).toNat)
              case atStart => exact ⟨0, V7.heap.size, 0, Nat.zero_le _, rfl, rfl, by rw [List.take_zero]; exact hr0, hb0⟩
              case round =>
                obtain ⟨i, gq, cq, hi, rfl, rfl, hrow, hbr⟩ := hrel
                clear hr0 hb0
                have hbs := hbr.size
                by_cases hlt : i < mf
                · have hix : i < F.length := by omega
                  obtain ⟨g, o, hAg, d0⟩ := HRF.out i hix
                  have hgl := World.block_lt_of_cell? V7 _ d0
                  replace d0 := (hbr.cell (p := ⟨g, o + i, none⟩) hgl).trans d0
                  have HS : Hid (onL (F.take (i + 1)) = onL (F.take i) ++ [F[i]'hix + 1]) := Lib.hid (by rw [List.take_succ_eq_append_getElem hix, onL, List.map_append]; rfl)
                  have hxb := HFB1.out (F[i]'hix) (List.getElem_mem hix)
                  obtain ⟨x, hx⟩ : ∃ x, x = F[i]'hix := ⟨_, rfl⟩
                  rw [← hx] at d0 HS hxb
                  clear hx
                  rw [hAg]
                  have HA := Lib.hid hAg
                  clear hAg hgl
                  go_wp2_with (at_builtin; refine wpList_append_own _ rfl _ _ 28 rfl V7.heap.size 3 i0 (.int .i64 0) 1 8 Try.underlying28 hi0 hz0 hz1 hz2 rfl (by decide) _ _ _ rfl (hrow.alloc _) ⟨wr.heap.size, 0, none⟩ 1 1 [.int .i64 (x + 1)] rfl rfl (cell_one_new _ _ _) (by simp [Value.oneCell']) (by simp only [maxLen]; omega) (by omega) (by first | omega | (simp; done) | (simp; omega)) ?_; intro v1 y1 ho1 hg1 hv1; obtain ⟨g1, cap1, rfl⟩ := ownsRow_succ ho1)
                  have hb9 : Below V7.heap.size V7 y1 := (hbr.alloc (by omega) _).grown hg1 (by simp; omega) (fun q hq => (hrow.lt q hq).1)
                  go_roundw
                  case rel => exact ⟨i + 1, g1, cap1, by omega, by go_num, rfl, by rw [HS.out, vI_snoc]; exact ho1, hb9⟩
                  case measure => simp [intOf]; omega
                · have hi9 : mf = i := by omega
                  subst hi9
                  have hG9 : onL (F.take mf) = onL F := by rw [List.take_of_length_le (by omega)]
                  rw [hG9] at hrow
                  clear hG9
                  replace HRL := Lib.hid (HRL.out.below hbr (Nat.le_refl _))
                  replace HX0 := Lib.hid (HX0.out.step hbr)
                  replace HX1 := Lib.hid (HX1.out.step hbr)
                  have l0 : wr.cell? ⟨gl, ol, none⟩ = some (.int .i64 us) := by
                    obtain ⟨g9, o9, h9, h10⟩ := HRL.out 0 (by simp)
                    cases h9
                    simpa using h10
                  clear HRF
                  by_cases hu : 0 < us
                  · have HFX : Hid (Fa = [0] ++ onL F) := Lib.hid (by rw [HFA0.out, if_pos (by have := HUS.out; omega)])
                    have hFl9 : Fa.length = mf + 1 := by rw [HFX.out]; simp [onL]; omega
                    have ho0 := own_one wr 0
                    have hb10 : Below wr.heap.size wr (wr.alloc (.cells #[.int .i64 0] 3)) := (Below.refl _ wr).alloc (Nat.le_refl _) _
                    have hrow2 := hrow.alloc (.cells #[.int .i64 0] 3)
                    go_upto_region 13 with (at_builtin; refine wpList_append_own _ rfl _ _ 28 rfl wr.heap.size 3 i0 (.int .i64 0) 1 8 Try.underlying28 hi0 hz0 hz1 hz2 rfl (by decide) _ _ _ rfl ho0 ⟨gq, 0, none⟩ mf cq (vI (onL F)) rfl (by simp [vI, onL]; omega) (hrow2.cells (g := gq) rfl) (by simp [vI, Value.oneCell']) (by simp only [maxLen]; omega) (by omega) (by first | omega | (simp; done) | (simp; omega)) ?_; intro v2 y2 ho2 hg2 hv2; obtain ⟨g2, cap2, rfl⟩ := own_some ho2 (fun e => by cases (hv2.1 e).1))
                    have hb11 : Below wr.heap.size wr y2 := hb10.grown hg2 (by simp) (fun q hq => (ho0.lt q hq).1)
                    replace HX0 := Lib.hid (HX0.out.step hb11)
                    replace HX1 := Lib.hid (HX1.out.step hb11)
                    replace HRL := Lib.hid (HRL.out.below hb11 (Nat.le_refl _))
                    have hG : y2.ownsRow wr.heap.size 3 1 (.slice (some ⟨g2, 0, none⟩) Fa.length cap2) Fa.length (vI Fa) := by
                      rw [hFl9, HFX.out, vI_app, Nat.add_comm]
                      exact ho2
                    rw [show 1 + mf = Fa.length from by omega]
                    have hrG9 := rowI_own hG
                    obtain ⟨V9, hV9⟩ : ∃ V, V = y2 := ⟨_, rfl⟩
                    rw [← hV9] at HX0 HX1 HRL hrG9 ⊢
                    clear hV9
                    obtain ⟨AG, hAG⟩ : ∃ a, a = (some (⟨g2, 0, none⟩ : Addr)) := ⟨_, rfl⟩
                    rw [← hAG] at hrG9 ⊢
                    clear hAG
                    have HRG := Lib.hid hrG9
                    clear hrG9 hG hg2 ho2 hv2 hb11 hb10 hrow2 ho0 hrow hbr l0 hFl9
                    obtain ⟨d0, d1, d2, d3⟩ := HX0.out.four
                    obtain ⟨e0, e1, e2, e3⟩ := HX1.out.four
                    have HAP : Hid (∀ X, Below V9.heap.size V9 X → ∀ (hA : EIn X Any (.node tk tn tz tl) A0) (hB : EIn X Any (.node sk sn sz sl) A1), Calls Try.prog 12 #[.agg #[.int .i64 tk, .int .i64 tn, .string tz, .slice A0 tl.length (capF tl.length c0)], .agg #[.int .i64 sk, .int .i64 sn, .string sz, .slice A1 sl.length (capF sl.length c1)]] X fun e w' => ∃ A c, e = .returned (.agg #[.int .i64 3, .int .i64 0, .string n0B, .slice A 2 (capF 2 c)]) ∧ EIn w' Any (appE (.node tk tn tz tl) (.node sk sn sz sl)) A ∧ Below X.heap.size X w') := Lib.hid fun X hX hA hB => appq_any (.node tk tn tz tl) (.node sk sn sz sl) A0 A1 c0 c1 X hA hB
                    have HOP := Lib.hid (fun (X : World) (A : Option Addr) (c : Nat) (hA : EIn X Any (appE (.node tk tn tz tl) (.node sk sn sz sl)) A) => show Calls Try.prog 9 #[.agg #[.int .i64 3, .int .i64 0, .string n0B, .slice A 2 (capF 2 c)]] X (GivesI OL X) from by
                      have h := of_any (appE (.node tk tn tz tl) (.node sk sn sz sl)) A c X (by have := depth_app (.node tk tn tz tl) (.node sk sn sz sl); omega) (by have := size_app (.node tk tn tz tl) (.node sk sn sz sl); omega) (tame_app htt hts) hA
                      rw [← HOP0.out] at h
                      exact h)
                    have HHP := Lib.hid (fun (X : World) (A : Option Addr) (c : Nat) (hA : EIn X Any (appE (.node tk tn tz tl) (.node sk sn sz sl)) A) => show Calls Try.prog 11 #[.agg #[.int .i64 3, .int .i64 0, .string n0B, .slice A 2 (capF 2 c)]] X (GivesI Fh X) from by
                      have h := useFree_any (appE (.node tk tn tz tl) (.node sk sn sz sl)) A c X (by have := depth_app (.node tk tn tz tl) (.node sk sn sz sl); omega) (by have := size_app (.node tk tn tz tl) (.node sk sn sz sl); omega) (tame_app htt hts) hA
                      rw [← HFh.out] at h
                      exact h)
                    go_wp2_with fail
                    refine (HAP.out _ (Below.refl _ _) HX0.out.tin HX1.out.tin).mono ?_
                    rintro e u6 ⟨A6, c6, rfl, hT6, hb6⟩
                    clear d0 d1 d2 d3 e0 e1 e2 e3
                    replace HX0 := Lib.hid (HX0.out.step hb6)
                    replace HX1 := Lib.hid (HX1.out.step hb6)
                    have HRL6 := HRL.out.below hb6 (Nat.le_refl _)
                    have HRG6 := HRG.out.below hb6 (Nat.le_refl _)
                    have hT6h := Lib.hid hT6
                    clear hT6
                    go_wp2_with fail
                    refine (HOP.out _ _ _ hT6h.out).mono ?_
                    rintro e u7 ⟨AB, cB, rfl, hrB7, hb7⟩
                    have hrB := rowI_own hrB7
                    replace HX0 := Lib.hid (HX0.out.step hb7)
                    replace HX1 := Lib.hid (HX1.out.step hb7)
                    replace HRL6 := HRL6.below hb7 (Nat.le_refl _)
                    replace HRG6 := HRG6.below hb7 (Nat.le_refl _)
                    clear hrB7 hT6h
                    obtain ⟨d0, d1, d2, d3⟩ := HX0.out.four
                    obtain ⟨e0, e1, e2, e3⟩ := HX1.out.four
                    have hrBh := Lib.hid hrB
                    have HRL6h := Lib.hid HRL6
                    have HRG6h := Lib.hid HRG6
                    clear hrB HRL6 HRG6
                    go_wp2_with fail
                    refine (HAP.out _ (hb6.trans (hb7.mono hb6.size)) HX0.out.tin HX1.out.tin).mono ?_
                    rintro e u8 ⟨A8, c8, rfl, hT8, hb8⟩
                    clear d0 d1 d2 d3 e0 e1 e2 e3
                    replace HX0 := Lib.hid (HX0.out.step hb8)
                    replace HX1 := Lib.hid (HX1.out.step hb8)
                    have hT8h := Lib.hid hT8
                    clear hT8
                    go_wp2_with fail
                    refine (HHP.out _ _ _ hT8h.out).mono ?_
                    rintro e u9 ⟨AH, cH, rfl, hrH9, hb9⟩
                    have HRH := Lib.hid (rowI_own hrH9)
                    replace HX0 := Lib.hid (HX0.out.step hb9)
                    replace HX1 := Lib.hid (HX1.out.step hb9)
                    have HRL9 := Lib.hid ((HRL6h.out.below hb8 (Nat.le_refl _)).below hb9 (Nat.le_refl _))
                    have HRG9 := Lib.hid ((HRG6h.out.below hb8 (Nat.le_refl _)).below hb9 (Nat.le_refl _))
                    have HRB9 := Lib.hid ((hrBh.out.below hb8 (Nat.le_refl _)).below hb9 (Nat.le_refl _))
                    clear hT8h hrH9 hrBh HRL6h HRG6h hb6 hb7 hb8 hb9 HAP HOP HHP HRL HRG
                    obtain ⟨mh, hmh⟩ : ∃ m, m = Fh.length := ⟨_, rfl⟩
                    rw [← hmh]
                    have hmh1 : mh ≤ Fh.length := by omega
                    have hmh2 : Fh.length ≤ mh := by omega
                    clear hmh
                    go_wp2_with fail
                    go_loopw [11] (fun x wr => ∃ i : Nat, i ≤ mh ∧ x = .int .i64 i ∧ Below u9.heap.size u9 wr) (fun x _ => mh - (intOf x).toNat)
                    case atStart => exact ⟨0, Nat.zero_le _, rfl, Below.refl _ _⟩
                    case round =>
                      obtain ⟨i, hi, rfl, hbq⟩ := hrel
                      have hx0 := HX0.out.step hbq
                      have hx1 := HX1.out.step hbq
                      by_cases hlt : i < mh
                      · have hix : i < Fh.length := by omega
                        obtain ⟨gh, oh, rfl, d0⟩ := HRH.out i hix
                        have hgl0 := World.block_lt_of_cell? u9 _ d0
                        replace d0 := (hbq.cell (p := ⟨gh, oh + i, none⟩) hgl0).trans d0
                        have hgl := World.block_lt_of_cell? wr _ d0
                        have HX9 := Lib.hid ((free_app_mem (.node tk tn tz tl) (.node sk sn sz sl) (Fh[i]'hix)).1 (HFh.out ▸ List.getElem_mem hix))
                        rw [← HFa.out, ← HFb.out] at HX9
                        obtain ⟨x, hx⟩ : ∃ x, x = Fh[i]'hix := ⟨_, rfl⟩
                        rw [← hx] at d0 HX9
                        clear hx hgl0
                        obtain ⟨V18, hV18⟩ : ∃ V, V = wr := ⟨_, rfl⟩
                        rw [← hV18] at hx0 hx1 d0 hgl hbq ⊢
                        clear hV18
                        go_upto_region 18 with fail
                        have ht0 := hx0.tin
                        have ht1 := hx1.tin
                        have HB18 := Lib.hid hx0.bw
                        have HS18 : Hid (∀ V', Below V18.heap.size V18 V' → (fun V' : World => (V'.cell? ⟨g0, 0, none⟩ = some (.int .i64 tk) ∧ V'.cell? ⟨g0, 1, none⟩ = some (.int .i64 tn) ∧ V'.cell? ⟨g0, 2, none⟩ = some (.string tz) ∧ V'.cell? ⟨g0, 3, none⟩ = some (.slice A0 tl.length (capF tl.length c0)) ∧ V'.cell? ⟨g1, 0, none⟩ = some (.int .i64 sk) ∧ V'.cell? ⟨g1, 1, none⟩ = some (.int .i64 sn) ∧ V'.cell? ⟨g1, 2, none⟩ = some (.string sz) ∧ V'.cell? ⟨g1, 3, none⟩ = some (.slice A1 sl.length (capF sl.length c1)) ∧ V'.cell? ⟨gh, oh + i, none⟩ = some (.int .i64 x))) V') := Lib.hid fun V' h =>
                          ⟨(h.cell (p := ⟨g0, 0, none⟩) hx0.box.lt).trans (hx0.box.cell 0), (h.cell (p := ⟨g0, 1, none⟩) hx0.box.lt).trans (hx0.box.cell 1), (h.cell (p := ⟨g0, 2, none⟩) hx0.box.lt).trans (hx0.box.cell 2), (h.cell (p := ⟨g0, 3, none⟩) hx0.box.lt).trans (hx0.box.cell 3), (h.cell (p := ⟨g1, 0, none⟩) hx1.box.lt).trans (hx1.box.cell 0), (h.cell (p := ⟨g1, 1, none⟩) hx1.box.lt).trans (hx1.box.cell 1), (h.cell (p := ⟨g1, 2, none⟩) hx1.box.lt).trans (hx1.box.cell 2), (h.cell (p := ⟨g1, 3, none⟩) hx1.box.lt).trans (hx1.box.cell 3), (h.cell (p := ⟨gh, oh + i, none⟩) hgl).trans d0⟩
                        have HFA : Hid (∀ X, Below V18.heap.size V18 X → ∀ (A : Option Addr) (c : Nat) (hA : EIn X Any (.node tk tn tz tl) A), Calls Try.prog 11 #[.agg #[.int .i64 tk, .int .i64 tn, .string tz, .slice A tl.length (capF tl.length c)]] X (fun e w' => ∃ B d, e = .returned (.slice B Fa.length d) ∧ RowI w' B Fa ∧ Below X.heap.size X w')) := Lib.hid fun X hX A c hA => by
                          have h := useFree_any (.node tk tn tz tl) A c X (by omega) (by omega) htt hA
                          rw [← HFa.out] at h
                          exact h.mono fun e w' ⟨B, d, he, hr, hb⟩ => ⟨B, d, he, rowI_own hr, hb⟩
                        have HFB : Hid (∀ X, Below V18.heap.size V18 X → ∀ (A : Option Addr) (c : Nat) (hA : EIn X Any (.node sk sn sz sl) A), Calls Try.prog 11 #[.agg #[.int .i64 sk, .int .i64 sn, .string sz, .slice A sl.length (capF sl.length c)]] X (fun e w' => ∃ B d, e = .returned (.slice B Fb.length d) ∧ RowI w' B Fb ∧ Below X.heap.size X w')) := Lib.hid fun X hX A c hA => by
                          have h := useFree_any (.node sk sn sz sl) A c X (by omega) (by omega) hts hA
                          rw [← HFb.out] at h
                          exact h.mono fun e w' ⟨B, d, he, hr, hb⟩ => ⟨B, d, he, rowI_own hr, hb⟩
                        by_cases hin : x ∈ Fa
                        · have HIA : Hid (∀ X, Below V18.heap.size V18 X → ∀ (A : Option Addr) (c : Nat) (hA : RowI X A Fa), Calls Try.prog 13 #[.slice A Fa.length c, .int .i64 x] X (fun e w' => e = .returned (.bool true) ∧ Below X.heap.size X w')) := Lib.hid fun X hX A c hA => by
                            have h := in_any A c Fa x X hA hFal
                            rw [show decide (x ∈ Fa) = true from decide_eq_true hin] at h
                            exact h
                          clear hx0 hx1 d0
                          have hb_1 : Below V18.heap.size V18 V18 := Below.refl _ _
                          refine wp_region_held_drew (S := (fun V' : World => (V'.cell? ⟨g0, 0, none⟩ = some (.int .i64 tk) ∧ V'.cell? ⟨g0, 1, none⟩ = some (.int .i64 tn) ∧ V'.cell? ⟨g0, 2, none⟩ = some (.string tz) ∧ V'.cell? ⟨g0, 3, none⟩ = some (.slice A0 tl.length (capF tl.length c0)) ∧ V'.cell? ⟨g1, 0, none⟩ = some (.int .i64 sk) ∧ V'.cell? ⟨g1, 1, none⟩ = some (.int .i64 sn) ∧ V'.cell? ⟨g1, 2, none⟩ = some (.string sz) ∧ V'.cell? ⟨g1, 3, none⟩ = some (.slice A1 sl.length (capF sl.length c1)) ∧ V'.cell? ⟨gh, oh + i, none⟩ = some (.int .i64 x)))) rfl (HS18.out _ hb_1.drew) (fun hSs => ?_)
                          change wpAnyH _ _ _ _ _ 18 (Array.replicate 18 false) _ _
                          refine wpAnyH_take (i := 0) (oi := ⟨some 90, _, _, _, _, _⟩) (v := .agg #[.int .i64 tk, .int .i64 tn, .string tz, .slice A0 tl.length (capF tl.length c0)]) rfl (by kernel_rfl) (by kernel_rfl) (by kernel_rfl) (fun _ _ _ h => h) (.inl ⟨by kernel_rfl, fun W hW => by first | (obtain ⟨z0, z1, z2, z3, z4, z5, z6, z7, z8⟩ := hW; go_simp; done) | (obtain ⟨z0, z1, z2, z3, z4, z5, z6, z7, z8⟩ := hW; go_simp; omega) | (obtain ⟨z0, z1, z2, z3, z4, z5, z6, z7, z8⟩ := hW; go_simp; exact IntWalk.i64_in _ (by omega)) | (obtain ⟨z0, z1, z2, z3, z4, z5, z6, z7, z8⟩ := hW; go_simp; exact IntWalk.i64_in _ (by omega)) | (obtain ⟨z0, z1, z2, z3, z4, z5, z6, z7⟩ := hW; go_simp; simp [*]; done)⟩) hSs ?_
                          try simp only [Act.put, List.setIfInBounds_toArray, List.set_cons_zero, List.set_cons_succ]
                          refine wpAnyH_take (i := 2) (oi := ⟨some 92, _, _, _, _, _⟩) (v := .slice (some ⟨gh, oh, none⟩) mh cH) rfl (by kernel_rfl) (by kernel_rfl) (by kernel_rfl) (fun _ _ _ h => h) (.inl ⟨by kernel_rfl, fun W hW => by kernel_rfl⟩) hSs ?_
                          try simp only [Act.put, List.setIfInBounds_toArray, List.set_cons_zero, List.set_cons_succ]
                          refine wpAnyH_take (i := 3) (oi := ⟨some 93, _, _, _, _, _⟩) (v := .int .i64 (i : Int)) rfl (by kernel_rfl) (by kernel_rfl) (by kernel_rfl) (fun _ _ _ h => h) (.inl ⟨by kernel_rfl, fun W hW => by kernel_rfl⟩) hSs ?_
                          try simp only [Act.put, List.setIfInBounds_toArray, List.set_cons_zero, List.set_cons_succ]
                          refine wpAnyH_take (i := 4) (oi := ⟨some 94, _, _, _, _, _⟩) (v := .pointer (some ⟨gh, oh + i, none⟩)) rfl (by kernel_rfl) (by kernel_rfl) (by kernel_rfl) (fun _ _ _ h => h) (.inl ⟨by kernel_rfl, fun W hW => by first | (obtain ⟨z0, z1, z2, z3, z4, z5, z6, z7, z8⟩ := hW; go_simp; done) | (obtain ⟨z0, z1, z2, z3, z4, z5, z6, z7, z8⟩ := hW; go_simp; omega) | (obtain ⟨z0, z1, z2, z3, z4, z5, z6, z7, z8⟩ := hW; go_simp; exact IntWalk.i64_in _ (by omega)) | (obtain ⟨z0, z1, z2, z3, z4, z5, z6, z7, z8⟩ := hW; go_simp; exact IntWalk.i64_in _ (by omega)) | (obtain ⟨z0, z1, z2, z3, z4, z5, z6, z7⟩ := hW; go_simp; simp [*]; done)⟩) hSs ?_
                          try simp only [Act.put, List.setIfInBounds_toArray, List.set_cons_zero, List.set_cons_succ]
                          refine wpAnyH_take (i := 5) (oi := ⟨some 95, _, _, _, _, _⟩) (v := .int .i64 x) rfl (by kernel_rfl) (by kernel_rfl) (by kernel_rfl) (fun _ _ _ h => h) (.inl ⟨by kernel_rfl, fun W hW => by first | (obtain ⟨z0, z1, z2, z3, z4, z5, z6, z7, z8⟩ := hW; go_simp; done) | (obtain ⟨z0, z1, z2, z3, z4, z5, z6, z7, z8⟩ := hW; go_simp; omega) | (obtain ⟨z0, z1, z2, z3, z4, z5, z6, z7, z8⟩ := hW; go_simp; exact IntWalk.i64_in _ (by omega)) | (obtain ⟨z0, z1, z2, z3, z4, z5, z6, z7, z8⟩ := hW; go_simp; exact IntWalk.i64_in _ (by omega)) | (obtain ⟨z0, z1, z2, z3, z4, z5, z6, z7⟩ := hW; go_simp; simp [*]; done)⟩) hSs ?_
                          try simp only [Act.put, List.setIfInBounds_toArray, List.set_cons_zero, List.set_cons_succ]
                          refine wpAnyH_ready (rs := [1]) (by kernel_rfl) (by simp) (AllReadyH.cons rfl (fun K hK => ?_) AllReadyH.nil)
                          go_simp
                          refine (HFA.out _ (hb_1.drew) A0 c0 (EIn.below _ ht0 (Below.refl _ _).drew (Nat.le_refl _))).mono ?_
                          rintro e u_2 ⟨A_2, c_2, rfl, hR_2, hq_2⟩
                          have hb_2 := (hb_1.drew).trans (hq_2.mono (hb_1.drew).size)
                          have ht0_2 := EIn.below _ (EIn.below _ ht0 (Below.refl _ _).drew (Nat.le_refl _)) hq_2 (Nat.le_refl _)
                          have ht1_2 := EIn.below _ (EIn.below _ ht1 (Below.refl _ _).drew (Nat.le_refl _)) hq_2 (Nat.le_refl _)
                          clear ht0 ht1
                          refine hK.out _ _ (HS18.out _ hb_2) (fun hS_2 => ?_)
                          clear hK K
                          try simp only [Act.put, List.setIfInBounds_toArray, List.set_cons_zero, List.set_cons_succ]
                          refine wpAnyH_ready (rs := [6]) (by kernel_rfl) (by simp) (AllReadyH.cons rfl (fun K hK => ?_) AllReadyH.nil)
                          go_simp
                          refine (HIA.out _ hb_2 A_2 c_2 hR_2).mono ?_
                          rintro e u_3 ⟨rfl, hq_3⟩
                          have hb_3 := hb_2.trans (hq_3.mono hb_2.size)
                          have ht0_2_3 := EIn.below _ ht0_2 hq_3 (Nat.le_refl _)
                          have ht1_2_3 := EIn.below _ ht1_2 hq_3 (Nat.le_refl _)
                          clear ht0_2 ht1_2
                          have hR_2_3 := hR_2.below hq_3 (Nat.le_refl _)
                          clear hR_2
                          refine hK.out _ _ (HS18.out _ hb_3) (fun hS_3 => ?_)
                          clear hK K
                          try simp only [Act.put, List.setIfInBounds_toArray, List.set_cons_zero, List.set_cons_succ]
                          refine wpAnyH_take (i := 7) (oi := ⟨some 97, _, _, _, _, _⟩) (v := .bool false) rfl (by kernel_rfl) (by kernel_rfl) (by kernel_rfl) (fun _ _ _ h => h) (.inl ⟨by kernel_rfl, fun W hW => by kernel_rfl⟩) hS_3 ?_
                          try simp only [Act.put, List.setIfInBounds_toArray, List.set_cons_zero, List.set_cons_succ]
                          refine wpAnyH_take (i := 8) (oi := ⟨some 98, _, _, _, _, _⟩) (v := .bool false) rfl (by kernel_rfl) (by kernel_rfl) (by kernel_rfl) (fun _ _ _ h => h) (.inl ⟨by kernel_rfl, fun W hW => by kernel_rfl⟩) hS_3 ?_
                          try simp only [Act.put, List.setIfInBounds_toArray, List.set_cons_zero, List.set_cons_succ]
                          refine wpAnyH_take (i := 9) (oi := ⟨some 99, _, _, _, _, _⟩) (v := undef) rfl (by kernel_rfl) (by kernel_rfl) (by kernel_rfl) (fun _ _ _ h => h) (.inr ⟨by kernel_rfl, rfl⟩) hS_3 ?_
                          try simp only [Act.put, List.setIfInBounds_toArray, List.set_cons_zero, List.set_cons_succ]
                          refine wpAnyH_take (i := 10) (oi := ⟨some 100, _, _, _, _, _⟩) (v := undef) rfl (by kernel_rfl) (by kernel_rfl) (by kernel_rfl) (fun _ _ _ h => h) (.inr ⟨by kernel_rfl, rfl⟩) hS_3 ?_
                          try simp only [Act.put, List.setIfInBounds_toArray, List.set_cons_zero, List.set_cons_succ]
                          refine wpAnyH_take (i := 11) (oi := ⟨some 101, _, _, _, _, _⟩) (v := undef) rfl (by kernel_rfl) (by kernel_rfl) (by kernel_rfl) (fun _ _ _ h => h) (.inr ⟨by kernel_rfl, rfl⟩) hS_3 ?_
                          try simp only [Act.put, List.setIfInBounds_toArray, List.set_cons_zero, List.set_cons_succ]
                          refine wpAnyH_take (i := 12) (oi := ⟨some 102, _, _, _, _, _⟩) (v := undef) rfl (by kernel_rfl) (by kernel_rfl) (by kernel_rfl) (fun _ _ _ h => h) (.inr ⟨by kernel_rfl, rfl⟩) hS_3 ?_
                          try simp only [Act.put, List.setIfInBounds_toArray, List.set_cons_zero, List.set_cons_succ]
                          refine wpAnyH_take (i := 13) (oi := ⟨some 103, _, _, _, _, _⟩) (v := undef) rfl (by kernel_rfl) (by kernel_rfl) (by kernel_rfl) (fun _ _ _ h => h) (.inr ⟨by kernel_rfl, rfl⟩) hS_3 ?_
                          try simp only [Act.put, List.setIfInBounds_toArray, List.set_cons_zero, List.set_cons_succ]
                          refine wpAnyH_take (i := 14) (oi := ⟨some 104, _, _, _, _, _⟩) (v := undef) rfl (by kernel_rfl) (by kernel_rfl) (by kernel_rfl) (fun _ _ _ h => h) (.inr ⟨by kernel_rfl, rfl⟩) hS_3 ?_
                          try simp only [Act.put, List.setIfInBounds_toArray, List.set_cons_zero, List.set_cons_succ]
                          refine wpAnyH_take (i := 15) (oi := ⟨some 105, _, _, _, _, _⟩) (v := undef) rfl (by kernel_rfl) (by kernel_rfl) (by kernel_rfl) (fun _ _ _ h => h) (.inr ⟨by kernel_rfl, rfl⟩) hS_3 ?_
                          try simp only [Act.put, List.setIfInBounds_toArray, List.set_cons_zero, List.set_cons_succ]
                          refine wpAnyH_take (i := 16) (oi := ⟨some 106, _, _, _, _, _⟩) (v := undef) rfl (by kernel_rfl) (by kernel_rfl) (by kernel_rfl) (fun _ _ _ h => h) (.inr ⟨by kernel_rfl, rfl⟩) hS_3 ?_
                          try simp only [Act.put, List.setIfInBounds_toArray, List.set_cons_zero, List.set_cons_succ]
                          refine wpAnyH_take (i := 17) (oi := ⟨some 107, _, _, _, _, _⟩) (v := .bool false) rfl (by kernel_rfl) (by kernel_rfl) (by kernel_rfl) (fun _ _ _ h => h) (.inl ⟨by kernel_rfl, fun W hW => by kernel_rfl⟩) hS_3 ?_
                          try simp only [Act.put, List.setIfInBounds_toArray, List.set_cons_zero, List.set_cons_succ]
                          refine wpAnyH_done (by kernel_rfl) ?_ _
                          have hbx := hb_3
                          go_wp2_with fail
                          go_roundw
                          case rel => exact ⟨i + 1, by omega, by go_num, hbq.trans (hbx.mono hbq.size)⟩
                          case measure => simp [intOf]; omega
                        · have HIA : Hid (∀ X, Below V18.heap.size V18 X → ∀ (A : Option Addr) (c : Nat) (hA : RowI X A Fa), Calls Try.prog 13 #[.slice A Fa.length c, .int .i64 x] X (fun e w' => e = .returned (.bool false) ∧ Below X.heap.size X w')) := Lib.hid fun X hX A c hA => by
                            have h := in_any A c Fa x X hA hFal
                            rw [show decide (x ∈ Fa) = false from decide_eq_false hin] at h
                            exact h
                          have HIB : Hid (∀ X, Below V18.heap.size V18 X → ∀ (A : Option Addr) (c : Nat) (hA : RowI X A Fb), Calls Try.prog 13 #[.slice A Fb.length c, .int .i64 x] X (fun e w' => e = .returned (.bool true) ∧ Below X.heap.size X w')) := Lib.hid fun X hX A c hA => by
                            have h := in_any A c Fb x X hA hFbl
                            rw [show decide (x ∈ Fb) = true from decide_eq_true (HX9.out.resolve_left hin)] at h
                            exact h
                          clear hx0 hx1 d0
                          have hb_1 : Below V18.heap.size V18 V18 := Below.refl _ _
                          refine wp_region_held_drew (S := (fun V' : World => (V'.cell? ⟨g0, 0, none⟩ = some (.int .i64 tk) ∧ V'.cell? ⟨g0, 1, none⟩ = some (.int .i64 tn) ∧ V'.cell? ⟨g0, 2, none⟩ = some (.string tz) ∧ V'.cell? ⟨g0, 3, none⟩ = some (.slice A0 tl.length (capF tl.length c0)) ∧ V'.cell? ⟨g1, 0, none⟩ = some (.int .i64 sk) ∧ V'.cell? ⟨g1, 1, none⟩ = some (.int .i64 sn) ∧ V'.cell? ⟨g1, 2, none⟩ = some (.string sz) ∧ V'.cell? ⟨g1, 3, none⟩ = some (.slice A1 sl.length (capF sl.length c1)) ∧ V'.cell? ⟨gh, oh + i, none⟩ = some (.int .i64 x)))) rfl (HS18.out _ hb_1.drew) (fun hSs => ?_)
                          change wpAnyH _ _ _ _ _ 18 (Array.replicate 18 false) _ _
                          refine wpAnyH_take (i := 0) (oi := ⟨some 90, _, _, _, _, _⟩) (v := .agg #[.int .i64 tk, .int .i64 tn, .string tz, .slice A0 tl.length (capF tl.length c0)]) rfl (by kernel_rfl) (by kernel_rfl) (by kernel_rfl) (fun _ _ _ h => h) (.inl ⟨by kernel_rfl, fun W hW => by first | (obtain ⟨z0, z1, z2, z3, z4, z5, z6, z7, z8⟩ := hW; go_simp; done) | (obtain ⟨z0, z1, z2, z3, z4, z5, z6, z7, z8⟩ := hW; go_simp; omega) | (obtain ⟨z0, z1, z2, z3, z4, z5, z6, z7, z8⟩ := hW; go_simp; exact IntWalk.i64_in _ (by omega)) | (obtain ⟨z0, z1, z2, z3, z4, z5, z6, z7, z8⟩ := hW; go_simp; exact IntWalk.i64_in _ (by omega)) | (obtain ⟨z0, z1, z2, z3, z4, z5, z6, z7⟩ := hW; go_simp; simp [*]; done)⟩) hSs ?_
                          try simp only [Act.put, List.setIfInBounds_toArray, List.set_cons_zero, List.set_cons_succ]
                          refine wpAnyH_take (i := 2) (oi := ⟨some 92, _, _, _, _, _⟩) (v := .slice (some ⟨gh, oh, none⟩) mh cH) rfl (by kernel_rfl) (by kernel_rfl) (by kernel_rfl) (fun _ _ _ h => h) (.inl ⟨by kernel_rfl, fun W hW => by kernel_rfl⟩) hSs ?_
                          try simp only [Act.put, List.setIfInBounds_toArray, List.set_cons_zero, List.set_cons_succ]
                          refine wpAnyH_take (i := 3) (oi := ⟨some 93, _, _, _, _, _⟩) (v := .int .i64 (i : Int)) rfl (by kernel_rfl) (by kernel_rfl) (by kernel_rfl) (fun _ _ _ h => h) (.inl ⟨by kernel_rfl, fun W hW => by kernel_rfl⟩) hSs ?_
                          try simp only [Act.put, List.setIfInBounds_toArray, List.set_cons_zero, List.set_cons_succ]
                          refine wpAnyH_take (i := 4) (oi := ⟨some 94, _, _, _, _, _⟩) (v := .pointer (some ⟨gh, oh + i, none⟩)) rfl (by kernel_rfl) (by kernel_rfl) (by kernel_rfl) (fun _ _ _ h => h) (.inl ⟨by kernel_rfl, fun W hW => by first | (obtain ⟨z0, z1, z2, z3, z4, z5, z6, z7, z8⟩ := hW; go_simp; done) | (obtain ⟨z0, z1, z2, z3, z4, z5, z6, z7, z8⟩ := hW; go_simp; omega) | (obtain ⟨z0, z1, z2, z3, z4, z5, z6, z7, z8⟩ := hW; go_simp; exact IntWalk.i64_in _ (by omega)) | (obtain ⟨z0, z1, z2, z3, z4, z5, z6, z7, z8⟩ := hW; go_simp; exact IntWalk.i64_in _ (by omega)) | (obtain ⟨z0, z1, z2, z3, z4, z5, z6, z7⟩ := hW; go_simp; simp [*]; done)⟩) hSs ?_
                          try simp only [Act.put, List.setIfInBounds_toArray, List.set_cons_zero, List.set_cons_succ]
                          refine wpAnyH_take (i := 5) (oi := ⟨some 95, _, _, _, _, _⟩) (v := .int .i64 x) rfl (by kernel_rfl) (by kernel_rfl) (by kernel_rfl) (fun _ _ _ h => h) (.inl ⟨by kernel_rfl, fun W hW => by first | (obtain ⟨z0, z1, z2, z3, z4, z5, z6, z7, z8⟩ := hW; go_simp; done) | (obtain ⟨z0, z1, z2, z3, z4, z5, z6, z7, z8⟩ := hW; go_simp; omega) | (obtain ⟨z0, z1, z2, z3, z4, z5, z6, z7, z8⟩ := hW; go_simp; exact IntWalk.i64_in _ (by omega)) | (obtain ⟨z0, z1, z2, z3, z4, z5, z6, z7, z8⟩ := hW; go_simp; exact IntWalk.i64_in _ (by omega)) | (obtain ⟨z0, z1, z2, z3, z4, z5, z6, z7⟩ := hW; go_simp; simp [*]; done)⟩) hSs ?_
                          try simp only [Act.put, List.setIfInBounds_toArray, List.set_cons_zero, List.set_cons_succ]
                          refine wpAnyH_ready (rs := [1]) (by kernel_rfl) (by simp) (AllReadyH.cons rfl (fun K hK => ?_) AllReadyH.nil)
                          go_simp
                          refine (HFA.out _ (hb_1.drew) A0 c0 (EIn.below _ ht0 (Below.refl _ _).drew (Nat.le_refl _))).mono ?_
                          rintro e u_2 ⟨A_2, c_2, rfl, hR_2, hq_2⟩
                          have hb_2 := (hb_1.drew).trans (hq_2.mono (hb_1.drew).size)
                          have ht0_2 := EIn.below _ (EIn.below _ ht0 (Below.refl _ _).drew (Nat.le_refl _)) hq_2 (Nat.le_refl _)
                          have ht1_2 := EIn.below _ (EIn.below _ ht1 (Below.refl _ _).drew (Nat.le_refl _)) hq_2 (Nat.le_refl _)
                          clear ht0 ht1
                          refine hK.out _ _ (HS18.out _ hb_2) (fun hS_2 => ?_)
                          clear hK K
                          try simp only [Act.put, List.setIfInBounds_toArray, List.set_cons_zero, List.set_cons_succ]
                          refine wpAnyH_ready (rs := [6]) (by kernel_rfl) (by simp) (AllReadyH.cons rfl (fun K hK => ?_) AllReadyH.nil)
                          go_simp
                          refine (HIA.out _ hb_2 A_2 c_2 hR_2).mono ?_
                          rintro e u_3 ⟨rfl, hq_3⟩
                          have hb_3 := hb_2.trans (hq_3.mono hb_2.size)
                          have ht0_2_3 := EIn.below _ ht0_2 hq_3 (Nat.le_refl _)
                          have ht1_2_3 := EIn.below _ ht1_2 hq_3 (Nat.le_refl _)
                          clear ht0_2 ht1_2
                          have hR_2_3 := hR_2.below hq_3 (Nat.le_refl _)
                          clear hR_2
                          refine hK.out _ _ (HS18.out _ hb_3) (fun hS_3 => ?_)
                          clear hK K
                          try simp only [Act.put, List.setIfInBounds_toArray, List.set_cons_zero, List.set_cons_succ]
                          refine wpAnyH_take (i := 7) (oi := ⟨some 97, _, _, _, _, _⟩) (v := .bool true) rfl (by kernel_rfl) (by kernel_rfl) (by kernel_rfl) (fun _ _ _ h => h) (.inl ⟨by kernel_rfl, fun W hW => by kernel_rfl⟩) hS_3 ?_
                          try simp only [Act.put, List.setIfInBounds_toArray, List.set_cons_zero, List.set_cons_succ]
                          refine wpAnyH_take (i := 8) (oi := ⟨some 98, _, _, _, _, _⟩) (v := .bool true) rfl (by kernel_rfl) (by kernel_rfl) (by kernel_rfl) (fun _ _ _ h => h) (.inl ⟨by kernel_rfl, fun W hW => by kernel_rfl⟩) hS_3 ?_
                          try simp only [Act.put, List.setIfInBounds_toArray, List.set_cons_zero, List.set_cons_succ]
                          refine wpAnyH_take (i := 9) (oi := ⟨some 99, _, _, _, _, _⟩) (v := .agg #[.int .i64 sk, .int .i64 sn, .string sz, .slice A1 sl.length (capF sl.length c1)]) rfl (by kernel_rfl) (by kernel_rfl) (by kernel_rfl) (fun _ _ _ h => h) (.inl ⟨by kernel_rfl, fun W hW => by first | (obtain ⟨z0, z1, z2, z3, z4, z5, z6, z7, z8⟩ := hW; go_simp; done) | (obtain ⟨z0, z1, z2, z3, z4, z5, z6, z7, z8⟩ := hW; go_simp; omega) | (obtain ⟨z0, z1, z2, z3, z4, z5, z6, z7, z8⟩ := hW; go_simp; exact IntWalk.i64_in _ (by omega)) | (obtain ⟨z0, z1, z2, z3, z4, z5, z6, z7, z8⟩ := hW; go_simp; exact IntWalk.i64_in _ (by omega)) | (obtain ⟨z0, z1, z2, z3, z4, z5, z6, z7⟩ := hW; go_simp; simp [*]; done)⟩) hS_3 ?_
                          try simp only [Act.put, List.setIfInBounds_toArray, List.set_cons_zero, List.set_cons_succ]
                          refine wpAnyH_take (i := 11) (oi := ⟨some 101, _, _, _, _, _⟩) (v := .slice (some ⟨gh, oh, none⟩) mh cH) rfl (by kernel_rfl) (by kernel_rfl) (by kernel_rfl) (fun _ _ _ h => h) (.inl ⟨by kernel_rfl, fun W hW => by kernel_rfl⟩) hS_3 ?_
                          try simp only [Act.put, List.setIfInBounds_toArray, List.set_cons_zero, List.set_cons_succ]
                          refine wpAnyH_take (i := 12) (oi := ⟨some 102, _, _, _, _, _⟩) (v := .int .i64 (i : Int)) rfl (by kernel_rfl) (by kernel_rfl) (by kernel_rfl) (fun _ _ _ h => h) (.inl ⟨by kernel_rfl, fun W hW => by kernel_rfl⟩) hS_3 ?_
                          try simp only [Act.put, List.setIfInBounds_toArray, List.set_cons_zero, List.set_cons_succ]
                          refine wpAnyH_take (i := 13) (oi := ⟨some 103, _, _, _, _, _⟩) (v := .pointer (some ⟨gh, oh + i, none⟩)) rfl (by kernel_rfl) (by kernel_rfl) (by kernel_rfl) (fun _ _ _ h => h) (.inl ⟨by kernel_rfl, fun W hW => by first | (obtain ⟨z0, z1, z2, z3, z4, z5, z6, z7, z8⟩ := hW; go_simp; done) | (obtain ⟨z0, z1, z2, z3, z4, z5, z6, z7, z8⟩ := hW; go_simp; omega) | (obtain ⟨z0, z1, z2, z3, z4, z5, z6, z7, z8⟩ := hW; go_simp; exact IntWalk.i64_in _ (by omega)) | (obtain ⟨z0, z1, z2, z3, z4, z5, z6, z7, z8⟩ := hW; go_simp; exact IntWalk.i64_in _ (by omega)) | (obtain ⟨z0, z1, z2, z3, z4, z5, z6, z7⟩ := hW; go_simp; simp [*]; done)⟩) hS_3 ?_
                          try simp only [Act.put, List.setIfInBounds_toArray, List.set_cons_zero, List.set_cons_succ]
                          refine wpAnyH_take (i := 14) (oi := ⟨some 104, _, _, _, _, _⟩) (v := .int .i64 x) rfl (by kernel_rfl) (by kernel_rfl) (by kernel_rfl) (fun _ _ _ h => h) (.inl ⟨by kernel_rfl, fun W hW => by first | (obtain ⟨z0, z1, z2, z3, z4, z5, z6, z7, z8⟩ := hW; go_simp; done) | (obtain ⟨z0, z1, z2, z3, z4, z5, z6, z7, z8⟩ := hW; go_simp; omega) | (obtain ⟨z0, z1, z2, z3, z4, z5, z6, z7, z8⟩ := hW; go_simp; exact IntWalk.i64_in _ (by omega)) | (obtain ⟨z0, z1, z2, z3, z4, z5, z6, z7, z8⟩ := hW; go_simp; exact IntWalk.i64_in _ (by omega)) | (obtain ⟨z0, z1, z2, z3, z4, z5, z6, z7⟩ := hW; go_simp; simp [*]; done)⟩) hS_3 ?_
                          try simp only [Act.put, List.setIfInBounds_toArray, List.set_cons_zero, List.set_cons_succ]
                          refine wpAnyH_ready (rs := [10]) (by kernel_rfl) (by simp) (AllReadyH.cons rfl (fun K hK => ?_) AllReadyH.nil)
                          rw [if_pos (by kernel_rfl)]
                          go_simp
                          refine (HFB.out _ hb_3 A1 c1 ht1_2_3).mono ?_
                          rintro e u_4 ⟨A_4, c_4, rfl, hR_4, hq_4⟩
                          have hb_4 := hb_3.trans (hq_4.mono hb_3.size)
                          have ht0_2_3_4 := EIn.below _ ht0_2_3 hq_4 (Nat.le_refl _)
                          have ht1_2_3_4 := EIn.below _ ht1_2_3 hq_4 (Nat.le_refl _)
                          clear ht0_2_3 ht1_2_3
                          have hR_2_3_4 := hR_2_3.below hq_4 (Nat.le_refl _)
                          clear hR_2_3
                          refine hK.out _ _ (HS18.out _ hb_4) (fun hS_4 => ?_)
                          clear hK K
                          try simp only [Act.put, List.setIfInBounds_toArray, List.set_cons_zero, List.set_cons_succ]
                          refine wpAnyH_ready (rs := [15]) (by kernel_rfl) (by simp) (AllReadyH.cons rfl (fun K hK => ?_) AllReadyH.nil)
                          rw [if_pos (by kernel_rfl)]
                          go_simp
                          refine (HIB.out _ hb_4 A_4 c_4 hR_4).mono ?_
                          rintro e u_5 ⟨rfl, hq_5⟩
                          have hb_5 := hb_4.trans (hq_5.mono hb_4.size)
                          have ht0_2_3_4_5 := EIn.below _ ht0_2_3_4 hq_5 (Nat.le_refl _)
                          have ht1_2_3_4_5 := EIn.below _ ht1_2_3_4 hq_5 (Nat.le_refl _)
                          clear ht0_2_3_4 ht1_2_3_4
                          have hR_2_3_4_5 := hR_2_3_4.below hq_5 (Nat.le_refl _)
                          clear hR_2_3_4
                          have hR_4_5 := hR_4.below hq_5 (Nat.le_refl _)
                          clear hR_4
                          refine hK.out _ _ (HS18.out _ hb_5) (fun hS_5 => ?_)
                          clear hK K
                          try simp only [Act.put, List.setIfInBounds_toArray, List.set_cons_zero, List.set_cons_succ]
                          refine wpAnyH_take (i := 16) (oi := ⟨some 106, _, _, _, _, _⟩) (v := .bool false) rfl (by kernel_rfl) (by kernel_rfl) (by kernel_rfl) (fun _ _ _ h => h) (.inl ⟨by kernel_rfl, fun W hW => by kernel_rfl⟩) hS_5 ?_
                          try simp only [Act.put, List.setIfInBounds_toArray, List.set_cons_zero, List.set_cons_succ]
                          refine wpAnyH_take (i := 17) (oi := ⟨some 107, _, _, _, _, _⟩) (v := .bool false) rfl (by kernel_rfl) (by kernel_rfl) (by kernel_rfl) (fun _ _ _ h => h) (.inl ⟨by kernel_rfl, fun W hW => by kernel_rfl⟩) hS_5 ?_
                          try simp only [Act.put, List.setIfInBounds_toArray, List.set_cons_zero, List.set_cons_succ]
                          refine wpAnyH_done (by kernel_rfl) ?_ _
                          have hbx := hb_5
                          go_wp2_with fail
                          go_roundw
                          case rel => exact ⟨i + 1, by omega, by go_num, hbq.trans (hbx.mono hbq.size)⟩
                          case measure => simp [intOf]; omega
                      · have hi9 : mh = i := by omega
                        subst hi9
                        have hrL0 := HRL9.out.below hbq (Nat.le_refl _)
                        have hrG := HRG9.out.below hbq (Nat.le_refl _)
                        have hrB := HRB9.out.below hbq (Nat.le_refl _)
                        obtain ⟨AT, hAT⟩ : ∃ a, a = (if O.length + 1 + cL = 1 then (some ⟨gl, ol, none⟩ : Option Addr) else some ⟨gl, ol + 1, none⟩) := ⟨_, rfl⟩
                        have hrL : RowI wr AT O := by rw [hAT]; exact rowI_cut hrL0
                        replace hAT := hAT.symm
                        have h1O : (1 : Int) ≤ (O.length : Int) + 1 := by omega
                        clear HRL9 HRG9 HRB9 HRH hbq HX0 HX1 hrL0
                        obtain ⟨V20, hV20⟩ : ∃ V, V = wr := ⟨_, rfl⟩
                        rw [← hV20] at hx0 hx1 hrL hrG hrB ⊢
                        clear hV20
                        go_upto_region 20 with fail
                        have ht0 := hx0.tin
                        have ht1 := hx1.tin
                        have HB20 := Lib.hid hx0.bw
                        have HS20 : Hid (∀ V', Below V20.heap.size V20 V' → (fun V' : World => (V'.cell? ⟨g0, 0, none⟩ = some (.int .i64 tk) ∧ V'.cell? ⟨g0, 1, none⟩ = some (.int .i64 tn) ∧ V'.cell? ⟨g0, 2, none⟩ = some (.string tz) ∧ V'.cell? ⟨g0, 3, none⟩ = some (.slice A0 tl.length (capF tl.length c0)) ∧ V'.cell? ⟨g1, 0, none⟩ = some (.int .i64 sk) ∧ V'.cell? ⟨g1, 1, none⟩ = some (.int .i64 sn) ∧ V'.cell? ⟨g1, 2, none⟩ = some (.string sz) ∧ V'.cell? ⟨g1, 3, none⟩ = some (.slice A1 sl.length (capF sl.length c1)))) V') := Lib.hid fun V' h =>
                          ⟨(h.cell (p := ⟨g0, 0, none⟩) hx0.box.lt).trans (hx0.box.cell 0), (h.cell (p := ⟨g0, 1, none⟩) hx0.box.lt).trans (hx0.box.cell 1), (h.cell (p := ⟨g0, 2, none⟩) hx0.box.lt).trans (hx0.box.cell 2), (h.cell (p := ⟨g0, 3, none⟩) hx0.box.lt).trans (hx0.box.cell 3), (h.cell (p := ⟨g1, 0, none⟩) hx1.box.lt).trans (hx1.box.cell 0), (h.cell (p := ⟨g1, 1, none⟩) hx1.box.lt).trans (hx1.box.cell 1), (h.cell (p := ⟨g1, 2, none⟩) hx1.box.lt).trans (hx1.box.cell 2), (h.cell (p := ⟨g1, 3, none⟩) hx1.box.lt).trans (hx1.box.cell 3)⟩
                        have HFA : Hid (∀ X, Below V20.heap.size V20 X → ∀ (A : Option Addr) (c : Nat) (hA : EIn X Any (.node tk tn tz tl) A), Calls Try.prog 11 #[.agg #[.int .i64 tk, .int .i64 tn, .string tz, .slice A tl.length (capF tl.length c)]] X (fun e w' => ∃ B d, e = .returned (.slice B Fa.length d) ∧ RowI w' B Fa ∧ Below X.heap.size X w')) := Lib.hid fun X hX A c hA => by
                          have h := useFree_any (.node tk tn tz tl) A c X (by omega) (by omega) htt hA
                          rw [← HFa.out] at h
                          exact h.mono fun e w' ⟨B, d, he, hr, hb⟩ => ⟨B, d, he, rowI_own hr, hb⟩
                        have HFB : Hid (∀ X, Below V20.heap.size V20 X → ∀ (A : Option Addr) (c : Nat) (hA : EIn X Any (.node sk sn sz sl) A), Calls Try.prog 11 #[.agg #[.int .i64 sk, .int .i64 sn, .string sz, .slice A sl.length (capF sl.length c)]] X (fun e w' => ∃ B d, e = .returned (.slice B Fb.length d) ∧ RowI w' B Fb ∧ Below X.heap.size X w')) := Lib.hid fun X hX A c hA => by
                          have h := useFree_any (.node sk sn sz sl) A c X (by omega) (by omega) hts hA
                          rw [← HFb.out] at h
                          exact h.mono fun e w' ⟨B, d, he, hr, hb⟩ => ⟨B, d, he, rowI_own hr, hb⟩
                        have HOA : Hid (∀ X, Below V20.heap.size V20 X → ∀ (A : Option Addr) (c : Nat) (hA : EIn X Any (.node tk tn tz tl) A), Calls Try.prog 9 #[.agg #[.int .i64 tk, .int .i64 tn, .string tz, .slice A tl.length (capF tl.length c)]] X (fun e w' => ∃ B d, e = .returned (.slice B O.length d) ∧ w'.ownsRow X.heap.size 3 1 (.slice B O.length d) O.length (vI O) ∧ Below X.heap.size X w')) := Lib.hid fun X hX A c hA => by
                          have h := of_any (.node tk tn tz tl) A c X (by omega) (by omega) htt hA
                          rw [← HOa.out] at h
                          exact h
                        have HOB : Hid (∀ X, Below V20.heap.size V20 X → ∀ (A : Option Addr) (c : Nat) (hA : EIn X Any (.node sk sn sz sl) A), Calls Try.prog 9 #[.agg #[.int .i64 sk, .int .i64 sn, .string sz, .slice A sl.length (capF sl.length c)]] X (fun e w' => ∃ B d, e = .returned (.slice B O2.length d) ∧ w'.ownsRow X.heap.size 3 1 (.slice B O2.length d) O2.length (vI O2) ∧ Below X.heap.size X w')) := Lib.hid fun X hX A c hA => by
                          have h := of_any (.node sk sn sz sl) A c X (by omega) (by omega) hts hA
                          rw [← HOb.out] at h
                          exact h
                        have HIF : Hid (∀ X, Below V20.heap.size V20 X → ∀ (A B : Option Addr) (c d : Nat) (hA : RowI X A Fa) (hB : RowI X B Fa), Calls Try.prog 14 #[.slice A Fa.length c, .slice B Fa.length d] X (fun e w' => e = .returned (.bool true) ∧ Below X.heap.size X w')) := Lib.hid fun X hX A B c d hA hB => by
                          have h := ints_any A B c d Fa Fa X hA hB hFal hFal
                          rw [decide_eq_true (rfl : Fa = Fa)] at h
                          exact h
                        have HIO : Hid (∀ X, Below V20.heap.size V20 X → ∀ (A B : Option Addr) (c d : Nat) (hA : RowI X A O) (hB : RowI X B O), Calls Try.prog 14 #[.slice A O.length c, .slice B O.length d] X (fun e w' => e = .returned (.bool true) ∧ Below X.heap.size X w')) := Lib.hid fun X hX A B c d hA hB => by
                          have h := ints_any A B c d O O X hA hB hOl hOl
                          rw [decide_eq_true (rfl : O = O)] at h
                          exact h
                        have HIB : Hid (∀ X, Below V20.heap.size V20 X → ∀ (A B : Option Addr) (c d : Nat) (hA : RowI X A OL) (hB : RowI X B OL), Calls Try.prog 14 #[.slice A OL.length c, .slice B OL.length d] X (fun e w' => e = .returned (.bool true) ∧ Below X.heap.size X w')) := Lib.hid fun X hX A B c d hA hB => by
                          have h := ints_any A B c d OL OL X hA hB hBl hBl
                          rw [decide_eq_true (rfl : OL = OL)] at h
                          exact h
                        have HTA0 := Lib.hid ht0
                        have HTA1 := Lib.hid ht1
                        have HRB := Lib.hid hrB
                        clear hx0 hx1
                        have hb_1 : Below V20.heap.size V20 V20 := Below.refl _ _
                        refine wp_region_held_drew (S := (fun V' : World => (V'.cell? ⟨g0, 0, none⟩ = some (.int .i64 tk) ∧ V'.cell? ⟨g0, 1, none⟩ = some (.int .i64 tn) ∧ V'.cell? ⟨g0, 2, none⟩ = some (.string tz) ∧ V'.cell? ⟨g0, 3, none⟩ = some (.slice A0 tl.length (capF tl.length c0)) ∧ V'.cell? ⟨g1, 0, none⟩ = some (.int .i64 sk) ∧ V'.cell? ⟨g1, 1, none⟩ = some (.int .i64 sn) ∧ V'.cell? ⟨g1, 2, none⟩ = some (.string sz) ∧ V'.cell? ⟨g1, 3, none⟩ = some (.slice A1 sl.length (capF sl.length c1))))) rfl (HS20.out _ hb_1.drew) (fun hSs => ?_)
                        change wpAnyH _ _ _ _ _ 35 (Array.replicate 35 false) _ _
                        refine wpAnyH_take (i := 0) (oi := ⟨some 108, _, _, _, _, _⟩) (v := .agg #[.int .i64 tk, .int .i64 tn, .string tz, .slice A0 tl.length (capF tl.length c0)]) rfl (by kernel_rfl) (by kernel_rfl) (by kernel_rfl) (fun _ _ _ h => h) (.inl ⟨by kernel_rfl, fun W hW => by first | (obtain ⟨z0, z1, z2, z3, z4, z5, z6, z7⟩ := hW; go_simp; done) | (obtain ⟨z0, z1, z2, z3, z4, z5, z6, z7⟩ := hW; go_simp; omega) | (obtain ⟨z0, z1, z2, z3, z4, z5, z6, z7⟩ := hW; go_simp; exact IntWalk.i64_in _ (by omega)) | (obtain ⟨z0, z1, z2, z3, z4, z5, z6, z7⟩ := hW; go_simp; exact IntWalk.i64_in _ (by omega)) | (obtain ⟨z0, z1, z2, z3, z4, z5, z6, z7⟩ := hW; go_simp; simp [*]; done)⟩) hSs ?_
                        try simp only [Act.put, List.setIfInBounds_toArray, List.set_cons_zero, List.set_cons_succ]
                        refine wpAnyH_take (i := 2) (oi := ⟨some 110, _, _, _, _, _⟩) (v := .slice AG Fa.length cap2) rfl (by kernel_rfl) (by kernel_rfl) (by kernel_rfl) (fun _ _ _ h => h) (.inl ⟨by kernel_rfl, fun W hW => by kernel_rfl⟩) hSs ?_
                        try simp only [Act.put, List.setIfInBounds_toArray, List.set_cons_zero, List.set_cons_succ]
                        refine wpAnyH_ready (rs := [1]) (by kernel_rfl) (by simp) (AllReadyH.cons rfl (fun K hK => ?_) AllReadyH.nil)
                        go_simp
                        refine (HFA.out _ (hb_1.drew) A0 c0 (EIn.below _ ht0 (Below.refl _ _).drew (Nat.le_refl _))).mono ?_
                        rintro e u_2 ⟨A_2, c_2, rfl, hR_2, hq_2⟩
                        have hb_2 := (hb_1.drew).trans (hq_2.mono (hb_1.drew).size)
                        have ht0_2 := EIn.below _ (EIn.below _ ht0 (Below.refl _ _).drew (Nat.le_refl _)) hq_2 (Nat.le_refl _)
                        have ht1_2 := EIn.below _ (EIn.below _ ht1 (Below.refl _ _).drew (Nat.le_refl _)) hq_2 (Nat.le_refl _)
                        clear ht0 ht1
                        have hrG_2 := (hrG.below (Below.refl _ _).drew (Nat.le_refl _)).below hq_2 (Nat.le_refl _)
                        clear hrG
                        have hrL_2 := (hrL.below (Below.refl _ _).drew (Nat.le_refl _)).below hq_2 (Nat.le_refl _)
                        clear hrL
                        have hrB_2 := (hrB.below (Below.refl _ _).drew (Nat.le_refl _)).below hq_2 (Nat.le_refl _)
                        clear hrB
                        refine hK.out _ _ (HS20.out _ hb_2) (fun hS_2 => ?_)
                        clear hK K
                        try simp only [Act.put, List.setIfInBounds_toArray, List.set_cons_zero, List.set_cons_succ]
                        refine wpAnyH_ready (rs := [3]) (by kernel_rfl) (by simp) (AllReadyH.cons rfl (fun K hK => ?_) AllReadyH.nil)
                        go_simp
                        refine (HIF.out _ hb_2 A_2 AG c_2 cap2 hR_2 hrG_2).mono ?_
                        rintro e u_3 ⟨rfl, hq_3⟩
                        have hb_3 := hb_2.trans (hq_3.mono hb_2.size)
                        have ht0_2_3 := EIn.below _ ht0_2 hq_3 (Nat.le_refl _)
                        have ht1_2_3 := EIn.below _ ht1_2 hq_3 (Nat.le_refl _)
                        clear ht0_2 ht1_2
                        have hrG_2_3 := hrG_2.below hq_3 (Nat.le_refl _)
                        clear hrG_2
                        have hrL_2_3 := hrL_2.below hq_3 (Nat.le_refl _)
                        clear hrL_2
                        have hrB_2_3 := hrB_2.below hq_3 (Nat.le_refl _)
                        clear hrB_2
                        have hR_2_3 := hR_2.below hq_3 (Nat.le_refl _)
                        clear hR_2
                        refine hK.out _ _ (HS20.out _ hb_3) (fun hS_3 => ?_)
                        clear hK K
                        try simp only [Act.put, List.setIfInBounds_toArray, List.set_cons_zero, List.set_cons_succ]
                        refine wpAnyH_take (i := 4) (oi := ⟨some 112, _, _, _, _, _⟩) (v := .bool true) rfl (by kernel_rfl) (by kernel_rfl) (by kernel_rfl) (fun _ _ _ h => h) (.inl ⟨by kernel_rfl, fun W hW => by kernel_rfl⟩) hS_3 ?_
                        try simp only [Act.put, List.setIfInBounds_toArray, List.set_cons_zero, List.set_cons_succ]
                        refine wpAnyH_take (i := 5) (oi := ⟨some 113, _, _, _, _, _⟩) (v := .slice (some ⟨gl, ol, none⟩) (O.length + 1) (O.length + 1 + cL)) rfl (by kernel_rfl) (by kernel_rfl) (by kernel_rfl) (fun _ _ _ h => h) (.inl ⟨by kernel_rfl, fun W hW => by kernel_rfl⟩) hS_3 ?_
                        try simp only [Act.put, List.setIfInBounds_toArray, List.set_cons_zero, List.set_cons_succ]
                        refine wpAnyH_take (i := 6) (oi := ⟨some 114, _, _, _, _, _⟩) (v := .slice AT O.length (O.length + cL)) rfl (by kernel_rfl) (by kernel_rfl) (by kernel_rfl) (fun _ _ _ h => h) (.inl ⟨by kernel_rfl, fun W hW => by first | (obtain ⟨z0, z1, z2, z3, z4, z5, z6, z7⟩ := hW; go_simp; done) | (obtain ⟨z0, z1, z2, z3, z4, z5, z6, z7⟩ := hW; go_simp; omega) | (obtain ⟨z0, z1, z2, z3, z4, z5, z6, z7⟩ := hW; go_simp; exact IntWalk.i64_in _ (by omega)) | (obtain ⟨z0, z1, z2, z3, z4, z5, z6, z7⟩ := hW; go_simp; exact IntWalk.i64_in _ (by omega)) | (obtain ⟨z0, z1, z2, z3, z4, z5, z6, z7⟩ := hW; go_simp; simp [*]; done)⟩) hS_3 ?_
                        try simp only [Act.put, List.setIfInBounds_toArray, List.set_cons_zero, List.set_cons_succ]
                        refine wpAnyH_take (i := 7) (oi := ⟨some 115, _, _, _, _, _⟩) (v := .agg #[.int .i64 tk, .int .i64 tn, .string tz, .slice A0 tl.length (capF tl.length c0)]) rfl (by kernel_rfl) (by kernel_rfl) (by kernel_rfl) (fun _ _ _ h => h) (.inl ⟨by kernel_rfl, fun W hW => by first | (obtain ⟨z0, z1, z2, z3, z4, z5, z6, z7⟩ := hW; go_simp; done) | (obtain ⟨z0, z1, z2, z3, z4, z5, z6, z7⟩ := hW; go_simp; omega) | (obtain ⟨z0, z1, z2, z3, z4, z5, z6, z7⟩ := hW; go_simp; exact IntWalk.i64_in _ (by omega)) | (obtain ⟨z0, z1, z2, z3, z4, z5, z6, z7⟩ := hW; go_simp; exact IntWalk.i64_in _ (by omega)) | (obtain ⟨z0, z1, z2, z3, z4, z5, z6, z7⟩ := hW; go_simp; simp [*]; done)⟩) hS_3 ?_
                        try simp only [Act.put, List.setIfInBounds_toArray, List.set_cons_zero, List.set_cons_succ]
                        refine wpAnyH_ready (rs := [8]) (by kernel_rfl) (by simp) (AllReadyH.cons rfl (fun K hK => ?_) AllReadyH.nil)
                        rw [if_pos (by kernel_rfl)]
                        go_simp
                        refine (HOA.out _ hb_3 A0 c0 ht0_2_3).mono ?_
                        rintro e u_4 ⟨A_4, c_4, rfl, hZ_4, hq_4⟩
                        have hb_4 := hb_3.trans (hq_4.mono hb_3.size)
                        have ht0_2_3_4 := EIn.below _ ht0_2_3 hq_4 (Nat.le_refl _)
                        have ht1_2_3_4 := EIn.below _ ht1_2_3 hq_4 (Nat.le_refl _)
                        clear ht0_2_3 ht1_2_3
                        have hrG_2_3_4 := hrG_2_3.below hq_4 (Nat.le_refl _)
                        clear hrG_2_3
                        have hrL_2_3_4 := hrL_2_3.below hq_4 (Nat.le_refl _)
                        clear hrL_2_3
                        have hrB_2_3_4 := hrB_2_3.below hq_4 (Nat.le_refl _)
                        clear hrB_2_3
                        have hR_2_3_4 := hR_2_3.below hq_4 (Nat.le_refl _)
                        clear hR_2_3
                        have hR_4 := rowI_own hZ_4
                        refine hK.out _ _ (HS20.out _ hb_4) (fun hS_4 => ?_)
                        clear hK K
                        try simp only [Act.put, List.setIfInBounds_toArray, List.set_cons_zero, List.set_cons_succ]
                        refine wpAnyH_ready (rs := [9]) (by kernel_rfl) (by simp) (AllReadyH.cons rfl (fun K hK => ?_) AllReadyH.nil)
                        rw [if_pos (by kernel_rfl)]
                        go_simp
                        refine (HIO.out _ hb_4 AT A_4 (O.length + cL) c_4 hrL_2_3_4 hR_4).mono ?_
                        rintro e u_5 ⟨rfl, hq_5⟩
                        have hb_5 := hb_4.trans (hq_5.mono hb_4.size)
                        have ht0_2_3_4_5 := EIn.below _ ht0_2_3_4 hq_5 (Nat.le_refl _)
                        have ht1_2_3_4_5 := EIn.below _ ht1_2_3_4 hq_5 (Nat.le_refl _)
                        clear ht0_2_3_4 ht1_2_3_4
                        have hrG_2_3_4_5 := hrG_2_3_4.below hq_5 (Nat.le_refl _)
                        clear hrG_2_3_4
                        have hrL_2_3_4_5 := hrL_2_3_4.below hq_5 (Nat.le_refl _)
                        clear hrL_2_3_4
                        have hrB_2_3_4_5 := hrB_2_3_4.below hq_5 (Nat.le_refl _)
                        clear hrB_2_3_4
                        have hR_2_3_4_5 := hR_2_3_4.below hq_5 (Nat.le_refl _)
                        clear hR_2_3_4
                        have hR_4_5 := hR_4.below hq_5 (Nat.le_refl _)
                        clear hR_4
                        refine hK.out _ _ (HS20.out _ hb_5) (fun hS_5 => ?_)
                        clear hK K
                        try simp only [Act.put, List.setIfInBounds_toArray, List.set_cons_zero, List.set_cons_succ]
                        refine wpAnyH_take (i := 10) (oi := ⟨some 118, _, _, _, _, _⟩) (v := .bool true) rfl (by kernel_rfl) (by kernel_rfl) (by kernel_rfl) (fun _ _ _ h => h) (.inl ⟨by kernel_rfl, fun W hW => by kernel_rfl⟩) hS_5 ?_
                        try simp only [Act.put, List.setIfInBounds_toArray, List.set_cons_zero, List.set_cons_succ]
                        refine wpAnyH_take (i := 11) (oi := ⟨some 119, _, _, _, _, _⟩) (v := .bool true) rfl (by kernel_rfl) (by kernel_rfl) (by kernel_rfl) (fun _ _ _ h => h) (.inl ⟨by kernel_rfl, fun W hW => by kernel_rfl⟩) hS_5 ?_
                        try simp only [Act.put, List.setIfInBounds_toArray, List.set_cons_zero, List.set_cons_succ]
                        refine wpAnyH_take (i := 12) (oi := ⟨some 120, _, _, _, _, _⟩) (v := .slice AB OL.length cB) rfl (by kernel_rfl) (by kernel_rfl) (by kernel_rfl) (fun _ _ _ h => h) (.inl ⟨by kernel_rfl, fun W hW => by kernel_rfl⟩) hS_5 ?_
                        try simp only [Act.put, List.setIfInBounds_toArray, List.set_cons_zero, List.set_cons_succ]
                        refine wpAnyH_take (i := 14) (oi := ⟨some 122, _, _, _, _, _⟩) (v := .agg #[.int .i64 tk, .int .i64 tn, .string tz, .slice A0 tl.length (capF tl.length c0)]) rfl (by kernel_rfl) (by kernel_rfl) (by kernel_rfl) (fun _ _ _ h => h) (.inl ⟨by kernel_rfl, fun W hW => by first | (obtain ⟨z0, z1, z2, z3, z4, z5, z6, z7⟩ := hW; go_simp; done) | (obtain ⟨z0, z1, z2, z3, z4, z5, z6, z7⟩ := hW; go_simp; omega) | (obtain ⟨z0, z1, z2, z3, z4, z5, z6, z7⟩ := hW; go_simp; exact IntWalk.i64_in _ (by omega)) | (obtain ⟨z0, z1, z2, z3, z4, z5, z6, z7⟩ := hW; go_simp; exact IntWalk.i64_in _ (by omega)) | (obtain ⟨z0, z1, z2, z3, z4, z5, z6, z7⟩ := hW; go_simp; simp [*]; done)⟩) hS_5 ?_
                        try simp only [Act.put, List.setIfInBounds_toArray, List.set_cons_zero, List.set_cons_succ]
                        refine wpAnyH_take (i := 17) (oi := ⟨some 125, _, _, _, _, _⟩) (v := .agg #[.int .i64 sk, .int .i64 sn, .string sz, .slice A1 sl.length (capF sl.length c1)]) rfl (by kernel_rfl) (by kernel_rfl) (by kernel_rfl) (fun _ _ _ h => h) (.inl ⟨by kernel_rfl, fun W hW => by first | (obtain ⟨z0, z1, z2, z3, z4, z5, z6, z7⟩ := hW; go_simp; done) | (obtain ⟨z0, z1, z2, z3, z4, z5, z6, z7⟩ := hW; go_simp; omega) | (obtain ⟨z0, z1, z2, z3, z4, z5, z6, z7⟩ := hW; go_simp; exact IntWalk.i64_in _ (by omega)) | (obtain ⟨z0, z1, z2, z3, z4, z5, z6, z7⟩ := hW; go_simp; exact IntWalk.i64_in _ (by omega)) | (obtain ⟨z0, z1, z2, z3, z4, z5, z6, z7⟩ := hW; go_simp; simp [*]; done)⟩) hS_5 ?_
                        try simp only [Act.put, List.setIfInBounds_toArray, List.set_cons_zero, List.set_cons_succ]
                        refine wpAnyH_ready (rs := [13, 15]) (by kernel_rfl) (by simp) (AllReadyH.cons rfl (fun K hK => ?_) (AllReadyH.cons rfl (fun K hK => ?_) AllReadyH.nil))
                        · rw [if_pos (by kernel_rfl)]
                          go_simp
                          have hb_6 : Below V20.heap.size V20 (u_5.alloc (.cells #[] 3)) := hb_5.alloc hb_5.size _
                          have ho_6 : (u_5.alloc (.cells #[] 3)).ownsRow V20.heap.size 3 1 (.slice (some ⟨u_5.heap.size, 0, none⟩) 0 0) 0 (vI []) := World.ownsRow_made u_5 #[] 0 hb_5.size (by simp [maxLen]) (by simp)
                          have htA0_6 := EIn.below _ HTA0.out hb_6 (Nat.le_refl _)
                          have htA1_6 := EIn.below _ HTA1.out hb_6 (Nat.le_refl _)
                          have hrAB_6 := HRB.out.below hb_6 (Nat.le_refl _)
                          generalize u_5.alloc (.cells #[] 3) = u_6 at hb_6 ho_6 htA0_6 htA1_6 hrAB_6 ⊢
                          generalize u_5.heap.size = g_6 at ho_6 ⊢
                          refine hK.out _ _ (HS20.out _ hb_6) (fun hS_6 => ?_)
                          clear hK K
                          try simp only [Act.put, List.setIfInBounds_toArray, List.set_cons_zero, List.set_cons_succ]
                          refine wpAnyH_ready (rs := [15]) (by kernel_rfl) (by simp) (AllReadyH.cons rfl (fun K hK => ?_) AllReadyH.nil)
                          rw [if_pos (by kernel_rfl)]
                          go_simp
                          refine (HOA.out _ hb_6 A0 c0 htA0_6).mono ?_
                          rintro e u_7 ⟨A_7, c_7, rfl, hZ_7, hq_7⟩
                          have hb_7 := hb_6.trans (hq_7.mono hb_6.size)
                          have htA0_6_7 := EIn.below _ htA0_6 hq_7 (Nat.le_refl _)
                          have htA1_6_7 := EIn.below _ htA1_6 hq_7 (Nat.le_refl _)
                          clear htA0_6 htA1_6
                          have hrAB_6_7 := hrAB_6.below hq_7 (Nat.le_refl _)
                          clear hrAB_6
                          have hR_7 := rowI_own hZ_7
                          have ho_6_7 := ownsRow_heap ho_6 (fun q hq => hq_7.block q (World.ownsRow.lt ho_6 q hq).2)
                          refine hK.out _ _ (HS20.out _ hb_7) (fun hS_7 => ?_)
                          clear hK K
                          try simp only [Act.put, List.setIfInBounds_toArray, List.set_cons_zero, List.set_cons_succ]
                          refine wpAnyH_ready (rs := [16]) (by kernel_rfl) (by simp) (AllReadyH.cons rfl (fun K hK => ?_) AllReadyH.nil)
                          rw [if_pos (by kernel_rfl)]
                          refine wp_append_row _ _ rfl V20.heap.size ([] : List Int) O g_6 0 rfl ho_6_7 A_7 c_7 _ rfl hZ_7 (by first | omega | (simp; omega)) hb_7.size (fun g_8 c_8 u_8 ho_8 hg_8 => ?_)
                          have hb_8 : Below V20.heap.size V20 u_8 := hb_7.grown hg_8 hb_7.size (fun q hq => (World.ownsRow.lt ho_6_7 q hq).1)
                          have htA0_8 := EIn.below _ HTA0.out hb_8 (Nat.le_refl _)
                          have htA1_8 := EIn.below _ HTA1.out hb_8 (Nat.le_refl _)
                          have hrAB_8 := HRB.out.below hb_8 (Nat.le_refl _)
                          rw [← HL1.out] at ho_8 ⊢
                          have hro_8 := rowI_own ho_8
                          refine hK.out _ _ (HS20.out _ hb_8) (fun hS_8 => ?_)
                          clear hK K
                          try simp only [Act.put, List.setIfInBounds_toArray]
                          refine wpAnyH_ready (rs := [18]) (by kernel_rfl) (by simp) (AllReadyH.cons rfl (fun K hK => ?_) AllReadyH.nil)
                          rw [if_pos (by kernel_rfl)]
                          go_simp
                          refine (HOB.out _ hb_8 A1 c1 htA1_8).mono ?_
                          rintro e u_9 ⟨A_9, c_9, rfl, hZ_9, hq_9⟩
                          have hb_9 := hb_8.trans (hq_9.mono hb_8.size)
                          have htA0_8_9 := EIn.below _ htA0_8 hq_9 (Nat.le_refl _)
                          have htA1_8_9 := EIn.below _ htA1_8 hq_9 (Nat.le_refl _)
                          clear htA0_8 htA1_8
                          have hrAB_8_9 := hrAB_8.below hq_9 (Nat.le_refl _)
                          clear hrAB_8
                          have hro_8_9 := hro_8.below hq_9 (Nat.le_refl _)
                          clear hro_8
                          have hR_9 := rowI_own hZ_9
                          have ho_8_9 := ownsRow_heap ho_8 (fun q hq => hq_9.block q (World.ownsRow.lt ho_8 q hq).2)
                          refine hK.out _ _ (HS20.out _ hb_9) (fun hS_9 => ?_)
                          clear hK K
                          try simp only [Act.put, List.setIfInBounds_toArray, List.set_cons_zero, List.set_cons_succ]
                          refine wpAnyH_ready (rs := [19]) (by kernel_rfl) (by simp) (AllReadyH.cons rfl (fun K hK => ?_) AllReadyH.nil)
                          rw [if_pos (by kernel_rfl)]
                          refine wp_append_row _ _ rfl V20.heap.size L1 O2 g_8 c_8 rfl ho_8_9 A_9 c_9 _ rfl hZ_9 (by first | omega | (simp; omega)) hb_9.size (fun g_10 c_10 u_10 ho_10 hg_10 => ?_)
                          have hb_10 : Below V20.heap.size V20 u_10 := hb_9.grown hg_10 hb_9.size (fun q hq => (World.ownsRow.lt ho_8_9 q hq).1)
                          have htA0_10 := EIn.below _ HTA0.out hb_10 (Nat.le_refl _)
                          have htA1_10 := EIn.below _ HTA1.out hb_10 (Nat.le_refl _)
                          have hrAB_10 := HRB.out.below hb_10 (Nat.le_refl _)
                          rw [← HL2.out] at ho_10 ⊢
                          have hro_10 := rowI_own ho_10
                          refine hK.out _ _ (HS20.out _ hb_10) (fun hS_10 => ?_)
                          clear hK K
                          try simp only [Act.put, List.setIfInBounds_toArray]
                          refine wpAnyH_ready (rs := [20]) (by kernel_rfl) (by simp) (AllReadyH.cons rfl (fun K hK => ?_) AllReadyH.nil)
                          rw [if_pos (by kernel_rfl)]
                          go_simp
                          refine (HIB.out _ hb_10 AB (some ⟨g_10, 0, none⟩) cB c_10 hrAB_10 hro_10).mono ?_
                          rintro e u_11 ⟨rfl, hq_11⟩
                          have hb_11 := hb_10.trans (hq_11.mono hb_10.size)
                          have htA0_10_11 := EIn.below _ htA0_10 hq_11 (Nat.le_refl _)
                          have htA1_10_11 := EIn.below _ htA1_10 hq_11 (Nat.le_refl _)
                          clear htA0_10 htA1_10
                          have hrAB_10_11 := hrAB_10.below hq_11 (Nat.le_refl _)
                          clear hrAB_10
                          have hro_10_11 := hro_10.below hq_11 (Nat.le_refl _)
                          clear hro_10
                          have ho_10_11 := ownsRow_heap ho_10 (fun q hq => hq_11.block q (World.ownsRow.lt ho_10 q hq).2)
                          refine hK.out _ _ (HS20.out _ hb_11) (fun hS_11 => ?_)
                          clear hK K
                          try simp only [Act.put, List.setIfInBounds_toArray, List.set_cons_zero, List.set_cons_succ]
                          refine wpAnyH_take (i := 21) (oi := ⟨some 129, _, _, _, _, _⟩) (v := .bool true) rfl (by kernel_rfl) (by kernel_rfl) (by kernel_rfl) (fun _ _ _ h => h) (.inl ⟨by kernel_rfl, fun W hW => by kernel_rfl⟩) hS_11 ?_
                          try simp only [Act.put, List.setIfInBounds_toArray, List.set_cons_zero, List.set_cons_succ]
                          refine wpAnyH_take (i := 22) (oi := ⟨some 130, _, _, _, _, _⟩) (v := .bool true) rfl (by kernel_rfl) (by kernel_rfl) (by kernel_rfl) (fun _ _ _ h => h) (.inl ⟨by kernel_rfl, fun W hW => by kernel_rfl⟩) hS_11 ?_
                          try simp only [Act.put, List.setIfInBounds_toArray, List.set_cons_zero, List.set_cons_succ]
                          refine wpAnyH_take (i := 23) (oi := ⟨some 131, _, _, _, _, _⟩) (v := .slice AH mh cH) rfl (by kernel_rfl) (by kernel_rfl) (by kernel_rfl) (fun _ _ _ h => h) (.inl ⟨by kernel_rfl, fun W hW => by kernel_rfl⟩) hS_11 ?_
                          try simp only [Act.put, List.setIfInBounds_toArray, List.set_cons_zero, List.set_cons_succ]
                          refine wpAnyH_take (i := 24) (oi := ⟨some 132, _, _, _, _, _⟩) (v := .int .i64 (mh : Int)) rfl (by kernel_rfl) (by kernel_rfl) (by kernel_rfl) (fun _ _ _ h => h) (.inl ⟨by kernel_rfl, fun W hW => by first | (obtain ⟨z0, z1, z2, z3, z4, z5, z6, z7⟩ := hW; go_simp; done) | (obtain ⟨z0, z1, z2, z3, z4, z5, z6, z7⟩ := hW; go_simp; omega) | (obtain ⟨z0, z1, z2, z3, z4, z5, z6, z7⟩ := hW; go_simp; exact IntWalk.i64_in _ (by omega)) | (obtain ⟨z0, z1, z2, z3, z4, z5, z6, z7⟩ := hW; go_simp; exact IntWalk.i64_in _ (by omega)) | (obtain ⟨z0, z1, z2, z3, z4, z5, z6, z7⟩ := hW; go_simp; simp [*]; done)⟩) hS_11 ?_
                          try simp only [Act.put, List.setIfInBounds_toArray, List.set_cons_zero, List.set_cons_succ]
                          refine wpAnyH_take (i := 25) (oi := ⟨some 133, _, _, _, _, _⟩) (v := .agg #[.int .i64 tk, .int .i64 tn, .string tz, .slice A0 tl.length (capF tl.length c0)]) rfl (by kernel_rfl) (by kernel_rfl) (by kernel_rfl) (fun _ _ _ h => h) (.inl ⟨by kernel_rfl, fun W hW => by first | (obtain ⟨z0, z1, z2, z3, z4, z5, z6, z7⟩ := hW; go_simp; done) | (obtain ⟨z0, z1, z2, z3, z4, z5, z6, z7⟩ := hW; go_simp; omega) | (obtain ⟨z0, z1, z2, z3, z4, z5, z6, z7⟩ := hW; go_simp; exact IntWalk.i64_in _ (by omega)) | (obtain ⟨z0, z1, z2, z3, z4, z5, z6, z7⟩ := hW; go_simp; exact IntWalk.i64_in _ (by omega)) | (obtain ⟨z0, z1, z2, z3, z4, z5, z6, z7⟩ := hW; go_simp; simp [*]; done)⟩) hS_11 ?_
                          try simp only [Act.put, List.setIfInBounds_toArray, List.set_cons_zero, List.set_cons_succ]
                          refine wpAnyH_take (i := 28) (oi := ⟨some 136, _, _, _, _, _⟩) (v := .agg #[.int .i64 sk, .int .i64 sn, .string sz, .slice A1 sl.length (capF sl.length c1)]) rfl (by kernel_rfl) (by kernel_rfl) (by kernel_rfl) (fun _ _ _ h => h) (.inl ⟨by kernel_rfl, fun W hW => by first | (obtain ⟨z0, z1, z2, z3, z4, z5, z6, z7⟩ := hW; go_simp; done) | (obtain ⟨z0, z1, z2, z3, z4, z5, z6, z7⟩ := hW; go_simp; omega) | (obtain ⟨z0, z1, z2, z3, z4, z5, z6, z7⟩ := hW; go_simp; exact IntWalk.i64_in _ (by omega)) | (obtain ⟨z0, z1, z2, z3, z4, z5, z6, z7⟩ := hW; go_simp; exact IntWalk.i64_in _ (by omega)) | (obtain ⟨z0, z1, z2, z3, z4, z5, z6, z7⟩ := hW; go_simp; simp [*]; done)⟩) hS_11 ?_
                          try simp only [Act.put, List.setIfInBounds_toArray, List.set_cons_zero, List.set_cons_succ]
                          refine wpAnyH_ready (rs := [26]) (by kernel_rfl) (by simp) (AllReadyH.cons rfl (fun K hK => ?_) AllReadyH.nil)
                          rw [if_pos (by kernel_rfl)]
                          go_simp
                          refine (HFA.out _ hb_11 A0 c0 htA0_10_11).mono ?_
                          rintro e u_12 ⟨A_12, c_12, rfl, hR_12, hq_12⟩
                          have hb_12 := hb_11.trans (hq_12.mono hb_11.size)
                          have htA0_10_11_12 := EIn.below _ htA0_10_11 hq_12 (Nat.le_refl _)
                          have htA1_10_11_12 := EIn.below _ htA1_10_11 hq_12 (Nat.le_refl _)
                          clear htA0_10_11 htA1_10_11
                          have hrAB_10_11_12 := hrAB_10_11.below hq_12 (Nat.le_refl _)
                          clear hrAB_10_11
                          have hro_10_11_12 := hro_10_11.below hq_12 (Nat.le_refl _)
                          clear hro_10_11
                          have ho_10_11_12 := ownsRow_heap ho_10_11 (fun q hq => hq_12.block q (World.ownsRow.lt ho_10_11 q hq).2)
                          refine hK.out _ _ (HS20.out _ hb_12) (fun hS_12 => ?_)
                          clear hK K
                          try simp only [Act.put, List.setIfInBounds_toArray, List.set_cons_zero, List.set_cons_succ]
                          refine wpAnyH_take (i := 27) (oi := ⟨some 135, _, _, _, _, _⟩) (v := .int .i64 (Fa.length : Int)) rfl (by kernel_rfl) (by kernel_rfl) (by kernel_rfl) (fun _ _ _ h => h) (.inl ⟨by kernel_rfl, fun W hW => by first | (obtain ⟨z0, z1, z2, z3, z4, z5, z6, z7⟩ := hW; go_simp; done) | (obtain ⟨z0, z1, z2, z3, z4, z5, z6, z7⟩ := hW; go_simp; omega) | (obtain ⟨z0, z1, z2, z3, z4, z5, z6, z7⟩ := hW; go_simp; exact IntWalk.i64_in _ (by omega)) | (obtain ⟨z0, z1, z2, z3, z4, z5, z6, z7⟩ := hW; go_simp; exact IntWalk.i64_in _ (by omega)) | (obtain ⟨z0, z1, z2, z3, z4, z5, z6, z7⟩ := hW; go_simp; simp [*]; done)⟩) hS_12 ?_
                          try simp only [Act.put, List.setIfInBounds_toArray, List.set_cons_zero, List.set_cons_succ]
                          refine wpAnyH_ready (rs := [29]) (by kernel_rfl) (by simp) (AllReadyH.cons rfl (fun K hK => ?_) AllReadyH.nil)
                          rw [if_pos (by kernel_rfl)]
                          go_simp
                          refine (HFB.out _ hb_12 A1 c1 htA1_10_11_12).mono ?_
                          rintro e u_13 ⟨A_13, c_13, rfl, hR_13, hq_13⟩
                          have hb_13 := hb_12.trans (hq_13.mono hb_12.size)
                          have htA0_10_11_12_13 := EIn.below _ htA0_10_11_12 hq_13 (Nat.le_refl _)
                          have htA1_10_11_12_13 := EIn.below _ htA1_10_11_12 hq_13 (Nat.le_refl _)
                          clear htA0_10_11_12 htA1_10_11_12
                          have hrAB_10_11_12_13 := hrAB_10_11_12.below hq_13 (Nat.le_refl _)
                          clear hrAB_10_11_12
                          have hro_10_11_12_13 := hro_10_11_12.below hq_13 (Nat.le_refl _)
                          clear hro_10_11_12
                          have hR_12_13 := hR_12.below hq_13 (Nat.le_refl _)
                          clear hR_12
                          have ho_10_11_12_13 := ownsRow_heap ho_10_11_12 (fun q hq => hq_13.block q (World.ownsRow.lt ho_10_11_12 q hq).2)
                          refine hK.out _ _ (HS20.out _ hb_13) (fun hS_13 => ?_)
                          clear hK K
                          try simp only [Act.put, List.setIfInBounds_toArray, List.set_cons_zero, List.set_cons_succ]
                          refine wpAnyH_take (i := 30) (oi := ⟨some 138, _, _, _, _, _⟩) (v := .int .i64 (Fb.length : Int)) rfl (by kernel_rfl) (by kernel_rfl) (by kernel_rfl) (fun _ _ _ h => h) (.inl ⟨by kernel_rfl, fun W hW => by first | (obtain ⟨z0, z1, z2, z3, z4, z5, z6, z7⟩ := hW; go_simp; done) | (obtain ⟨z0, z1, z2, z3, z4, z5, z6, z7⟩ := hW; go_simp; omega) | (obtain ⟨z0, z1, z2, z3, z4, z5, z6, z7⟩ := hW; go_simp; exact IntWalk.i64_in _ (by omega)) | (obtain ⟨z0, z1, z2, z3, z4, z5, z6, z7⟩ := hW; go_simp; exact IntWalk.i64_in _ (by omega)) | (obtain ⟨z0, z1, z2, z3, z4, z5, z6, z7⟩ := hW; go_simp; simp [*]; done)⟩) hS_13 ?_
                          try simp only [Act.put, List.setIfInBounds_toArray, List.set_cons_zero, List.set_cons_succ]
                          refine wpAnyH_take (i := 31) (oi := ⟨some 139, _, _, _, _, _⟩) (v := .int .i64 ((Fa.length : Int) + (Fb.length : Int))) rfl (by kernel_rfl) (by kernel_rfl) (by kernel_rfl) (fun _ _ _ h => h) (.inl ⟨by kernel_rfl, fun W hW => by first | (obtain ⟨z0, z1, z2, z3, z4, z5, z6, z7⟩ := hW; go_simp; done) | (obtain ⟨z0, z1, z2, z3, z4, z5, z6, z7⟩ := hW; go_simp; omega) | (obtain ⟨z0, z1, z2, z3, z4, z5, z6, z7⟩ := hW; go_simp; exact IntWalk.i64_in _ (by omega)) | (obtain ⟨z0, z1, z2, z3, z4, z5, z6, z7⟩ := hW; go_simp; exact IntWalk.i64_in _ (by omega)) | (obtain ⟨z0, z1, z2, z3, z4, z5, z6, z7⟩ := hW; go_simp; simp [*]; done)⟩) hS_13 ?_
                          try simp only [Act.put, List.setIfInBounds_toArray, List.set_cons_zero, List.set_cons_succ]
                          refine wpAnyH_take (i := 32) (oi := ⟨some 140, _, _, _, _, _⟩) (v := .bool true) rfl (by kernel_rfl) (by kernel_rfl) (by kernel_rfl) (fun _ _ _ h => h) (.inl ⟨by kernel_rfl, fun W hW => by first | (obtain ⟨z0, z1, z2, z3, z4, z5, z6, z7⟩ := hW; go_simp; done) | (obtain ⟨z0, z1, z2, z3, z4, z5, z6, z7⟩ := hW; go_simp; omega) | (obtain ⟨z0, z1, z2, z3, z4, z5, z6, z7⟩ := hW; go_simp; exact IntWalk.i64_in _ (by omega)) | (obtain ⟨z0, z1, z2, z3, z4, z5, z6, z7⟩ := hW; go_simp; exact IntWalk.i64_in _ (by omega)) | (obtain ⟨z0, z1, z2, z3, z4, z5, z6, z7⟩ := hW; go_simp; simp [*]; done)⟩) hS_13 ?_
                          try simp only [Act.put, List.setIfInBounds_toArray, List.set_cons_zero, List.set_cons_succ]
                          refine wpAnyH_take (i := 33) (oi := ⟨some 141, _, _, _, _, _⟩) (v := .bool true) rfl (by kernel_rfl) (by kernel_rfl) (by kernel_rfl) (fun _ _ _ h => h) (.inl ⟨by kernel_rfl, fun W hW => by kernel_rfl⟩) hS_13 ?_
                          try simp only [Act.put, List.setIfInBounds_toArray, List.set_cons_zero, List.set_cons_succ]
                          refine wpAnyH_take (i := 34) (oi := ⟨some 4, _, _, _, _, _⟩) (v := .bool true) rfl (by kernel_rfl) (by kernel_rfl) (by kernel_rfl) (fun _ _ _ h => h) (.inl ⟨by kernel_rfl, fun W hW => by kernel_rfl⟩) hS_13 ?_
                          try simp only [Act.put, List.setIfInBounds_toArray, List.set_cons_zero, List.set_cons_succ]
                          refine wpAnyH_done (by kernel_rfl) ?_ _
                          go_wp2_with fail
                          go_ret
                          exact ⟨rfl, HB20.out.trans (hb_13.mono HB20.out.size)⟩
                        · rw [if_pos (by kernel_rfl)]
                          go_simp
                          refine (HOA.out _ hb_5 A0 c0 ht0_2_3_4_5).mono ?_
                          rintro e u_14 ⟨A_14, c_14, rfl, hZ_14, hq_14⟩
                          have hb_14 := hb_5.trans (hq_14.mono hb_5.size)
                          have ht0_2_3_4_5_14 := EIn.below _ ht0_2_3_4_5 hq_14 (Nat.le_refl _)
                          have ht1_2_3_4_5_14 := EIn.below _ ht1_2_3_4_5 hq_14 (Nat.le_refl _)
                          clear ht0_2_3_4_5 ht1_2_3_4_5
                          have hrG_2_3_4_5_14 := hrG_2_3_4_5.below hq_14 (Nat.le_refl _)
                          clear hrG_2_3_4_5
                          have hrL_2_3_4_5_14 := hrL_2_3_4_5.below hq_14 (Nat.le_refl _)
                          clear hrL_2_3_4_5
                          have hrB_2_3_4_5_14 := hrB_2_3_4_5.below hq_14 (Nat.le_refl _)
                          clear hrB_2_3_4_5
                          have hR_2_3_4_5_14 := hR_2_3_4_5.below hq_14 (Nat.le_refl _)
                          clear hR_2_3_4_5
                          have hR_4_5_14 := hR_4_5.below hq_14 (Nat.le_refl _)
                          clear hR_4_5
                          have hR_14 := rowI_own hZ_14
                          refine hK.out _ _ (HS20.out _ hb_14) (fun hS_14 => ?_)
                          clear hK K
                          try simp only [Act.put, List.setIfInBounds_toArray, List.set_cons_zero, List.set_cons_succ]
                          refine wpAnyH_ready (rs := [13]) (by kernel_rfl) (by simp) (AllReadyH.cons rfl (fun K hK => ?_) AllReadyH.nil)
                          rw [if_pos (by kernel_rfl)]
                          go_simp
                          have hb_15 : Below V20.heap.size V20 (u_14.alloc (.cells #[] 3)) := hb_14.alloc hb_14.size _
                          have ho_15 : (u_14.alloc (.cells #[] 3)).ownsRow V20.heap.size 3 1 (.slice (some ⟨u_14.heap.size, 0, none⟩) 0 0) 0 (vI []) := World.ownsRow_made u_14 #[] 0 hb_14.size (by simp [maxLen]) (by simp)
                          have hZ_14_15 := hZ_14.alloc (.cells #[] 3)
                          have htA0_15 := EIn.below _ HTA0.out hb_15 (Nat.le_refl _)
                          have htA1_15 := EIn.below _ HTA1.out hb_15 (Nat.le_refl _)
                          have hrAB_15 := HRB.out.below hb_15 (Nat.le_refl _)
                          generalize u_14.alloc (.cells #[] 3) = u_15 at hb_15 ho_15 hZ_14_15 htA0_15 htA1_15 hrAB_15 ⊢
                          generalize u_14.heap.size = g_15 at ho_15 ⊢
                          refine hK.out _ _ (HS20.out _ hb_15) (fun hS_15 => ?_)
                          clear hK K
                          try simp only [Act.put, List.setIfInBounds_toArray, List.set_cons_zero, List.set_cons_succ]
                          refine wpAnyH_ready (rs := [16]) (by kernel_rfl) (by simp) (AllReadyH.cons rfl (fun K hK => ?_) AllReadyH.nil)
                          rw [if_pos (by kernel_rfl)]
                          refine wp_append_row _ _ rfl V20.heap.size ([] : List Int) O g_15 0 rfl ho_15 A_14 c_14 _ rfl hZ_14_15 (by first | omega | (simp; omega)) hb_15.size (fun g_16 c_16 u_16 ho_16 hg_16 => ?_)
                          have hb_16 : Below V20.heap.size V20 u_16 := hb_15.grown hg_16 hb_15.size (fun q hq => (World.ownsRow.lt ho_15 q hq).1)
                          have htA0_16 := EIn.below _ HTA0.out hb_16 (Nat.le_refl _)
                          have htA1_16 := EIn.below _ HTA1.out hb_16 (Nat.le_refl _)
                          have hrAB_16 := HRB.out.below hb_16 (Nat.le_refl _)
                          rw [← HL1.out] at ho_16 ⊢
                          have hro_16 := rowI_own ho_16
                          refine hK.out _ _ (HS20.out _ hb_16) (fun hS_16 => ?_)
                          clear hK K
                          try simp only [Act.put, List.setIfInBounds_toArray]
                          refine wpAnyH_ready (rs := [18]) (by kernel_rfl) (by simp) (AllReadyH.cons rfl (fun K hK => ?_) AllReadyH.nil)
                          rw [if_pos (by kernel_rfl)]
                          go_simp
                          refine (HOB.out _ hb_16 A1 c1 htA1_16).mono ?_
                          rintro e u_17 ⟨A_17, c_17, rfl, hZ_17, hq_17⟩
                          have hb_17 := hb_16.trans (hq_17.mono hb_16.size)
                          have htA0_16_17 := EIn.below _ htA0_16 hq_17 (Nat.le_refl _)
                          have htA1_16_17 := EIn.below _ htA1_16 hq_17 (Nat.le_refl _)
                          clear htA0_16 htA1_16
                          have hrAB_16_17 := hrAB_16.below hq_17 (Nat.le_refl _)
                          clear hrAB_16
                          have hro_16_17 := hro_16.below hq_17 (Nat.le_refl _)
                          clear hro_16
                          have hR_17 := rowI_own hZ_17
                          have ho_16_17 := ownsRow_heap ho_16 (fun q hq => hq_17.block q (World.ownsRow.lt ho_16 q hq).2)
                          refine hK.out _ _ (HS20.out _ hb_17) (fun hS_17 => ?_)
                          clear hK K
                          try simp only [Act.put, List.setIfInBounds_toArray, List.set_cons_zero, List.set_cons_succ]
                          refine wpAnyH_ready (rs := [19]) (by kernel_rfl) (by simp) (AllReadyH.cons rfl (fun K hK => ?_) AllReadyH.nil)
                          rw [if_pos (by kernel_rfl)]
                          refine wp_append_row _ _ rfl V20.heap.size L1 O2 g_16 c_16 rfl ho_16_17 A_17 c_17 _ rfl hZ_17 (by first | omega | (simp; omega)) hb_17.size (fun g_18 c_18 u_18 ho_18 hg_18 => ?_)
                          have hb_18 : Below V20.heap.size V20 u_18 := hb_17.grown hg_18 hb_17.size (fun q hq => (World.ownsRow.lt ho_16_17 q hq).1)
                          have htA0_18 := EIn.below _ HTA0.out hb_18 (Nat.le_refl _)
                          have htA1_18 := EIn.below _ HTA1.out hb_18 (Nat.le_refl _)
                          have hrAB_18 := HRB.out.below hb_18 (Nat.le_refl _)
                          rw [← HL2.out] at ho_18 ⊢
                          have hro_18 := rowI_own ho_18
                          refine hK.out _ _ (HS20.out _ hb_18) (fun hS_18 => ?_)
                          clear hK K
                          try simp only [Act.put, List.setIfInBounds_toArray]
                          refine wpAnyH_ready (rs := [20]) (by kernel_rfl) (by simp) (AllReadyH.cons rfl (fun K hK => ?_) AllReadyH.nil)
                          rw [if_pos (by kernel_rfl)]
                          go_simp
                          refine (HIB.out _ hb_18 AB (some ⟨g_18, 0, none⟩) cB c_18 hrAB_18 hro_18).mono ?_
                          rintro e u_19 ⟨rfl, hq_19⟩
                          have hb_19 := hb_18.trans (hq_19.mono hb_18.size)
                          have htA0_18_19 := EIn.below _ htA0_18 hq_19 (Nat.le_refl _)
                          have htA1_18_19 := EIn.below _ htA1_18 hq_19 (Nat.le_refl _)
                          clear htA0_18 htA1_18
                          have hrAB_18_19 := hrAB_18.below hq_19 (Nat.le_refl _)
                          clear hrAB_18
                          have hro_18_19 := hro_18.below hq_19 (Nat.le_refl _)
                          clear hro_18
                          have ho_18_19 := ownsRow_heap ho_18 (fun q hq => hq_19.block q (World.ownsRow.lt ho_18 q hq).2)
                          refine hK.out _ _ (HS20.out _ hb_19) (fun hS_19 => ?_)
                          clear hK K
                          try simp only [Act.put, List.setIfInBounds_toArray, List.set_cons_zero, List.set_cons_succ]
                          refine wpAnyH_take (i := 21) (oi := ⟨some 129, _, _, _, _, _⟩) (v := .bool true) rfl (by kernel_rfl) (by kernel_rfl) (by kernel_rfl) (fun _ _ _ h => h) (.inl ⟨by kernel_rfl, fun W hW => by kernel_rfl⟩) hS_19 ?_
                          try simp only [Act.put, List.setIfInBounds_toArray, List.set_cons_zero, List.set_cons_succ]
                          refine wpAnyH_take (i := 22) (oi := ⟨some 130, _, _, _, _, _⟩) (v := .bool true) rfl (by kernel_rfl) (by kernel_rfl) (by kernel_rfl) (fun _ _ _ h => h) (.inl ⟨by kernel_rfl, fun W hW => by kernel_rfl⟩) hS_19 ?_
                          try simp only [Act.put, List.setIfInBounds_toArray, List.set_cons_zero, List.set_cons_succ]
                          refine wpAnyH_take (i := 23) (oi := ⟨some 131, _, _, _, _, _⟩) (v := .slice AH mh cH) rfl (by kernel_rfl) (by kernel_rfl) (by kernel_rfl) (fun _ _ _ h => h) (.inl ⟨by kernel_rfl, fun W hW => by kernel_rfl⟩) hS_19 ?_
                          try simp only [Act.put, List.setIfInBounds_toArray, List.set_cons_zero, List.set_cons_succ]
                          refine wpAnyH_take (i := 24) (oi := ⟨some 132, _, _, _, _, _⟩) (v := .int .i64 (mh : Int)) rfl (by kernel_rfl) (by kernel_rfl) (by kernel_rfl) (fun _ _ _ h => h) (.inl ⟨by kernel_rfl, fun W hW => by first | (obtain ⟨z0, z1, z2, z3, z4, z5, z6, z7⟩ := hW; go_simp; done) | (obtain ⟨z0, z1, z2, z3, z4, z5, z6, z7⟩ := hW; go_simp; omega) | (obtain ⟨z0, z1, z2, z3, z4, z5, z6, z7⟩ := hW; go_simp; exact IntWalk.i64_in _ (by omega)) | (obtain ⟨z0, z1, z2, z3, z4, z5, z6, z7⟩ := hW; go_simp; exact IntWalk.i64_in _ (by omega)) | (obtain ⟨z0, z1, z2, z3, z4, z5, z6, z7⟩ := hW; go_simp; simp [*]; done)⟩) hS_19 ?_
                          try simp only [Act.put, List.setIfInBounds_toArray, List.set_cons_zero, List.set_cons_succ]
                          refine wpAnyH_take (i := 25) (oi := ⟨some 133, _, _, _, _, _⟩) (v := .agg #[.int .i64 tk, .int .i64 tn, .string tz, .slice A0 tl.length (capF tl.length c0)]) rfl (by kernel_rfl) (by kernel_rfl) (by kernel_rfl) (fun _ _ _ h => h) (.inl ⟨by kernel_rfl, fun W hW => by first | (obtain ⟨z0, z1, z2, z3, z4, z5, z6, z7⟩ := hW; go_simp; done) | (obtain ⟨z0, z1, z2, z3, z4, z5, z6, z7⟩ := hW; go_simp; omega) | (obtain ⟨z0, z1, z2, z3, z4, z5, z6, z7⟩ := hW; go_simp; exact IntWalk.i64_in _ (by omega)) | (obtain ⟨z0, z1, z2, z3, z4, z5, z6, z7⟩ := hW; go_simp; exact IntWalk.i64_in _ (by omega)) | (obtain ⟨z0, z1, z2, z3, z4, z5, z6, z7⟩ := hW; go_simp; simp [*]; done)⟩) hS_19 ?_
                          try simp only [Act.put, List.setIfInBounds_toArray, List.set_cons_zero, List.set_cons_succ]
                          refine wpAnyH_take (i := 28) (oi := ⟨some 136, _, _, _, _, _⟩) (v := .agg #[.int .i64 sk, .int .i64 sn, .string sz, .slice A1 sl.length (capF sl.length c1)]) rfl (by kernel_rfl) (by kernel_rfl) (by kernel_rfl) (fun _ _ _ h => h) (.inl ⟨by kernel_rfl, fun W hW => by first | (obtain ⟨z0, z1, z2, z3, z4, z5, z6, z7⟩ := hW; go_simp; done) | (obtain ⟨z0, z1, z2, z3, z4, z5, z6, z7⟩ := hW; go_simp; omega) | (obtain ⟨z0, z1, z2, z3, z4, z5, z6, z7⟩ := hW; go_simp; exact IntWalk.i64_in _ (by omega)) | (obtain ⟨z0, z1, z2, z3, z4, z5, z6, z7⟩ := hW; go_simp; exact IntWalk.i64_in _ (by omega)) | (obtain ⟨z0, z1, z2, z3, z4, z5, z6, z7⟩ := hW; go_simp; simp [*]; done)⟩) hS_19 ?_
                          try simp only [Act.put, List.setIfInBounds_toArray, List.set_cons_zero, List.set_cons_succ]
                          refine wpAnyH_ready (rs := [26]) (by kernel_rfl) (by simp) (AllReadyH.cons rfl (fun K hK => ?_) AllReadyH.nil)
                          rw [if_pos (by kernel_rfl)]
                          go_simp
                          refine (HFA.out _ hb_19 A0 c0 htA0_18_19).mono ?_
                          rintro e u_20 ⟨A_20, c_20, rfl, hR_20, hq_20⟩
                          have hb_20 := hb_19.trans (hq_20.mono hb_19.size)
                          have htA0_18_19_20 := EIn.below _ htA0_18_19 hq_20 (Nat.le_refl _)
                          have htA1_18_19_20 := EIn.below _ htA1_18_19 hq_20 (Nat.le_refl _)
                          clear htA0_18_19 htA1_18_19
                          have hrAB_18_19_20 := hrAB_18_19.below hq_20 (Nat.le_refl _)
                          clear hrAB_18_19
                          have hro_18_19_20 := hro_18_19.below hq_20 (Nat.le_refl _)
                          clear hro_18_19
                          have ho_18_19_20 := ownsRow_heap ho_18_19 (fun q hq => hq_20.block q (World.ownsRow.lt ho_18_19 q hq).2)
                          refine hK.out _ _ (HS20.out _ hb_20) (fun hS_20 => ?_)
                          clear hK K
                          try simp only [Act.put, List.setIfInBounds_toArray, List.set_cons_zero, List.set_cons_succ]
                          refine wpAnyH_take (i := 27) (oi := ⟨some 135, _, _, _, _, _⟩) (v := .int .i64 (Fa.length : Int)) rfl (by kernel_rfl) (by kernel_rfl) (by kernel_rfl) (fun _ _ _ h => h) (.inl ⟨by kernel_rfl, fun W hW => by first | (obtain ⟨z0, z1, z2, z3, z4, z5, z6, z7⟩ := hW; go_simp; done) | (obtain ⟨z0, z1, z2, z3, z4, z5, z6, z7⟩ := hW; go_simp; omega) | (obtain ⟨z0, z1, z2, z3, z4, z5, z6, z7⟩ := hW; go_simp; exact IntWalk.i64_in _ (by omega)) | (obtain ⟨z0, z1, z2, z3, z4, z5, z6, z7⟩ := hW; go_simp; exact IntWalk.i64_in _ (by omega)) | (obtain ⟨z0, z1, z2, z3, z4, z5, z6, z7⟩ := hW; go_simp; simp [*]; done)⟩) hS_20 ?_
                          try simp only [Act.put, List.setIfInBounds_toArray, List.set_cons_zero, List.set_cons_succ]
                          refine wpAnyH_ready (rs := [29]) (by kernel_rfl) (by simp) (AllReadyH.cons rfl (fun K hK => ?_) AllReadyH.nil)
                          rw [if_pos (by kernel_rfl)]
                          go_simp
                          refine (HFB.out _ hb_20 A1 c1 htA1_18_19_20).mono ?_
                          rintro e u_21 ⟨A_21, c_21, rfl, hR_21, hq_21⟩
                          have hb_21 := hb_20.trans (hq_21.mono hb_20.size)
                          have htA0_18_19_20_21 := EIn.below _ htA0_18_19_20 hq_21 (Nat.le_refl _)
                          have htA1_18_19_20_21 := EIn.below _ htA1_18_19_20 hq_21 (Nat.le_refl _)
                          clear htA0_18_19_20 htA1_18_19_20
                          have hrAB_18_19_20_21 := hrAB_18_19_20.below hq_21 (Nat.le_refl _)
                          clear hrAB_18_19_20
                          have hro_18_19_20_21 := hro_18_19_20.below hq_21 (Nat.le_refl _)
                          clear hro_18_19_20
                          have hR_20_21 := hR_20.below hq_21 (Nat.le_refl _)
                          clear hR_20
                          have ho_18_19_20_21 := ownsRow_heap ho_18_19_20 (fun q hq => hq_21.block q (World.ownsRow.lt ho_18_19_20 q hq).2)
                          refine hK.out _ _ (HS20.out _ hb_21) (fun hS_21 => ?_)
                          clear hK K
                          try simp only [Act.put, List.setIfInBounds_toArray, List.set_cons_zero, List.set_cons_succ]
                          refine wpAnyH_take (i := 30) (oi := ⟨some 138, _, _, _, _, _⟩) (v := .int .i64 (Fb.length : Int)) rfl (by kernel_rfl) (by kernel_rfl) (by kernel_rfl) (fun _ _ _ h => h) (.inl ⟨by kernel_rfl, fun W hW => by first | (obtain ⟨z0, z1, z2, z3, z4, z5, z6, z7⟩ := hW; go_simp; done) | (obtain ⟨z0, z1, z2, z3, z4, z5, z6, z7⟩ := hW; go_simp; omega) | (obtain ⟨z0, z1, z2, z3, z4, z5, z6, z7⟩ := hW; go_simp; exact IntWalk.i64_in _ (by omega)) | (obtain ⟨z0, z1, z2, z3, z4, z5, z6, z7⟩ := hW; go_simp; exact IntWalk.i64_in _ (by omega)) | (obtain ⟨z0, z1, z2, z3, z4, z5, z6, z7⟩ := hW; go_simp; simp [*]; done)⟩) hS_21 ?_
                          try simp only [Act.put, List.setIfInBounds_toArray, List.set_cons_zero, List.set_cons_succ]
                          refine wpAnyH_take (i := 31) (oi := ⟨some 139, _, _, _, _, _⟩) (v := .int .i64 ((Fa.length : Int) + (Fb.length : Int))) rfl (by kernel_rfl) (by kernel_rfl) (by kernel_rfl) (fun _ _ _ h => h) (.inl ⟨by kernel_rfl, fun W hW => by first | (obtain ⟨z0, z1, z2, z3, z4, z5, z6, z7⟩ := hW; go_simp; done) | (obtain ⟨z0, z1, z2, z3, z4, z5, z6, z7⟩ := hW; go_simp; omega) | (obtain ⟨z0, z1, z2, z3, z4, z5, z6, z7⟩ := hW; go_simp; exact IntWalk.i64_in _ (by omega)) | (obtain ⟨z0, z1, z2, z3, z4, z5, z6, z7⟩ := hW; go_simp; exact IntWalk.i64_in _ (by omega)) | (obtain ⟨z0, z1, z2, z3, z4, z5, z6, z7⟩ := hW; go_simp; simp [*]; done)⟩) hS_21 ?_
                          try simp only [Act.put, List.setIfInBounds_toArray, List.set_cons_zero, List.set_cons_succ]
                          refine wpAnyH_take (i := 32) (oi := ⟨some 140, _, _, _, _, _⟩) (v := .bool true) rfl (by kernel_rfl) (by kernel_rfl) (by kernel_rfl) (fun _ _ _ h => h) (.inl ⟨by kernel_rfl, fun W hW => by first | (obtain ⟨z0, z1, z2, z3, z4, z5, z6, z7⟩ := hW; go_simp; done) | (obtain ⟨z0, z1, z2, z3, z4, z5, z6, z7⟩ := hW; go_simp; omega) | (obtain ⟨z0, z1, z2, z3, z4, z5, z6, z7⟩ := hW; go_simp; exact IntWalk.i64_in _ (by omega)) | (obtain ⟨z0, z1, z2, z3, z4, z5, z6, z7⟩ := hW; go_simp; exact IntWalk.i64_in _ (by omega)) | (obtain ⟨z0, z1, z2, z3, z4, z5, z6, z7⟩ := hW; go_simp; simp [*]; done)⟩) hS_21 ?_
                          try simp only [Act.put, List.setIfInBounds_toArray, List.set_cons_zero, List.set_cons_succ]
                          refine wpAnyH_take (i := 33) (oi := ⟨some 141, _, _, _, _, _⟩) (v := .bool true) rfl (by kernel_rfl) (by kernel_rfl) (by kernel_rfl) (fun _ _ _ h => h) (.inl ⟨by kernel_rfl, fun W hW => by kernel_rfl⟩) hS_21 ?_
                          try simp only [Act.put, List.setIfInBounds_toArray, List.set_cons_zero, List.set_cons_succ]
                          refine wpAnyH_take (i := 34) (oi := ⟨some 4, _, _, _, _, _⟩) (v := .bool true) rfl (by kernel_rfl) (by kernel_rfl) (by kernel_rfl) (fun _ _ _ h => h) (.inl ⟨by kernel_rfl, fun W hW => by kernel_rfl⟩) hS_21 ?_
                          try simp only [Act.put, List.setIfInBounds_toArray, List.set_cons_zero, List.set_cons_succ]
                          refine wpAnyH_done (by kernel_rfl) ?_ _
                          go_wp2_with fail
                          go_ret
                          exact ⟨rfl, HB20.out.trans (hb_21.mono HB20.out.size)⟩
                  · have HFX : Hid (Fa = onL F) := Lib.hid (by rw [HFA0.out, if_neg (by have := HUS.out; omega)]; rfl)
                    have hFl9 : Fa.length = mf := by rw [HFX.out]; simp [onL]; omega
                    have hG : wr.ownsRow V7.heap.size 3 1 (.slice (some ⟨gq, 0, none⟩) Fa.length cq) Fa.length (vI Fa) := by
                      rw [hFl9, HFX.out]
                      exact hrow
                    go_upto_region 13 with fail
                    rw [show mf = Fa.length from by omega]
                    have hrG9 := rowI_own hG
                    obtain ⟨V9, hV9⟩ : ∃ V, V = wr := ⟨_, rfl⟩
                    rw [← hV9] at HX0 HX1 HRL hrG9 ⊢
                    clear hV9
                    obtain ⟨AG, hAG⟩ : ∃ a, a = (some (⟨gq, 0, none⟩ : Addr)) := ⟨_, rfl⟩
                    rw [← hAG] at hrG9 ⊢
                    clear hAG
                    have HRG := Lib.hid hrG9
                    clear hrG9 hG hrow hbr l0 hFl9
                    obtain ⟨d0, d1, d2, d3⟩ := HX0.out.four
                    obtain ⟨e0, e1, e2, e3⟩ := HX1.out.four
                    have HAP : Hid (∀ X, Below V9.heap.size V9 X → ∀ (hA : EIn X Any (.node tk tn tz tl) A0) (hB : EIn X Any (.node sk sn sz sl) A1), Calls Try.prog 12 #[.agg #[.int .i64 tk, .int .i64 tn, .string tz, .slice A0 tl.length (capF tl.length c0)], .agg #[.int .i64 sk, .int .i64 sn, .string sz, .slice A1 sl.length (capF sl.length c1)]] X fun e w' => ∃ A c, e = .returned (.agg #[.int .i64 3, .int .i64 0, .string n0B, .slice A 2 (capF 2 c)]) ∧ EIn w' Any (appE (.node tk tn tz tl) (.node sk sn sz sl)) A ∧ Below X.heap.size X w') := Lib.hid fun X hX hA hB => appq_any (.node tk tn tz tl) (.node sk sn sz sl) A0 A1 c0 c1 X hA hB
                    have HOP := Lib.hid (fun (X : World) (A : Option Addr) (c : Nat) (hA : EIn X Any (appE (.node tk tn tz tl) (.node sk sn sz sl)) A) => show Calls Try.prog 9 #[.agg #[.int .i64 3, .int .i64 0, .string n0B, .slice A 2 (capF 2 c)]] X (GivesI OL X) from by
                      have h := of_any (appE (.node tk tn tz tl) (.node sk sn sz sl)) A c X (by have := depth_app (.node tk tn tz tl) (.node sk sn sz sl); omega) (by have := size_app (.node tk tn tz tl) (.node sk sn sz sl); omega) (tame_app htt hts) hA
                      rw [← HOP0.out] at h
                      exact h)
                    have HHP := Lib.hid (fun (X : World) (A : Option Addr) (c : Nat) (hA : EIn X Any (appE (.node tk tn tz tl) (.node sk sn sz sl)) A) => show Calls Try.prog 11 #[.agg #[.int .i64 3, .int .i64 0, .string n0B, .slice A 2 (capF 2 c)]] X (GivesI Fh X) from by
                      have h := useFree_any (appE (.node tk tn tz tl) (.node sk sn sz sl)) A c X (by have := depth_app (.node tk tn tz tl) (.node sk sn sz sl); omega) (by have := size_app (.node tk tn tz tl) (.node sk sn sz sl); omega) (tame_app htt hts) hA
                      rw [← HFh.out] at h
                      exact h)
                    go_wp2_with fail
                    refine (HAP.out _ (Below.refl _ _) HX0.out.tin HX1.out.tin).mono ?_
                    rintro e u6 ⟨A6, c6, rfl, hT6, hb6⟩
                    clear d0 d1 d2 d3 e0 e1 e2 e3
                    replace HX0 := Lib.hid (HX0.out.step hb6)
                    replace HX1 := Lib.hid (HX1.out.step hb6)
                    have HRL6 := HRL.out.below hb6 (Nat.le_refl _)
                    have HRG6 := HRG.out.below hb6 (Nat.le_refl _)
                    have hT6h := Lib.hid hT6
                    clear hT6
                    go_wp2_with fail
                    refine (HOP.out _ _ _ hT6h.out).mono ?_
                    rintro e u7 ⟨AB, cB, rfl, hrB7, hb7⟩
                    have hrB := rowI_own hrB7
                    replace HX0 := Lib.hid (HX0.out.step hb7)
                    replace HX1 := Lib.hid (HX1.out.step hb7)
                    replace HRL6 := HRL6.below hb7 (Nat.le_refl _)
                    replace HRG6 := HRG6.below hb7 (Nat.le_refl _)
                    clear hrB7 hT6h
                    obtain ⟨d0, d1, d2, d3⟩ := HX0.out.four
                    obtain ⟨e0, e1, e2, e3⟩ := HX1.out.four
                    have hrBh := Lib.hid hrB
                    have HRL6h := Lib.hid HRL6
                    have HRG6h := Lib.hid HRG6
                    clear hrB HRL6 HRG6
                    go_wp2_with fail
                    refine (HAP.out _ (hb6.trans (hb7.mono hb6.size)) HX0.out.tin HX1.out.tin).mono ?_
                    rintro e u8 ⟨A8, c8, rfl, hT8, hb8⟩
                    clear d0 d1 d2 d3 e0 e1 e2 e3
                    replace HX0 := Lib.hid (HX0.out.step hb8)
                    replace HX1 := Lib.hid (HX1.out.step hb8)
                    have hT8h := Lib.hid hT8
                    clear hT8
                    go_wp2_with fail
                    refine (HHP.out _ _ _ hT8h.out).mono ?_
                    rintro e u9 ⟨AH, cH, rfl, hrH9, hb9⟩
                    have HRH := Lib.hid (rowI_own hrH9)
                    replace HX0 := Lib.hid (HX0.out.step hb9)
                    replace HX1 := Lib.hid (HX1.out.step hb9)
                    have HRL9 := Lib.hid ((HRL6h.out.below hb8 (Nat.le_refl _)).below hb9 (Nat.le_refl _))
                    have HRG9 := Lib.hid ((HRG6h.out.below hb8 (Nat.le_refl _)).below hb9 (Nat.le_refl _))
                    have HRB9 := Lib.hid ((hrBh.out.below hb8 (Nat.le_refl _)).below hb9 (Nat.le_refl _))
                    clear hT8h hrH9 hrBh HRL6h HRG6h hb6 hb7 hb8 hb9 HAP HOP HHP HRL HRG
                    obtain ⟨mh, hmh⟩ : ∃ m, m = Fh.length := ⟨_, rfl⟩
                    rw [← hmh]
                    have hmh1 : mh ≤ Fh.length := by omega
                    have hmh2 : Fh.length ≤ mh := by omega
                    clear hmh
                    go_wp2_with fail
                    go_loopw [11] (fun x wr => ∃ i : Nat, i ≤ mh ∧ x = .int .i64 i ∧ Below u9.heap.size u9 wr) (fun x _ => mh - (intOf x).toNat)
                    case atStart => exact ⟨0, Nat.zero_le _, rfl, Below.refl _ _⟩
                    case round =>
                      obtain ⟨i, hi, rfl, hbq⟩ := hrel
                      have hx0 := HX0.out.step hbq
                      have hx1 := HX1.out.step hbq
                      by_cases hlt : i < mh
                      · have hix : i < Fh.length := by omega
                        obtain ⟨gh, oh, rfl, d0⟩ := HRH.out i hix
                        have hgl0 := World.block_lt_of_cell? u9 _ d0
                        replace d0 := (hbq.cell (p := ⟨gh, oh + i, none⟩) hgl0).trans d0
                        have hgl := World.block_lt_of_cell? wr _ d0
                        have HX9 := Lib.hid ((free_app_mem (.node tk tn tz tl) (.node sk sn sz sl) (Fh[i]'hix)).1 (HFh.out ▸ List.getElem_mem hix))
                        rw [← HFa.out, ← HFb.out] at HX9
                        obtain ⟨x, hx⟩ : ∃ x, x = Fh[i]'hix := ⟨_, rfl⟩
                        rw [← hx] at d0 HX9
                        clear hx hgl0
                        obtain ⟨V18, hV18⟩ : ∃ V, V = wr := ⟨_, rfl⟩
                        rw [← hV18] at hx0 hx1 d0 hgl hbq ⊢
                        clear hV18
                        go_upto_region 18 with fail
                        have ht0 := hx0.tin
                        have ht1 := hx1.tin
                        have HB18 := Lib.hid hx0.bw
                        have HS18 : Hid (∀ V', Below V18.heap.size V18 V' → (fun V' : World => (V'.cell? ⟨g0, 0, none⟩ = some (.int .i64 tk) ∧ V'.cell? ⟨g0, 1, none⟩ = some (.int .i64 tn) ∧ V'.cell? ⟨g0, 2, none⟩ = some (.string tz) ∧ V'.cell? ⟨g0, 3, none⟩ = some (.slice A0 tl.length (capF tl.length c0)) ∧ V'.cell? ⟨g1, 0, none⟩ = some (.int .i64 sk) ∧ V'.cell? ⟨g1, 1, none⟩ = some (.int .i64 sn) ∧ V'.cell? ⟨g1, 2, none⟩ = some (.string sz) ∧ V'.cell? ⟨g1, 3, none⟩ = some (.slice A1 sl.length (capF sl.length c1)) ∧ V'.cell? ⟨gh, oh + i, none⟩ = some (.int .i64 x))) V') := Lib.hid fun V' h =>
                          ⟨(h.cell (p := ⟨g0, 0, none⟩) hx0.box.lt).trans (hx0.box.cell 0), (h.cell (p := ⟨g0, 1, none⟩) hx0.box.lt).trans (hx0.box.cell 1), (h.cell (p := ⟨g0, 2, none⟩) hx0.box.lt).trans (hx0.box.cell 2), (h.cell (p := ⟨g0, 3, none⟩) hx0.box.lt).trans (hx0.box.cell 3), (h.cell (p := ⟨g1, 0, none⟩) hx1.box.lt).trans (hx1.box.cell 0), (h.cell (p := ⟨g1, 1, none⟩) hx1.box.lt).trans (hx1.box.cell 1), (h.cell (p := ⟨g1, 2, none⟩) hx1.box.lt).trans (hx1.box.cell 2), (h.cell (p := ⟨g1, 3, none⟩) hx1.box.lt).trans (hx1.box.cell 3), (h.cell (p := ⟨gh, oh + i, none⟩) hgl).trans d0⟩
                        have HFA : Hid (∀ X, Below V18.heap.size V18 X → ∀ (A : Option Addr) (c : Nat) (hA : EIn X Any (.node tk tn tz tl) A), Calls Try.prog 11 #[.agg #[.int .i64 tk, .int .i64 tn, .string tz, .slice A tl.length (capF tl.length c)]] X (fun e w' => ∃ B d, e = .returned (.slice B Fa.length d) ∧ RowI w' B Fa ∧ Below X.heap.size X w')) := Lib.hid fun X hX A c hA => by
                          have h := useFree_any (.node tk tn tz tl) A c X (by omega) (by omega) htt hA
                          rw [← HFa.out] at h
                          exact h.mono fun e w' ⟨B, d, he, hr, hb⟩ => ⟨B, d, he, rowI_own hr, hb⟩
                        have HFB : Hid (∀ X, Below V18.heap.size V18 X → ∀ (A : Option Addr) (c : Nat) (hA : EIn X Any (.node sk sn sz sl) A), Calls Try.prog 11 #[.agg #[.int .i64 sk, .int .i64 sn, .string sz, .slice A sl.length (capF sl.length c)]] X (fun e w' => ∃ B d, e = .returned (.slice B Fb.length d) ∧ RowI w' B Fb ∧ Below X.heap.size X w')) := Lib.hid fun X hX A c hA => by
                          have h := useFree_any (.node sk sn sz sl) A c X (by omega) (by omega) hts hA
                          rw [← HFb.out] at h
                          exact h.mono fun e w' ⟨B, d, he, hr, hb⟩ => ⟨B, d, he, rowI_own hr, hb⟩
                        by_cases hin : x ∈ Fa
                        · have HIA : Hid (∀ X, Below V18.heap.size V18 X → ∀ (A : Option Addr) (c : Nat) (hA : RowI X A Fa), Calls Try.prog 13 #[.slice A Fa.length c, .int .i64 x] X (fun e w' => e = .returned (.bool true) ∧ Below X.heap.size X w')) := Lib.hid fun X hX A c hA => by
                            have h := in_any A c Fa x X hA hFal
                            rw [show decide (x ∈ Fa) = true from decide_eq_true hin] at h
                            exact h
                          clear hx0 hx1 d0
                          have hb_1 : Below V18.heap.size V18 V18 := Below.refl _ _
                          refine wp_region_held_drew (S := (fun V' : World => (V'.cell? ⟨g0, 0, none⟩ = some (.int .i64 tk) ∧ V'.cell? ⟨g0, 1, none⟩ = some (.int .i64 tn) ∧ V'.cell? ⟨g0, 2, none⟩ = some (.string tz) ∧ V'.cell? ⟨g0, 3, none⟩ = some (.slice A0 tl.length (capF tl.length c0)) ∧ V'.cell? ⟨g1, 0, none⟩ = some (.int .i64 sk) ∧ V'.cell? ⟨g1, 1, none⟩ = some (.int .i64 sn) ∧ V'.cell? ⟨g1, 2, none⟩ = some (.string sz) ∧ V'.cell? ⟨g1, 3, none⟩ = some (.slice A1 sl.length (capF sl.length c1)) ∧ V'.cell? ⟨gh, oh + i, none⟩ = some (.int .i64 x)))) rfl (HS18.out _ hb_1.drew) (fun hSs => ?_)
                          change wpAnyH _ _ _ _ _ 18 (Array.replicate 18 false) _ _
                          refine wpAnyH_take (i := 0) (oi := ⟨some 90, _, _, _, _, _⟩) (v := .agg #[.int .i64 tk, .int .i64 tn, .string tz, .slice A0 tl.length (capF tl.length c0)]) rfl (by kernel_rfl) (by kernel_rfl) (by kernel_rfl) (fun _ _ _ h => h) (.inl ⟨by kernel_rfl, fun W hW => by first | (obtain ⟨z0, z1, z2, z3, z4, z5, z6, z7, z8⟩ := hW; go_simp; done) | (obtain ⟨z0, z1, z2, z3, z4, z5, z6, z7, z8⟩ := hW; go_simp; omega) | (obtain ⟨z0, z1, z2, z3, z4, z5, z6, z7, z8⟩ := hW; go_simp; exact IntWalk.i64_in _ (by omega)) | (obtain ⟨z0, z1, z2, z3, z4, z5, z6, z7, z8⟩ := hW; go_simp; exact IntWalk.i64_in _ (by omega)) | (obtain ⟨z0, z1, z2, z3, z4, z5, z6, z7⟩ := hW; go_simp; simp [*]; done)⟩) hSs ?_
                          try simp only [Act.put, List.setIfInBounds_toArray, List.set_cons_zero, List.set_cons_succ]
                          refine wpAnyH_take (i := 2) (oi := ⟨some 92, _, _, _, _, _⟩) (v := .slice (some ⟨gh, oh, none⟩) mh cH) rfl (by kernel_rfl) (by kernel_rfl) (by kernel_rfl) (fun _ _ _ h => h) (.inl ⟨by kernel_rfl, fun W hW => by kernel_rfl⟩) hSs ?_
                          try simp only [Act.put, List.setIfInBounds_toArray, List.set_cons_zero, List.set_cons_succ]
                          refine wpAnyH_take (i := 3) (oi := ⟨some 93, _, _, _, _, _⟩) (v := .int .i64 (i : Int)) rfl (by kernel_rfl) (by kernel_rfl) (by kernel_rfl) (fun _ _ _ h => h) (.inl ⟨by kernel_rfl, fun W hW => by kernel_rfl⟩) hSs ?_
                          try simp only [Act.put, List.setIfInBounds_toArray, List.set_cons_zero, List.set_cons_succ]
                          refine wpAnyH_take (i := 4) (oi := ⟨some 94, _, _, _, _, _⟩) (v := .pointer (some ⟨gh, oh + i, none⟩)) rfl (by kernel_rfl) (by kernel_rfl) (by kernel_rfl) (fun _ _ _ h => h) (.inl ⟨by kernel_rfl, fun W hW => by first | (obtain ⟨z0, z1, z2, z3, z4, z5, z6, z7, z8⟩ := hW; go_simp; done) | (obtain ⟨z0, z1, z2, z3, z4, z5, z6, z7, z8⟩ := hW; go_simp; omega) | (obtain ⟨z0, z1, z2, z3, z4, z5, z6, z7, z8⟩ := hW; go_simp; exact IntWalk.i64_in _ (by omega)) | (obtain ⟨z0, z1, z2, z3, z4, z5, z6, z7, z8⟩ := hW; go_simp; exact IntWalk.i64_in _ (by omega)) | (obtain ⟨z0, z1, z2, z3, z4, z5, z6, z7⟩ := hW; go_simp; simp [*]; done)⟩) hSs ?_
                          try simp only [Act.put, List.setIfInBounds_toArray, List.set_cons_zero, List.set_cons_succ]
                          refine wpAnyH_take (i := 5) (oi := ⟨some 95, _, _, _, _, _⟩) (v := .int .i64 x) rfl (by kernel_rfl) (by kernel_rfl) (by kernel_rfl) (fun _ _ _ h => h) (.inl ⟨by kernel_rfl, fun W hW => by first | (obtain ⟨z0, z1, z2, z3, z4, z5, z6, z7, z8⟩ := hW; go_simp; done) | (obtain ⟨z0, z1, z2, z3, z4, z5, z6, z7, z8⟩ := hW; go_simp; omega) | (obtain ⟨z0, z1, z2, z3, z4, z5, z6, z7, z8⟩ := hW; go_simp; exact IntWalk.i64_in _ (by omega)) | (obtain ⟨z0, z1, z2, z3, z4, z5, z6, z7, z8⟩ := hW; go_simp; exact IntWalk.i64_in _ (by omega)) | (obtain ⟨z0, z1, z2, z3, z4, z5, z6, z7⟩ := hW; go_simp; simp [*]; done)⟩) hSs ?_
                          try simp only [Act.put, List.setIfInBounds_toArray, List.set_cons_zero, List.set_cons_succ]
                          refine wpAnyH_ready (rs := [1]) (by kernel_rfl) (by simp) (AllReadyH.cons rfl (fun K hK => ?_) AllReadyH.nil)
                          go_simp
                          refine (HFA.out _ (hb_1.drew) A0 c0 (EIn.below _ ht0 (Below.refl _ _).drew (Nat.le_refl _))).mono ?_
                          rintro e u_2 ⟨A_2, c_2, rfl, hR_2, hq_2⟩
                          have hb_2 := (hb_1.drew).trans (hq_2.mono (hb_1.drew).size)
                          have ht0_2 := EIn.below _ (EIn.below _ ht0 (Below.refl _ _).drew (Nat.le_refl _)) hq_2 (Nat.le_refl _)
                          have ht1_2 := EIn.below _ (EIn.below _ ht1 (Below.refl _ _).drew (Nat.le_refl _)) hq_2 (Nat.le_refl _)
                          clear ht0 ht1
                          refine hK.out _ _ (HS18.out _ hb_2) (fun hS_2 => ?_)
                          clear hK K
                          try simp only [Act.put, List.setIfInBounds_toArray, List.set_cons_zero, List.set_cons_succ]
                          refine wpAnyH_ready (rs := [6]) (by kernel_rfl) (by simp) (AllReadyH.cons rfl (fun K hK => ?_) AllReadyH.nil)
                          go_simp
                          refine (HIA.out _ hb_2 A_2 c_2 hR_2).mono ?_
                          rintro e u_3 ⟨rfl, hq_3⟩
                          have hb_3 := hb_2.trans (hq_3.mono hb_2.size)
                          have ht0_2_3 := EIn.below _ ht0_2 hq_3 (Nat.le_refl _)
                          have ht1_2_3 := EIn.below _ ht1_2 hq_3 (Nat.le_refl _)
                          clear ht0_2 ht1_2
                          have hR_2_3 := hR_2.below hq_3 (Nat.le_refl _)
                          clear hR_2
                          refine hK.out _ _ (HS18.out _ hb_3) (fun hS_3 => ?_)
                          clear hK K
                          try simp only [Act.put, List.setIfInBounds_toArray, List.set_cons_zero, List.set_cons_succ]
                          refine wpAnyH_take (i := 7) (oi := ⟨some 97, _, _, _, _, _⟩) (v := .bool false) rfl (by kernel_rfl) (by kernel_rfl) (by kernel_rfl) (fun _ _ _ h => h) (.inl ⟨by kernel_rfl, fun W hW => by kernel_rfl⟩) hS_3 ?_
                          try simp only [Act.put, List.setIfInBounds_toArray, List.set_cons_zero, List.set_cons_succ]
                          refine wpAnyH_take (i := 8) (oi := ⟨some 98, _, _, _, _, _⟩) (v := .bool false) rfl (by kernel_rfl) (by kernel_rfl) (by kernel_rfl) (fun _ _ _ h => h) (.inl ⟨by kernel_rfl, fun W hW => by kernel_rfl⟩) hS_3 ?_
                          try simp only [Act.put, List.setIfInBounds_toArray, List.set_cons_zero, List.set_cons_succ]
                          refine wpAnyH_take (i := 9) (oi := ⟨some 99, _, _, _, _, _⟩) (v := undef) rfl (by kernel_rfl) (by kernel_rfl) (by kernel_rfl) (fun _ _ _ h => h) (.inr ⟨by kernel_rfl, rfl⟩) hS_3 ?_
                          try simp only [Act.put, List.setIfInBounds_toArray, List.set_cons_zero, List.set_cons_succ]
                          refine wpAnyH_take (i := 10) (oi := ⟨some 100, _, _, _, _, _⟩) (v := undef) rfl (by kernel_rfl) (by kernel_rfl) (by kernel_rfl) (fun _ _ _ h => h) (.inr ⟨by kernel_rfl, rfl⟩) hS_3 ?_
                          try simp only [Act.put, List.setIfInBounds_toArray, List.set_cons_zero, List.set_cons_succ]
                          refine wpAnyH_take (i := 11) (oi := ⟨some 101, _, _, _, _, _⟩) (v := undef) rfl (by kernel_rfl) (by kernel_rfl) (by kernel_rfl) (fun _ _ _ h => h) (.inr ⟨by kernel_rfl, rfl⟩) hS_3 ?_
                          try simp only [Act.put, List.setIfInBounds_toArray, List.set_cons_zero, List.set_cons_succ]
                          refine wpAnyH_take (i := 12) (oi := ⟨some 102, _, _, _, _, _⟩) (v := undef) rfl (by kernel_rfl) (by kernel_rfl) (by kernel_rfl) (fun _ _ _ h => h) (.inr ⟨by kernel_rfl, rfl⟩) hS_3 ?_
                          try simp only [Act.put, List.setIfInBounds_toArray, List.set_cons_zero, List.set_cons_succ]
                          refine wpAnyH_take (i := 13) (oi := ⟨some 103, _, _, _, _, _⟩) (v := undef) rfl (by kernel_rfl) (by kernel_rfl) (by kernel_rfl) (fun _ _ _ h => h) (.inr ⟨by kernel_rfl, rfl⟩) hS_3 ?_
                          try simp only [Act.put, List.setIfInBounds_toArray, List.set_cons_zero, List.set_cons_succ]
                          refine wpAnyH_take (i := 14) (oi := ⟨some 104, _, _, _, _, _⟩) (v := undef) rfl (by kernel_rfl) (by kernel_rfl) (by kernel_rfl) (fun _ _ _ h => h) (.inr ⟨by kernel_rfl, rfl⟩) hS_3 ?_
                          try simp only [Act.put, List.setIfInBounds_toArray, List.set_cons_zero, List.set_cons_succ]
                          refine wpAnyH_take (i := 15) (oi := ⟨some 105, _, _, _, _, _⟩) (v := undef) rfl (by kernel_rfl) (by kernel_rfl) (by kernel_rfl) (fun _ _ _ h => h) (.inr ⟨by kernel_rfl, rfl⟩) hS_3 ?_
                          try simp only [Act.put, List.setIfInBounds_toArray, List.set_cons_zero, List.set_cons_succ]
                          refine wpAnyH_take (i := 16) (oi := ⟨some 106, _, _, _, _, _⟩) (v := undef) rfl (by kernel_rfl) (by kernel_rfl) (by kernel_rfl) (fun _ _ _ h => h) (.inr ⟨by kernel_rfl, rfl⟩) hS_3 ?_
                          try simp only [Act.put, List.setIfInBounds_toArray, List.set_cons_zero, List.set_cons_succ]
                          refine wpAnyH_take (i := 17) (oi := ⟨some 107, _, _, _, _, _⟩) (v := .bool false) rfl (by kernel_rfl) (by kernel_rfl) (by kernel_rfl) (fun _ _ _ h => h) (.inl ⟨by kernel_rfl, fun W hW => by kernel_rfl⟩) hS_3 ?_
                          try simp only [Act.put, List.setIfInBounds_toArray, List.set_cons_zero, List.set_cons_succ]
                          refine wpAnyH_done (by kernel_rfl) ?_ _
                          have hbx := hb_3
                          go_wp2_with fail
                          go_roundw
                          case rel => exact ⟨i + 1, by omega, by go_num, hbq.trans (hbx.mono hbq.size)⟩
                          case measure => simp [intOf]; omega
                        · have HIA : Hid (∀ X, Below V18.heap.size V18 X → ∀ (A : Option Addr) (c : Nat) (hA : RowI X A Fa), Calls Try.prog 13 #[.slice A Fa.length c, .int .i64 x] X (fun e w' => e = .returned (.bool false) ∧ Below X.heap.size X w')) := Lib.hid fun X hX A c hA => by
                            have h := in_any A c Fa x X hA hFal
                            rw [show decide (x ∈ Fa) = false from decide_eq_false hin] at h
                            exact h
                          have HIB : Hid (∀ X, Below V18.heap.size V18 X → ∀ (A : Option Addr) (c : Nat) (hA : RowI X A Fb), Calls Try.prog 13 #[.slice A Fb.length c, .int .i64 x] X (fun e w' => e = .returned (.bool true) ∧ Below X.heap.size X w')) := Lib.hid fun X hX A c hA => by
                            have h := in_any A c Fb x X hA hFbl
                            rw [show decide (x ∈ Fb) = true from decide_eq_true (HX9.out.resolve_left hin)] at h
                            exact h
                          clear hx0 hx1 d0
                          have hb_1 : Below V18.heap.size V18 V18 := Below.refl _ _
                          refine wp_region_held_drew (S := (fun V' : World => (V'.cell? ⟨g0, 0, none⟩ = some (.int .i64 tk) ∧ V'.cell? ⟨g0, 1, none⟩ = some (.int .i64 tn) ∧ V'.cell? ⟨g0, 2, none⟩ = some (.string tz) ∧ V'.cell? ⟨g0, 3, none⟩ = some (.slice A0 tl.length (capF tl.length c0)) ∧ V'.cell? ⟨g1, 0, none⟩ = some (.int .i64 sk) ∧ V'.cell? ⟨g1, 1, none⟩ = some (.int .i64 sn) ∧ V'.cell? ⟨g1, 2, none⟩ = some (.string sz) ∧ V'.cell? ⟨g1, 3, none⟩ = some (.slice A1 sl.length (capF sl.length c1)) ∧ V'.cell? ⟨gh, oh + i, none⟩ = some (.int .i64 x)))) rfl (HS18.out _ hb_1.drew) (fun hSs => ?_)
                          change wpAnyH _ _ _ _ _ 18 (Array.replicate 18 false) _ _
                          refine wpAnyH_take (i := 0) (oi := ⟨some 90, _, _, _, _, _⟩) (v := .agg #[.int .i64 tk, .int .i64 tn, .string tz, .slice A0 tl.length (capF tl.length c0)]) rfl (by kernel_rfl) (by kernel_rfl) (by kernel_rfl) (fun _ _ _ h => h) (.inl ⟨by kernel_rfl, fun W hW => by first | (obtain ⟨z0, z1, z2, z3, z4, z5, z6, z7, z8⟩ := hW; go_simp; done) | (obtain ⟨z0, z1, z2, z3, z4, z5, z6, z7, z8⟩ := hW; go_simp; omega) | (obtain ⟨z0, z1, z2, z3, z4, z5, z6, z7, z8⟩ := hW; go_simp; exact IntWalk.i64_in _ (by omega)) | (obtain ⟨z0, z1, z2, z3, z4, z5, z6, z7, z8⟩ := hW; go_simp; exact IntWalk.i64_in _ (by omega)) | (obtain ⟨z0, z1, z2, z3, z4, z5, z6, z7⟩ := hW; go_simp; simp [*]; done)⟩) hSs ?_
                          try simp only [Act.put, List.setIfInBounds_toArray, List.set_cons_zero, List.set_cons_succ]
                          refine wpAnyH_take (i := 2) (oi := ⟨some 92, _, _, _, _, _⟩) (v := .slice (some ⟨gh, oh, none⟩) mh cH) rfl (by kernel_rfl) (by kernel_rfl) (by kernel_rfl) (fun _ _ _ h => h) (.inl ⟨by kernel_rfl, fun W hW => by kernel_rfl⟩) hSs ?_
                          try simp only [Act.put, List.setIfInBounds_toArray, List.set_cons_zero, List.set_cons_succ]
                          refine wpAnyH_take (i := 3) (oi := ⟨some 93, _, _, _, _, _⟩) (v := .int .i64 (i : Int)) rfl (by kernel_rfl) (by kernel_rfl) (by kernel_rfl) (fun _ _ _ h => h) (.inl ⟨by kernel_rfl, fun W hW => by kernel_rfl⟩) hSs ?_
                          try simp only [Act.put, List.setIfInBounds_toArray, List.set_cons_zero, List.set_cons_succ]
                          refine wpAnyH_take (i := 4) (oi := ⟨some 94, _, _, _, _, _⟩) (v := .pointer (some ⟨gh, oh + i, none⟩)) rfl (by kernel_rfl) (by kernel_rfl) (by kernel_rfl) (fun _ _ _ h => h) (.inl ⟨by kernel_rfl, fun W hW => by first | (obtain ⟨z0, z1, z2, z3, z4, z5, z6, z7, z8⟩ := hW; go_simp; done) | (obtain ⟨z0, z1, z2, z3, z4, z5, z6, z7, z8⟩ := hW; go_simp; omega) | (obtain ⟨z0, z1, z2, z3, z4, z5, z6, z7, z8⟩ := hW; go_simp; exact IntWalk.i64_in _ (by omega)) | (obtain ⟨z0, z1, z2, z3, z4, z5, z6, z7, z8⟩ := hW; go_simp; exact IntWalk.i64_in _ (by omega)) | (obtain ⟨z0, z1, z2, z3, z4, z5, z6, z7⟩ := hW; go_simp; simp [*]; done)⟩) hSs ?_
                          try simp only [Act.put, List.setIfInBounds_toArray, List.set_cons_zero, List.set_cons_succ]
                          refine wpAnyH_take (i := 5) (oi := ⟨some 95, _, _, _, _, _⟩) (v := .int .i64 x) rfl (by kernel_rfl) (by kernel_rfl) (by kernel_rfl) (fun _ _ _ h => h) (.inl ⟨by kernel_rfl, fun W hW => by first | (obtain ⟨z0, z1, z2, z3, z4, z5, z6, z7, z8⟩ := hW; go_simp; done) | (obtain ⟨z0, z1, z2, z3, z4, z5, z6, z7, z8⟩ := hW; go_simp; omega) | (obtain ⟨z0, z1, z2, z3, z4, z5, z6, z7, z8⟩ := hW; go_simp; exact IntWalk.i64_in _ (by omega)) | (obtain ⟨z0, z1, z2, z3, z4, z5, z6, z7, z8⟩ := hW; go_simp; exact IntWalk.i64_in _ (by omega)) | (obtain ⟨z0, z1, z2, z3, z4, z5, z6, z7⟩ := hW; go_simp; simp [*]; done)⟩) hSs ?_
                          try simp only [Act.put, List.setIfInBounds_toArray, List.set_cons_zero, List.set_cons_succ]
                          refine wpAnyH_ready (rs := [1]) (by kernel_rfl) (by simp) (AllReadyH.cons rfl (fun K hK => ?_) AllReadyH.nil)
                          go_simp
                          refine (HFA.out _ (hb_1.drew) A0 c0 (EIn.below _ ht0 (Below.refl _ _).drew (Nat.le_refl _))).mono ?_
                          rintro e u_2 ⟨A_2, c_2, rfl, hR_2, hq_2⟩
                          have hb_2 := (hb_1.drew).trans (hq_2.mono (hb_1.drew).size)
                          have ht0_2 := EIn.below _ (EIn.below _ ht0 (Below.refl _ _).drew (Nat.le_refl _)) hq_2 (Nat.le_refl _)
                          have ht1_2 := EIn.below _ (EIn.below _ ht1 (Below.refl _ _).drew (Nat.le_refl _)) hq_2 (Nat.le_refl _)
                          clear ht0 ht1
                          refine hK.out _ _ (HS18.out _ hb_2) (fun hS_2 => ?_)
                          clear hK K
                          try simp only [Act.put, List.setIfInBounds_toArray, List.set_cons_zero, List.set_cons_succ]
                          refine wpAnyH_ready (rs := [6]) (by kernel_rfl) (by simp) (AllReadyH.cons rfl (fun K hK => ?_) AllReadyH.nil)
                          go_simp
                          refine (HIA.out _ hb_2 A_2 c_2 hR_2).mono ?_
                          rintro e u_3 ⟨rfl, hq_3⟩
                          have hb_3 := hb_2.trans (hq_3.mono hb_2.size)
                          have ht0_2_3 := EIn.below _ ht0_2 hq_3 (Nat.le_refl _)
                          have ht1_2_3 := EIn.below _ ht1_2 hq_3 (Nat.le_refl _)
                          clear ht0_2 ht1_2
                          have hR_2_3 := hR_2.below hq_3 (Nat.le_refl _)
                          clear hR_2
                          refine hK.out _ _ (HS18.out _ hb_3) (fun hS_3 => ?_)
                          clear hK K
                          try simp only [Act.put, List.setIfInBounds_toArray, List.set_cons_zero, List.set_cons_succ]
                          refine wpAnyH_take (i := 7) (oi := ⟨some 97, _, _, _, _, _⟩) (v := .bool true) rfl (by kernel_rfl) (by kernel_rfl) (by kernel_rfl) (fun _ _ _ h => h) (.inl ⟨by kernel_rfl, fun W hW => by kernel_rfl⟩) hS_3 ?_
                          try simp only [Act.put, List.setIfInBounds_toArray, List.set_cons_zero, List.set_cons_succ]
                          refine wpAnyH_take (i := 8) (oi := ⟨some 98, _, _, _, _, _⟩) (v := .bool true) rfl (by kernel_rfl) (by kernel_rfl) (by kernel_rfl) (fun _ _ _ h => h) (.inl ⟨by kernel_rfl, fun W hW => by kernel_rfl⟩) hS_3 ?_
                          try simp only [Act.put, List.setIfInBounds_toArray, List.set_cons_zero, List.set_cons_succ]
                          refine wpAnyH_take (i := 9) (oi := ⟨some 99, _, _, _, _, _⟩) (v := .agg #[.int .i64 sk, .int .i64 sn, .string sz, .slice A1 sl.length (capF sl.length c1)]) rfl (by kernel_rfl) (by kernel_rfl) (by kernel_rfl) (fun _ _ _ h => h) (.inl ⟨by kernel_rfl, fun W hW => by first | (obtain ⟨z0, z1, z2, z3, z4, z5, z6, z7, z8⟩ := hW; go_simp; done) | (obtain ⟨z0, z1, z2, z3, z4, z5, z6, z7, z8⟩ := hW; go_simp; omega) | (obtain ⟨z0, z1, z2, z3, z4, z5, z6, z7, z8⟩ := hW; go_simp; exact IntWalk.i64_in _ (by omega)) | (obtain ⟨z0, z1, z2, z3, z4, z5, z6, z7, z8⟩ := hW; go_simp; exact IntWalk.i64_in _ (by omega)) | (obtain ⟨z0, z1, z2, z3, z4, z5, z6, z7⟩ := hW; go_simp; simp [*]; done)⟩) hS_3 ?_
                          try simp only [Act.put, List.setIfInBounds_toArray, List.set_cons_zero, List.set_cons_succ]
                          refine wpAnyH_take (i := 11) (oi := ⟨some 101, _, _, _, _, _⟩) (v := .slice (some ⟨gh, oh, none⟩) mh cH) rfl (by kernel_rfl) (by kernel_rfl) (by kernel_rfl) (fun _ _ _ h => h) (.inl ⟨by kernel_rfl, fun W hW => by kernel_rfl⟩) hS_3 ?_
                          try simp only [Act.put, List.setIfInBounds_toArray, List.set_cons_zero, List.set_cons_succ]
                          refine wpAnyH_take (i := 12) (oi := ⟨some 102, _, _, _, _, _⟩) (v := .int .i64 (i : Int)) rfl (by kernel_rfl) (by kernel_rfl) (by kernel_rfl) (fun _ _ _ h => h) (.inl ⟨by kernel_rfl, fun W hW => by kernel_rfl⟩) hS_3 ?_
                          try simp only [Act.put, List.setIfInBounds_toArray, List.set_cons_zero, List.set_cons_succ]
                          refine wpAnyH_take (i := 13) (oi := ⟨some 103, _, _, _, _, _⟩) (v := .pointer (some ⟨gh, oh + i, none⟩)) rfl (by kernel_rfl) (by kernel_rfl) (by kernel_rfl) (fun _ _ _ h => h) (.inl ⟨by kernel_rfl, fun W hW => by first | (obtain ⟨z0, z1, z2, z3, z4, z5, z6, z7, z8⟩ := hW; go_simp; done) | (obtain ⟨z0, z1, z2, z3, z4, z5, z6, z7, z8⟩ := hW; go_simp; omega) | (obtain ⟨z0, z1, z2, z3, z4, z5, z6, z7, z8⟩ := hW; go_simp; exact IntWalk.i64_in _ (by omega)) | (obtain ⟨z0, z1, z2, z3, z4, z5, z6, z7, z8⟩ := hW; go_simp; exact IntWalk.i64_in _ (by omega)) | (obtain ⟨z0, z1, z2, z3, z4, z5, z6, z7⟩ := hW; go_simp; simp [*]; done)⟩) hS_3 ?_
                          try simp only [Act.put, List.setIfInBounds_toArray, List.set_cons_zero, List.set_cons_succ]
                          refine wpAnyH_take (i := 14) (oi := ⟨some 104, _, _, _, _, _⟩) (v := .int .i64 x) rfl (by kernel_rfl) (by kernel_rfl) (by kernel_rfl) (fun _ _ _ h => h) (.inl ⟨by kernel_rfl, fun W hW => by first | (obtain ⟨z0, z1, z2, z3, z4, z5, z6, z7, z8⟩ := hW; go_simp; done) | (obtain ⟨z0, z1, z2, z3, z4, z5, z6, z7, z8⟩ := hW; go_simp; omega) | (obtain ⟨z0, z1, z2, z3, z4, z5, z6, z7, z8⟩ := hW; go_simp; exact IntWalk.i64_in _ (by omega)) | (obtain ⟨z0, z1, z2, z3, z4, z5, z6, z7, z8⟩ := hW; go_simp; exact IntWalk.i64_in _ (by omega)) | (obtain ⟨z0, z1, z2, z3, z4, z5, z6, z7⟩ := hW; go_simp; simp [*]; done)⟩) hS_3 ?_
                          try simp only [Act.put, List.setIfInBounds_toArray, List.set_cons_zero, List.set_cons_succ]
                          refine wpAnyH_ready (rs := [10]) (by kernel_rfl) (by simp) (AllReadyH.cons rfl (fun K hK => ?_) AllReadyH.nil)
                          rw [if_pos (by kernel_rfl)]
                          go_simp
                          refine (HFB.out _ hb_3 A1 c1 ht1_2_3).mono ?_
                          rintro e u_4 ⟨A_4, c_4, rfl, hR_4, hq_4⟩
                          have hb_4 := hb_3.trans (hq_4.mono hb_3.size)
                          have ht0_2_3_4 := EIn.below _ ht0_2_3 hq_4 (Nat.le_refl _)
                          have ht1_2_3_4 := EIn.below _ ht1_2_3 hq_4 (Nat.le_refl _)
                          clear ht0_2_3 ht1_2_3
                          have hR_2_3_4 := hR_2_3.below hq_4 (Nat.le_refl _)
                          clear hR_2_3
                          refine hK.out _ _ (HS18.out _ hb_4) (fun hS_4 => ?_)
                          clear hK K
                          try simp only [Act.put, List.setIfInBounds_toArray, List.set_cons_zero, List.set_cons_succ]
                          refine wpAnyH_ready (rs := [15]) (by kernel_rfl) (by simp) (AllReadyH.cons rfl (fun K hK => ?_) AllReadyH.nil)
                          rw [if_pos (by kernel_rfl)]
                          go_simp
                          refine (HIB.out _ hb_4 A_4 c_4 hR_4).mono ?_
                          rintro e u_5 ⟨rfl, hq_5⟩
                          have hb_5 := hb_4.trans (hq_5.mono hb_4.size)
                          have ht0_2_3_4_5 := EIn.below _ ht0_2_3_4 hq_5 (Nat.le_refl _)
                          have ht1_2_3_4_5 := EIn.below _ ht1_2_3_4 hq_5 (Nat.le_refl _)
                          clear ht0_2_3_4 ht1_2_3_4
                          have hR_2_3_4_5 := hR_2_3_4.below hq_5 (Nat.le_refl _)
                          clear hR_2_3_4
                          have hR_4_5 := hR_4.below hq_5 (Nat.le_refl _)
                          clear hR_4
                          refine hK.out _ _ (HS18.out _ hb_5) (fun hS_5 => ?_)
                          clear hK K
                          try simp only [Act.put, List.setIfInBounds_toArray, List.set_cons_zero, List.set_cons_succ]
                          refine wpAnyH_take (i := 16) (oi := ⟨some 106, _, _, _, _, _⟩) (v := .bool false) rfl (by kernel_rfl) (by kernel_rfl) (by kernel_rfl) (fun _ _ _ h => h) (.inl ⟨by kernel_rfl, fun W hW => by kernel_rfl⟩) hS_5 ?_
                          try simp only [Act.put, List.setIfInBounds_toArray, List.set_cons_zero, List.set_cons_succ]
                          refine wpAnyH_take (i := 17) (oi := ⟨some 107, _, _, _, _, _⟩) (v := .bool false) rfl (by kernel_rfl) (by kernel_rfl) (by kernel_rfl) (fun _ _ _ h => h) (.inl ⟨by kernel_rfl, fun W hW => by kernel_rfl⟩) hS_5 ?_
                          try simp only [Act.put, List.setIfInBounds_toArray, List.set_cons_zero, List.set_cons_succ]
                          refine wpAnyH_done (by kernel_rfl) ?_ _
                          have hbx := hb_5
                          go_wp2_with fail
                          go_roundw
                          case rel => exact ⟨i + 1, by omega, by go_num, hbq.trans (hbx.mono hbq.size)⟩
                          case measure => simp [intOf]; omega
                      · have hi9 : mh = i := by omega
                        subst hi9
                        have hrL0 := HRL9.out.below hbq (Nat.le_refl _)
                        have hrG := HRG9.out.below hbq (Nat.le_refl _)
                        have hrB := HRB9.out.below hbq (Nat.le_refl _)
                        obtain ⟨AT, hAT⟩ : ∃ a, a = (if O.length + 1 + cL = 1 then (some ⟨gl, ol, none⟩ : Option Addr) else some ⟨gl, ol + 1, none⟩) := ⟨_, rfl⟩
                        have hrL : RowI wr AT O := by rw [hAT]; exact rowI_cut hrL0
                        replace hAT := hAT.symm
                        have h1O : (1 : Int) ≤ (O.length : Int) + 1 := by omega
                        clear HRL9 HRG9 HRB9 HRH hbq HX0 HX1 hrL0
                        obtain ⟨V20, hV20⟩ : ∃ V, V = wr := ⟨_, rfl⟩
                        rw [← hV20] at hx0 hx1 hrL hrG hrB ⊢
                        clear hV20
                        go_upto_region 20 with fail
                        have ht0 := hx0.tin
                        have ht1 := hx1.tin
                        have HB20 := Lib.hid hx0.bw
                        have HS20 : Hid (∀ V', Below V20.heap.size V20 V' → (fun V' : World => (V'.cell? ⟨g0, 0, none⟩ = some (.int .i64 tk) ∧ V'.cell? ⟨g0, 1, none⟩ = some (.int .i64 tn) ∧ V'.cell? ⟨g0, 2, none⟩ = some (.string tz) ∧ V'.cell? ⟨g0, 3, none⟩ = some (.slice A0 tl.length (capF tl.length c0)) ∧ V'.cell? ⟨g1, 0, none⟩ = some (.int .i64 sk) ∧ V'.cell? ⟨g1, 1, none⟩ = some (.int .i64 sn) ∧ V'.cell? ⟨g1, 2, none⟩ = some (.string sz) ∧ V'.cell? ⟨g1, 3, none⟩ = some (.slice A1 sl.length (capF sl.length c1)))) V') := Lib.hid fun V' h =>
                          ⟨(h.cell (p := ⟨g0, 0, none⟩) hx0.box.lt).trans (hx0.box.cell 0), (h.cell (p := ⟨g0, 1, none⟩) hx0.box.lt).trans (hx0.box.cell 1), (h.cell (p := ⟨g0, 2, none⟩) hx0.box.lt).trans (hx0.box.cell 2), (h.cell (p := ⟨g0, 3, none⟩) hx0.box.lt).trans (hx0.box.cell 3), (h.cell (p := ⟨g1, 0, none⟩) hx1.box.lt).trans (hx1.box.cell 0), (h.cell (p := ⟨g1, 1, none⟩) hx1.box.lt).trans (hx1.box.cell 1), (h.cell (p := ⟨g1, 2, none⟩) hx1.box.lt).trans (hx1.box.cell 2), (h.cell (p := ⟨g1, 3, none⟩) hx1.box.lt).trans (hx1.box.cell 3)⟩
                        have HFA : Hid (∀ X, Below V20.heap.size V20 X → ∀ (A : Option Addr) (c : Nat) (hA : EIn X Any (.node tk tn tz tl) A), Calls Try.prog 11 #[.agg #[.int .i64 tk, .int .i64 tn, .string tz, .slice A tl.length (capF tl.length c)]] X (fun e w' => ∃ B d, e = .returned (.slice B Fa.length d) ∧ RowI w' B Fa ∧ Below X.heap.size X w')) := Lib.hid fun X hX A c hA => by
                          have h := useFree_any (.node tk tn tz tl) A c X (by omega) (by omega) htt hA
                          rw [← HFa.out] at h
                          exact h.mono fun e w' ⟨B, d, he, hr, hb⟩ => ⟨B, d, he, rowI_own hr, hb⟩
                        have HFB : Hid (∀ X, Below V20.heap.size V20 X → ∀ (A : Option Addr) (c : Nat) (hA : EIn X Any (.node sk sn sz sl) A), Calls Try.prog 11 #[.agg #[.int .i64 sk, .int .i64 sn, .string sz, .slice A sl.length (capF sl.length c)]] X (fun e w' => ∃ B d, e = .returned (.slice B Fb.length d) ∧ RowI w' B Fb ∧ Below X.heap.size X w')) := Lib.hid fun X hX A c hA => by
                          have h := useFree_any (.node sk sn sz sl) A c X (by omega) (by omega) hts hA
                          rw [← HFb.out] at h
                          exact h.mono fun e w' ⟨B, d, he, hr, hb⟩ => ⟨B, d, he, rowI_own hr, hb⟩
                        have HOA : Hid (∀ X, Below V20.heap.size V20 X → ∀ (A : Option Addr) (c : Nat) (hA : EIn X Any (.node tk tn tz tl) A), Calls Try.prog 9 #[.agg #[.int .i64 tk, .int .i64 tn, .string tz, .slice A tl.length (capF tl.length c)]] X (fun e w' => ∃ B d, e = .returned (.slice B O.length d) ∧ w'.ownsRow X.heap.size 3 1 (.slice B O.length d) O.length (vI O) ∧ Below X.heap.size X w')) := Lib.hid fun X hX A c hA => by
                          have h := of_any (.node tk tn tz tl) A c X (by omega) (by omega) htt hA
                          rw [← HOa.out] at h
                          exact h
                        have HOB : Hid (∀ X, Below V20.heap.size V20 X → ∀ (A : Option Addr) (c : Nat) (hA : EIn X Any (.node sk sn sz sl) A), Calls Try.prog 9 #[.agg #[.int .i64 sk, .int .i64 sn, .string sz, .slice A sl.length (capF sl.length c)]] X (fun e w' => ∃ B d, e = .returned (.slice B O2.length d) ∧ w'.ownsRow X.heap.size 3 1 (.slice B O2.length d) O2.length (vI O2) ∧ Below X.heap.size X w')) := Lib.hid fun X hX A c hA => by
                          have h := of_any (.node sk sn sz sl) A c X (by omega) (by omega) hts hA
                          rw [← HOb.out] at h
                          exact h
                        have HIF : Hid (∀ X, Below V20.heap.size V20 X → ∀ (A B : Option Addr) (c d : Nat) (hA : RowI X A Fa) (hB : RowI X B Fa), Calls Try.prog 14 #[.slice A Fa.length c, .slice B Fa.length d] X (fun e w' => e = .returned (.bool true) ∧ Below X.heap.size X w')) := Lib.hid fun X hX A B c d hA hB => by
                          have h := ints_any A B c d Fa Fa X hA hB hFal hFal
                          rw [decide_eq_true (rfl : Fa = Fa)] at h
                          exact h
                        have HIO : Hid (∀ X, Below V20.heap.size V20 X → ∀ (A B : Option Addr) (c d : Nat) (hA : RowI X A O) (hB : RowI X B O), Calls Try.prog 14 #[.slice A O.length c, .slice B O.length d] X (fun e w' => e = .returned (.bool true) ∧ Below X.heap.size X w')) := Lib.hid fun X hX A B c d hA hB => by
                          have h := ints_any A B c d O O X hA hB hOl hOl
                          rw [decide_eq_true (rfl : O = O)] at h
                          exact h
                        have HIB : Hid (∀ X, Below V20.heap.size V20 X → ∀ (A B : Option Addr) (c d : Nat) (hA : RowI X A OL) (hB : RowI X B OL), Calls Try.prog 14 #[.slice A OL.length c, .slice B OL.length d] X (fun e w' => e = .returned (.bool true) ∧ Below X.heap.size X w')) := Lib.hid fun X hX A B c d hA hB => by
                          have h := ints_any A B c d OL OL X hA hB hBl hBl
                          rw [decide_eq_true (rfl : OL = OL)] at h
                          exact h
                        have HTA0 := Lib.hid ht0
                        have HTA1 := Lib.hid ht1
                        have HRB := Lib.hid hrB
                        clear hx0 hx1
                        have hb_1 : Below V20.heap.size V20 V20 := Below.refl _ _
                        refine wp_region_held_drew (S := (fun V' : World => (V'.cell? ⟨g0, 0, none⟩ = some (.int .i64 tk) ∧ V'.cell? ⟨g0, 1, none⟩ = some (.int .i64 tn) ∧ V'.cell? ⟨g0, 2, none⟩ = some (.string tz) ∧ V'.cell? ⟨g0, 3, none⟩ = some (.slice A0 tl.length (capF tl.length c0)) ∧ V'.cell? ⟨g1, 0, none⟩ = some (.int .i64 sk) ∧ V'.cell? ⟨g1, 1, none⟩ = some (.int .i64 sn) ∧ V'.cell? ⟨g1, 2, none⟩ = some (.string sz) ∧ V'.cell? ⟨g1, 3, none⟩ = some (.slice A1 sl.length (capF sl.length c1))))) rfl (HS20.out _ hb_1.drew) (fun hSs => ?_)
                        change wpAnyH _ _ _ _ _ 35 (Array.replicate 35 false) _ _
                        refine wpAnyH_take (i := 0) (oi := ⟨some 108, _, _, _, _, _⟩) (v := .agg #[.int .i64 tk, .int .i64 tn, .string tz, .slice A0 tl.length (capF tl.length c0)]) rfl (by kernel_rfl) (by kernel_rfl) (by kernel_rfl) (fun _ _ _ h => h) (.inl ⟨by kernel_rfl, fun W hW => by first | (obtain ⟨z0, z1, z2, z3, z4, z5, z6, z7⟩ := hW; go_simp; done) | (obtain ⟨z0, z1, z2, z3, z4, z5, z6, z7⟩ := hW; go_simp; omega) | (obtain ⟨z0, z1, z2, z3, z4, z5, z6, z7⟩ := hW; go_simp; exact IntWalk.i64_in _ (by omega)) | (obtain ⟨z0, z1, z2, z3, z4, z5, z6, z7⟩ := hW; go_simp; exact IntWalk.i64_in _ (by omega)) | (obtain ⟨z0, z1, z2, z3, z4, z5, z6, z7⟩ := hW; go_simp; simp [*]; done)⟩) hSs ?_
                        try simp only [Act.put, List.setIfInBounds_toArray, List.set_cons_zero, List.set_cons_succ]
                        refine wpAnyH_take (i := 2) (oi := ⟨some 110, _, _, _, _, _⟩) (v := .slice AG Fa.length cq) rfl (by kernel_rfl) (by kernel_rfl) (by kernel_rfl) (fun _ _ _ h => h) (.inl ⟨by kernel_rfl, fun W hW => by kernel_rfl⟩) hSs ?_
                        try simp only [Act.put, List.setIfInBounds_toArray, List.set_cons_zero, List.set_cons_succ]
                        refine wpAnyH_ready (rs := [1]) (by kernel_rfl) (by simp) (AllReadyH.cons rfl (fun K hK => ?_) AllReadyH.nil)
                        go_simp
                        refine (HFA.out _ (hb_1.drew) A0 c0 (EIn.below _ ht0 (Below.refl _ _).drew (Nat.le_refl _))).mono ?_
                        rintro e u_2 ⟨A_2, c_2, rfl, hR_2, hq_2⟩
                        have hb_2 := (hb_1.drew).trans (hq_2.mono (hb_1.drew).size)
                        have ht0_2 := EIn.below _ (EIn.below _ ht0 (Below.refl _ _).drew (Nat.le_refl _)) hq_2 (Nat.le_refl _)
                        have ht1_2 := EIn.below _ (EIn.below _ ht1 (Below.refl _ _).drew (Nat.le_refl _)) hq_2 (Nat.le_refl _)
                        clear ht0 ht1
                        have hrG_2 := (hrG.below (Below.refl _ _).drew (Nat.le_refl _)).below hq_2 (Nat.le_refl _)
                        clear hrG
                        have hrL_2 := (hrL.below (Below.refl _ _).drew (Nat.le_refl _)).below hq_2 (Nat.le_refl _)
                        clear hrL
                        have hrB_2 := (hrB.below (Below.refl _ _).drew (Nat.le_refl _)).below hq_2 (Nat.le_refl _)
                        clear hrB
                        refine hK.out _ _ (HS20.out _ hb_2) (fun hS_2 => ?_)
                        clear hK K
                        try simp only [Act.put, List.setIfInBounds_toArray, List.set_cons_zero, List.set_cons_succ]
                        refine wpAnyH_ready (rs := [3]) (by kernel_rfl) (by simp) (AllReadyH.cons rfl (fun K hK => ?_) AllReadyH.nil)
                        go_simp
                        refine (HIF.out _ hb_2 A_2 AG c_2 cq hR_2 hrG_2).mono ?_
                        rintro e u_3 ⟨rfl, hq_3⟩
                        have hb_3 := hb_2.trans (hq_3.mono hb_2.size)
                        have ht0_2_3 := EIn.below _ ht0_2 hq_3 (Nat.le_refl _)
                        have ht1_2_3 := EIn.below _ ht1_2 hq_3 (Nat.le_refl _)
                        clear ht0_2 ht1_2
                        have hrG_2_3 := hrG_2.below hq_3 (Nat.le_refl _)
                        clear hrG_2
                        have hrL_2_3 := hrL_2.below hq_3 (Nat.le_refl _)
                        clear hrL_2
                        have hrB_2_3 := hrB_2.below hq_3 (Nat.le_refl _)
                        clear hrB_2
                        have hR_2_3 := hR_2.below hq_3 (Nat.le_refl _)
                        clear hR_2
                        refine hK.out _ _ (HS20.out _ hb_3) (fun hS_3 => ?_)
                        clear hK K
                        try simp only [Act.put, List.setIfInBounds_toArray, List.set_cons_zero, List.set_cons_succ]
                        refine wpAnyH_take (i := 4) (oi := ⟨some 112, _, _, _, _, _⟩) (v := .bool true) rfl (by kernel_rfl) (by kernel_rfl) (by kernel_rfl) (fun _ _ _ h => h) (.inl ⟨by kernel_rfl, fun W hW => by kernel_rfl⟩) hS_3 ?_
                        try simp only [Act.put, List.setIfInBounds_toArray, List.set_cons_zero, List.set_cons_succ]
                        refine wpAnyH_take (i := 5) (oi := ⟨some 113, _, _, _, _, _⟩) (v := .slice (some ⟨gl, ol, none⟩) (O.length + 1) (O.length + 1 + cL)) rfl (by kernel_rfl) (by kernel_rfl) (by kernel_rfl) (fun _ _ _ h => h) (.inl ⟨by kernel_rfl, fun W hW => by kernel_rfl⟩) hS_3 ?_
                        try simp only [Act.put, List.setIfInBounds_toArray, List.set_cons_zero, List.set_cons_succ]
                        refine wpAnyH_take (i := 6) (oi := ⟨some 114, _, _, _, _, _⟩) (v := .slice AT O.length (O.length + cL)) rfl (by kernel_rfl) (by kernel_rfl) (by kernel_rfl) (fun _ _ _ h => h) (.inl ⟨by kernel_rfl, fun W hW => by first | (obtain ⟨z0, z1, z2, z3, z4, z5, z6, z7⟩ := hW; go_simp; done) | (obtain ⟨z0, z1, z2, z3, z4, z5, z6, z7⟩ := hW; go_simp; omega) | (obtain ⟨z0, z1, z2, z3, z4, z5, z6, z7⟩ := hW; go_simp; exact IntWalk.i64_in _ (by omega)) | (obtain ⟨z0, z1, z2, z3, z4, z5, z6, z7⟩ := hW; go_simp; exact IntWalk.i64_in _ (by omega)) | (obtain ⟨z0, z1, z2, z3, z4, z5, z6, z7⟩ := hW; go_simp; simp [*]; done)⟩) hS_3 ?_
                        try simp only [Act.put, List.setIfInBounds_toArray, List.set_cons_zero, List.set_cons_succ]
                        refine wpAnyH_take (i := 7) (oi := ⟨some 115, _, _, _, _, _⟩) (v := .agg #[.int .i64 tk, .int .i64 tn, .string tz, .slice A0 tl.length (capF tl.length c0)]) rfl (by kernel_rfl) (by kernel_rfl) (by kernel_rfl) (fun _ _ _ h => h) (.inl ⟨by kernel_rfl, fun W hW => by first | (obtain ⟨z0, z1, z2, z3, z4, z5, z6, z7⟩ := hW; go_simp; done) | (obtain ⟨z0, z1, z2, z3, z4, z5, z6, z7⟩ := hW; go_simp; omega) | (obtain ⟨z0, z1, z2, z3, z4, z5, z6, z7⟩ := hW; go_simp; exact IntWalk.i64_in _ (by omega)) | (obtain ⟨z0, z1, z2, z3, z4, z5, z6, z7⟩ := hW; go_simp; exact IntWalk.i64_in _ (by omega)) | (obtain ⟨z0, z1, z2, z3, z4, z5, z6, z7⟩ := hW; go_simp; simp [*]; done)⟩) hS_3 ?_
                        try simp only [Act.put, List.setIfInBounds_toArray, List.set_cons_zero, List.set_cons_succ]
                        refine wpAnyH_ready (rs := [8]) (by kernel_rfl) (by simp) (AllReadyH.cons rfl (fun K hK => ?_) AllReadyH.nil)
                        rw [if_pos (by kernel_rfl)]
                        go_simp
                        refine (HOA.out _ hb_3 A0 c0 ht0_2_3).mono ?_
                        rintro e u_4 ⟨A_4, c_4, rfl, hZ_4, hq_4⟩
                        have hb_4 := hb_3.trans (hq_4.mono hb_3.size)
                        have ht0_2_3_4 := EIn.below _ ht0_2_3 hq_4 (Nat.le_refl _)
                        have ht1_2_3_4 := EIn.below _ ht1_2_3 hq_4 (Nat.le_refl _)
                        clear ht0_2_3 ht1_2_3
                        have hrG_2_3_4 := hrG_2_3.below hq_4 (Nat.le_refl _)
                        clear hrG_2_3
                        have hrL_2_3_4 := hrL_2_3.below hq_4 (Nat.le_refl _)
                        clear hrL_2_3
                        have hrB_2_3_4 := hrB_2_3.below hq_4 (Nat.le_refl _)
                        clear hrB_2_3
                        have hR_2_3_4 := hR_2_3.below hq_4 (Nat.le_refl _)
                        clear hR_2_3
                        have hR_4 := rowI_own hZ_4
                        refine hK.out _ _ (HS20.out _ hb_4) (fun hS_4 => ?_)
                        clear hK K
                        try simp only [Act.put, List.setIfInBounds_toArray, List.set_cons_zero, List.set_cons_succ]
                        refine wpAnyH_ready (rs := [9]) (by kernel_rfl) (by simp) (AllReadyH.cons rfl (fun K hK => ?_) AllReadyH.nil)
                        rw [if_pos (by kernel_rfl)]
                        go_simp
                        refine (HIO.out _ hb_4 AT A_4 (O.length + cL) c_4 hrL_2_3_4 hR_4).mono ?_
                        rintro e u_5 ⟨rfl, hq_5⟩
                        have hb_5 := hb_4.trans (hq_5.mono hb_4.size)
                        have ht0_2_3_4_5 := EIn.below _ ht0_2_3_4 hq_5 (Nat.le_refl _)
                        have ht1_2_3_4_5 := EIn.below _ ht1_2_3_4 hq_5 (Nat.le_refl _)
                        clear ht0_2_3_4 ht1_2_3_4
                        have hrG_2_3_4_5 := hrG_2_3_4.below hq_5 (Nat.le_refl _)
                        clear hrG_2_3_4
                        have hrL_2_3_4_5 := hrL_2_3_4.below hq_5 (Nat.le_refl _)
                        clear hrL_2_3_4
                        have hrB_2_3_4_5 := hrB_2_3_4.below hq_5 (Nat.le_refl _)
                        clear hrB_2_3_4
                        have hR_2_3_4_5 := hR_2_3_4.below hq_5 (Nat.le_refl _)
                        clear hR_2_3_4
                        have hR_4_5 := hR_4.below hq_5 (Nat.le_refl _)
                        clear hR_4
                        refine hK.out _ _ (HS20.out _ hb_5) (fun hS_5 => ?_)
                        clear hK K
                        try simp only [Act.put, List.setIfInBounds_toArray, List.set_cons_zero, List.set_cons_succ]
                        refine wpAnyH_take (i := 10) (oi := ⟨some 118, _, _, _, _, _⟩) (v := .bool true) rfl (by kernel_rfl) (by kernel_rfl) (by kernel_rfl) (fun _ _ _ h => h) (.inl ⟨by kernel_rfl, fun W hW => by kernel_rfl⟩) hS_5 ?_
                        try simp only [Act.put, List.setIfInBounds_toArray, List.set_cons_zero, List.set_cons_succ]
                        refine wpAnyH_take (i := 11) (oi := ⟨some 119, _, _, _, _, _⟩) (v := .bool true) rfl (by kernel_rfl) (by kernel_rfl) (by kernel_rfl) (fun _ _ _ h => h) (.inl ⟨by kernel_rfl, fun W hW => by kernel_rfl⟩) hS_5 ?_
                        try simp only [Act.put, List.setIfInBounds_toArray, List.set_cons_zero, List.set_cons_succ]
                        refine wpAnyH_take (i := 12) (oi := ⟨some 120, _, _, _, _, _⟩) (v := .slice AB OL.length cB) rfl (by kernel_rfl) (by kernel_rfl) (by kernel_rfl) (fun _ _ _ h => h) (.inl ⟨by kernel_rfl, fun W hW => by kernel_rfl⟩) hS_5 ?_
                        try simp only [Act.put, List.setIfInBounds_toArray, List.set_cons_zero, List.set_cons_succ]
                        refine wpAnyH_take (i := 14) (oi := ⟨some 122, _, _, _, _, _⟩) (v := .agg #[.int .i64 tk, .int .i64 tn, .string tz, .slice A0 tl.length (capF tl.length c0)]) rfl (by kernel_rfl) (by kernel_rfl) (by kernel_rfl) (fun _ _ _ h => h) (.inl ⟨by kernel_rfl, fun W hW => by first | (obtain ⟨z0, z1, z2, z3, z4, z5, z6, z7⟩ := hW; go_simp; done) | (obtain ⟨z0, z1, z2, z3, z4, z5, z6, z7⟩ := hW; go_simp; omega) | (obtain ⟨z0, z1, z2, z3, z4, z5, z6, z7⟩ := hW; go_simp; exact IntWalk.i64_in _ (by omega)) | (obtain ⟨z0, z1, z2, z3, z4, z5, z6, z7⟩ := hW; go_simp; exact IntWalk.i64_in _ (by omega)) | (obtain ⟨z0, z1, z2, z3, z4, z5, z6, z7⟩ := hW; go_simp; simp [*]; done)⟩) hS_5 ?_
                        try simp only [Act.put, List.setIfInBounds_toArray, List.set_cons_zero, List.set_cons_succ]
                        refine wpAnyH_take (i := 17) (oi := ⟨some 125, _, _, _, _, _⟩) (v := .agg #[.int .i64 sk, .int .i64 sn, .string sz, .slice A1 sl.length (capF sl.length c1)]) rfl (by kernel_rfl) (by kernel_rfl) (by kernel_rfl) (fun _ _ _ h => h) (.inl ⟨by kernel_rfl, fun W hW => by first | (obtain ⟨z0, z1, z2, z3, z4, z5, z6, z7⟩ := hW; go_simp; done) | (obtain ⟨z0, z1, z2, z3, z4, z5, z6, z7⟩ := hW; go_simp; omega) | (obtain ⟨z0, z1, z2, z3, z4, z5, z6, z7⟩ := hW; go_simp; exact IntWalk.i64_in _ (by omega)) | (obtain ⟨z0, z1, z2, z3, z4, z5, z6, z7⟩ := hW; go_simp; exact IntWalk.i64_in _ (by omega)) | (obtain ⟨z0, z1, z2, z3, z4, z5, z6, z7⟩ := hW; go_simp; simp [*]; done)⟩) hS_5 ?_
                        try simp only [Act.put, List.setIfInBounds_toArray, List.set_cons_zero, List.set_cons_succ]
                        refine wpAnyH_ready (rs := [13, 15]) (by kernel_rfl) (by simp) (AllReadyH.cons rfl (fun K hK => ?_) (AllReadyH.cons rfl (fun K hK => ?_) AllReadyH.nil))
                        · rw [if_pos (by kernel_rfl)]
                          go_simp
                          have hb_6 : Below V20.heap.size V20 (u_5.alloc (.cells #[] 3)) := hb_5.alloc hb_5.size _
                          have ho_6 : (u_5.alloc (.cells #[] 3)).ownsRow V20.heap.size 3 1 (.slice (some ⟨u_5.heap.size, 0, none⟩) 0 0) 0 (vI []) := World.ownsRow_made u_5 #[] 0 hb_5.size (by simp [maxLen]) (by simp)
                          have htA0_6 := EIn.below _ HTA0.out hb_6 (Nat.le_refl _)
                          have htA1_6 := EIn.below _ HTA1.out hb_6 (Nat.le_refl _)
                          have hrAB_6 := HRB.out.below hb_6 (Nat.le_refl _)
                          generalize u_5.alloc (.cells #[] 3) = u_6 at hb_6 ho_6 htA0_6 htA1_6 hrAB_6 ⊢
                          generalize u_5.heap.size = g_6 at ho_6 ⊢
                          refine hK.out _ _ (HS20.out _ hb_6) (fun hS_6 => ?_)
                          clear hK K
                          try simp only [Act.put, List.setIfInBounds_toArray, List.set_cons_zero, List.set_cons_succ]
                          refine wpAnyH_ready (rs := [15]) (by kernel_rfl) (by simp) (AllReadyH.cons rfl (fun K hK => ?_) AllReadyH.nil)
                          rw [if_pos (by kernel_rfl)]
                          go_simp
                          refine (HOA.out _ hb_6 A0 c0 htA0_6).mono ?_
                          rintro e u_7 ⟨A_7, c_7, rfl, hZ_7, hq_7⟩
                          have hb_7 := hb_6.trans (hq_7.mono hb_6.size)
                          have htA0_6_7 := EIn.below _ htA0_6 hq_7 (Nat.le_refl _)
                          have htA1_6_7 := EIn.below _ htA1_6 hq_7 (Nat.le_refl _)
                          clear htA0_6 htA1_6
                          have hrAB_6_7 := hrAB_6.below hq_7 (Nat.le_refl _)
                          clear hrAB_6
                          have hR_7 := rowI_own hZ_7
                          have ho_6_7 := ownsRow_heap ho_6 (fun q hq => hq_7.block q (World.ownsRow.lt ho_6 q hq).2)
                          refine hK.out _ _ (HS20.out _ hb_7) (fun hS_7 => ?_)
                          clear hK K
                          try simp only [Act.put, List.setIfInBounds_toArray, List.set_cons_zero, List.set_cons_succ]
                          refine wpAnyH_ready (rs := [16]) (by kernel_rfl) (by simp) (AllReadyH.cons rfl (fun K hK => ?_) AllReadyH.nil)
                          rw [if_pos (by kernel_rfl)]
                          refine wp_append_row _ _ rfl V20.heap.size ([] : List Int) O g_6 0 rfl ho_6_7 A_7 c_7 _ rfl hZ_7 (by first | omega | (simp; omega)) hb_7.size (fun g_8 c_8 u_8 ho_8 hg_8 => ?_)
                          have hb_8 : Below V20.heap.size V20 u_8 := hb_7.grown hg_8 hb_7.size (fun q hq => (World.ownsRow.lt ho_6_7 q hq).1)
                          have htA0_8 := EIn.below _ HTA0.out hb_8 (Nat.le_refl _)
                          have htA1_8 := EIn.below _ HTA1.out hb_8 (Nat.le_refl _)
                          have hrAB_8 := HRB.out.below hb_8 (Nat.le_refl _)
                          rw [← HL1.out] at ho_8 ⊢
                          have hro_8 := rowI_own ho_8
                          refine hK.out _ _ (HS20.out _ hb_8) (fun hS_8 => ?_)
                          clear hK K
                          try simp only [Act.put, List.setIfInBounds_toArray]
                          refine wpAnyH_ready (rs := [18]) (by kernel_rfl) (by simp) (AllReadyH.cons rfl (fun K hK => ?_) AllReadyH.nil)
                          rw [if_pos (by kernel_rfl)]
                          go_simp
                          refine (HOB.out _ hb_8 A1 c1 htA1_8).mono ?_
                          rintro e u_9 ⟨A_9, c_9, rfl, hZ_9, hq_9⟩
                          have hb_9 := hb_8.trans (hq_9.mono hb_8.size)
                          have htA0_8_9 := EIn.below _ htA0_8 hq_9 (Nat.le_refl _)
                          have htA1_8_9 := EIn.below _ htA1_8 hq_9 (Nat.le_refl _)
                          clear htA0_8 htA1_8
                          have hrAB_8_9 := hrAB_8.below hq_9 (Nat.le_refl _)
                          clear hrAB_8
                          have hro_8_9 := hro_8.below hq_9 (Nat.le_refl _)
                          clear hro_8
                          have hR_9 := rowI_own hZ_9
                          have ho_8_9 := ownsRow_heap ho_8 (fun q hq => hq_9.block q (World.ownsRow.lt ho_8 q hq).2)
                          refine hK.out _ _ (HS20.out _ hb_9) (fun hS_9 => ?_)
                          clear hK K
                          try simp only [Act.put, List.setIfInBounds_toArray, List.set_cons_zero, List.set_cons_succ]
                          refine wpAnyH_ready (rs := [19]) (by kernel_rfl) (by simp) (AllReadyH.cons rfl (fun K hK => ?_) AllReadyH.nil)
                          rw [if_pos (by kernel_rfl)]
                          refine wp_append_row _ _ rfl V20.heap.size L1 O2 g_8 c_8 rfl ho_8_9 A_9 c_9 _ rfl hZ_9 (by first | omega | (simp; omega)) hb_9.size (fun g_10 c_10 u_10 ho_10 hg_10 => ?_)
                          have hb_10 : Below V20.heap.size V20 u_10 := hb_9.grown hg_10 hb_9.size (fun q hq => (World.ownsRow.lt ho_8_9 q hq).1)
                          have htA0_10 := EIn.below _ HTA0.out hb_10 (Nat.le_refl _)
                          have htA1_10 := EIn.below _ HTA1.out hb_10 (Nat.le_refl _)
                          have hrAB_10 := HRB.out.below hb_10 (Nat.le_refl _)
                          rw [← HL2.out] at ho_10 ⊢
                          have hro_10 := rowI_own ho_10
                          refine hK.out _ _ (HS20.out _ hb_10) (fun hS_10 => ?_)
                          clear hK K
                          try simp only [Act.put, List.setIfInBounds_toArray]
                          refine wpAnyH_ready (rs := [20]) (by kernel_rfl) (by simp) (AllReadyH.cons rfl (fun K hK => ?_) AllReadyH.nil)
                          rw [if_pos (by kernel_rfl)]
                          go_simp
                          refine (HIB.out _ hb_10 AB (some ⟨g_10, 0, none⟩) cB c_10 hrAB_10 hro_10).mono ?_
                          rintro e u_11 ⟨rfl, hq_11⟩
                          have hb_11 := hb_10.trans (hq_11.mono hb_10.size)
                          have htA0_10_11 := EIn.below _ htA0_10 hq_11 (Nat.le_refl _)
                          have htA1_10_11 := EIn.below _ htA1_10 hq_11 (Nat.le_refl _)
                          clear htA0_10 htA1_10
                          have hrAB_10_11 := hrAB_10.below hq_11 (Nat.le_refl _)
                          clear hrAB_10
                          have hro_10_11 := hro_10.below hq_11 (Nat.le_refl _)
                          clear hro_10
                          have ho_10_11 := ownsRow_heap ho_10 (fun q hq => hq_11.block q (World.ownsRow.lt ho_10 q hq).2)
                          refine hK.out _ _ (HS20.out _ hb_11) (fun hS_11 => ?_)
                          clear hK K
                          try simp only [Act.put, List.setIfInBounds_toArray, List.set_cons_zero, List.set_cons_succ]
                          refine wpAnyH_take (i := 21) (oi := ⟨some 129, _, _, _, _, _⟩) (v := .bool true) rfl (by kernel_rfl) (by kernel_rfl) (by kernel_rfl) (fun _ _ _ h => h) (.inl ⟨by kernel_rfl, fun W hW => by kernel_rfl⟩) hS_11 ?_
                          try simp only [Act.put, List.setIfInBounds_toArray, List.set_cons_zero, List.set_cons_succ]
                          refine wpAnyH_take (i := 22) (oi := ⟨some 130, _, _, _, _, _⟩) (v := .bool true) rfl (by kernel_rfl) (by kernel_rfl) (by kernel_rfl) (fun _ _ _ h => h) (.inl ⟨by kernel_rfl, fun W hW => by kernel_rfl⟩) hS_11 ?_
                          try simp only [Act.put, List.setIfInBounds_toArray, List.set_cons_zero, List.set_cons_succ]
                          refine wpAnyH_take (i := 23) (oi := ⟨some 131, _, _, _, _, _⟩) (v := .slice AH mh cH) rfl (by kernel_rfl) (by kernel_rfl) (by kernel_rfl) (fun _ _ _ h => h) (.inl ⟨by kernel_rfl, fun W hW => by kernel_rfl⟩) hS_11 ?_
                          try simp only [Act.put, List.setIfInBounds_toArray, List.set_cons_zero, List.set_cons_succ]
                          refine wpAnyH_take (i := 24) (oi := ⟨some 132, _, _, _, _, _⟩) (v := .int .i64 (mh : Int)) rfl (by kernel_rfl) (by kernel_rfl) (by kernel_rfl) (fun _ _ _ h => h) (.inl ⟨by kernel_rfl, fun W hW => by first | (obtain ⟨z0, z1, z2, z3, z4, z5, z6, z7⟩ := hW; go_simp; done) | (obtain ⟨z0, z1, z2, z3, z4, z5, z6, z7⟩ := hW; go_simp; omega) | (obtain ⟨z0, z1, z2, z3, z4, z5, z6, z7⟩ := hW; go_simp; exact IntWalk.i64_in _ (by omega)) | (obtain ⟨z0, z1, z2, z3, z4, z5, z6, z7⟩ := hW; go_simp; exact IntWalk.i64_in _ (by omega)) | (obtain ⟨z0, z1, z2, z3, z4, z5, z6, z7⟩ := hW; go_simp; simp [*]; done)⟩) hS_11 ?_
                          try simp only [Act.put, List.setIfInBounds_toArray, List.set_cons_zero, List.set_cons_succ]
                          refine wpAnyH_take (i := 25) (oi := ⟨some 133, _, _, _, _, _⟩) (v := .agg #[.int .i64 tk, .int .i64 tn, .string tz, .slice A0 tl.length (capF tl.length c0)]) rfl (by kernel_rfl) (by kernel_rfl) (by kernel_rfl) (fun _ _ _ h => h) (.inl ⟨by kernel_rfl, fun W hW => by first | (obtain ⟨z0, z1, z2, z3, z4, z5, z6, z7⟩ := hW; go_simp; done) | (obtain ⟨z0, z1, z2, z3, z4, z5, z6, z7⟩ := hW; go_simp; omega) | (obtain ⟨z0, z1, z2, z3, z4, z5, z6, z7⟩ := hW; go_simp; exact IntWalk.i64_in _ (by omega)) | (obtain ⟨z0, z1, z2, z3, z4, z5, z6, z7⟩ := hW; go_simp; exact IntWalk.i64_in _ (by omega)) | (obtain ⟨z0, z1, z2, z3, z4, z5, z6, z7⟩ := hW; go_simp; simp [*]; done)⟩) hS_11 ?_
                          try simp only [Act.put, List.setIfInBounds_toArray, List.set_cons_zero, List.set_cons_succ]
                          refine wpAnyH_take (i := 28) (oi := ⟨some 136, _, _, _, _, _⟩) (v := .agg #[.int .i64 sk, .int .i64 sn, .string sz, .slice A1 sl.length (capF sl.length c1)]) rfl (by kernel_rfl) (by kernel_rfl) (by kernel_rfl) (fun _ _ _ h => h) (.inl ⟨by kernel_rfl, fun W hW => by first | (obtain ⟨z0, z1, z2, z3, z4, z5, z6, z7⟩ := hW; go_simp; done) | (obtain ⟨z0, z1, z2, z3, z4, z5, z6, z7⟩ := hW; go_simp; omega) | (obtain ⟨z0, z1, z2, z3, z4, z5, z6, z7⟩ := hW; go_simp; exact IntWalk.i64_in _ (by omega)) | (obtain ⟨z0, z1, z2, z3, z4, z5, z6, z7⟩ := hW; go_simp; exact IntWalk.i64_in _ (by omega)) | (obtain ⟨z0, z1, z2, z3, z4, z5, z6, z7⟩ := hW; go_simp; simp [*]; done)⟩) hS_11 ?_
                          try simp only [Act.put, List.setIfInBounds_toArray, List.set_cons_zero, List.set_cons_succ]
                          refine wpAnyH_ready (rs := [26]) (by kernel_rfl) (by simp) (AllReadyH.cons rfl (fun K hK => ?_) AllReadyH.nil)
                          rw [if_pos (by kernel_rfl)]
                          go_simp
                          refine (HFA.out _ hb_11 A0 c0 htA0_10_11).mono ?_
                          rintro e u_12 ⟨A_12, c_12, rfl, hR_12, hq_12⟩
                          have hb_12 := hb_11.trans (hq_12.mono hb_11.size)
                          have htA0_10_11_12 := EIn.below _ htA0_10_11 hq_12 (Nat.le_refl _)
                          have htA1_10_11_12 := EIn.below _ htA1_10_11 hq_12 (Nat.le_refl _)
                          clear htA0_10_11 htA1_10_11
                          have hrAB_10_11_12 := hrAB_10_11.below hq_12 (Nat.le_refl _)
                          clear hrAB_10_11
                          have hro_10_11_12 := hro_10_11.below hq_12 (Nat.le_refl _)
                          clear hro_10_11
                          have ho_10_11_12 := ownsRow_heap ho_10_11 (fun q hq => hq_12.block q (World.ownsRow.lt ho_10_11 q hq).2)
                          refine hK.out _ _ (HS20.out _ hb_12) (fun hS_12 => ?_)
                          clear hK K
                          try simp only [Act.put, List.setIfInBounds_toArray, List.set_cons_zero, List.set_cons_succ]
                          refine wpAnyH_take (i := 27) (oi := ⟨some 135, _, _, _, _, _⟩) (v := .int .i64 (Fa.length : Int)) rfl (by kernel_rfl) (by kernel_rfl) (by kernel_rfl) (fun _ _ _ h => h) (.inl ⟨by kernel_rfl, fun W hW => by first | (obtain ⟨z0, z1, z2, z3, z4, z5, z6, z7⟩ := hW; go_simp; done) | (obtain ⟨z0, z1, z2, z3, z4, z5, z6, z7⟩ := hW; go_simp; omega) | (obtain ⟨z0, z1, z2, z3, z4, z5, z6, z7⟩ := hW; go_simp; exact IntWalk.i64_in _ (by omega)) | (obtain ⟨z0, z1, z2, z3, z4, z5, z6, z7⟩ := hW; go_simp; exact IntWalk.i64_in _ (by omega)) | (obtain ⟨z0, z1, z2, z3, z4, z5, z6, z7⟩ := hW; go_simp; simp [*]; done)⟩) hS_12 ?_
                          try simp only [Act.put, List.setIfInBounds_toArray, List.set_cons_zero, List.set_cons_succ]
                          refine wpAnyH_ready (rs := [29]) (by kernel_rfl) (by simp) (AllReadyH.cons rfl (fun K hK => ?_) AllReadyH.nil)
                          rw [if_pos (by kernel_rfl)]
                          go_simp
                          refine (HFB.out _ hb_12 A1 c1 htA1_10_11_12).mono ?_
                          rintro e u_13 ⟨A_13, c_13, rfl, hR_13, hq_13⟩
                          have hb_13 := hb_12.trans (hq_13.mono hb_12.size)
                          have htA0_10_11_12_13 := EIn.below _ htA0_10_11_12 hq_13 (Nat.le_refl _)
                          have htA1_10_11_12_13 := EIn.below _ htA1_10_11_12 hq_13 (Nat.le_refl _)
                          clear htA0_10_11_12 htA1_10_11_12
                          have hrAB_10_11_12_13 := hrAB_10_11_12.below hq_13 (Nat.le_refl _)
                          clear hrAB_10_11_12
                          have hro_10_11_12_13 := hro_10_11_12.below hq_13 (Nat.le_refl _)
                          clear hro_10_11_12
                          have hR_12_13 := hR_12.below hq_13 (Nat.le_refl _)
                          clear hR_12
                          have ho_10_11_12_13 := ownsRow_heap ho_10_11_12 (fun q hq => hq_13.block q (World.ownsRow.lt ho_10_11_12 q hq).2)
                          refine hK.out _ _ (HS20.out _ hb_13) (fun hS_13 => ?_)
                          clear hK K
                          try simp only [Act.put, List.setIfInBounds_toArray, List.set_cons_zero, List.set_cons_succ]
                          refine wpAnyH_take (i := 30) (oi := ⟨some 138, _, _, _, _, _⟩) (v := .int .i64 (Fb.length : Int)) rfl (by kernel_rfl) (by kernel_rfl) (by kernel_rfl) (fun _ _ _ h => h) (.inl ⟨by kernel_rfl, fun W hW => by first | (obtain ⟨z0, z1, z2, z3, z4, z5, z6, z7⟩ := hW; go_simp; done) | (obtain ⟨z0, z1, z2, z3, z4, z5, z6, z7⟩ := hW; go_simp; omega) | (obtain ⟨z0, z1, z2, z3, z4, z5, z6, z7⟩ := hW; go_simp; exact IntWalk.i64_in _ (by omega)) | (obtain ⟨z0, z1, z2, z3, z4, z5, z6, z7⟩ := hW; go_simp; exact IntWalk.i64_in _ (by omega)) | (obtain ⟨z0, z1, z2, z3, z4, z5, z6, z7⟩ := hW; go_simp; simp [*]; done)⟩) hS_13 ?_
                          try simp only [Act.put, List.setIfInBounds_toArray, List.set_cons_zero, List.set_cons_succ]
                          refine wpAnyH_take (i := 31) (oi := ⟨some 139, _, _, _, _, _⟩) (v := .int .i64 ((Fa.length : Int) + (Fb.length : Int))) rfl (by kernel_rfl) (by kernel_rfl) (by kernel_rfl) (fun _ _ _ h => h) (.inl ⟨by kernel_rfl, fun W hW => by first | (obtain ⟨z0, z1, z2, z3, z4, z5, z6, z7⟩ := hW; go_simp; done) | (obtain ⟨z0, z1, z2, z3, z4, z5, z6, z7⟩ := hW; go_simp; omega) | (obtain ⟨z0, z1, z2, z3, z4, z5, z6, z7⟩ := hW; go_simp; exact IntWalk.i64_in _ (by omega)) | (obtain ⟨z0, z1, z2, z3, z4, z5, z6, z7⟩ := hW; go_simp; exact IntWalk.i64_in _ (by omega)) | (obtain ⟨z0, z1, z2, z3, z4, z5, z6, z7⟩ := hW; go_simp; simp [*]; done)⟩) hS_13 ?_
                          try simp only [Act.put, List.setIfInBounds_toArray, List.set_cons_zero, List.set_cons_succ]
                          refine wpAnyH_take (i := 32) (oi := ⟨some 140, _, _, _, _, _⟩) (v := .bool true) rfl (by kernel_rfl) (by kernel_rfl) (by kernel_rfl) (fun _ _ _ h => h) (.inl ⟨by kernel_rfl, fun W hW => by first | (obtain ⟨z0, z1, z2, z3, z4, z5, z6, z7⟩ := hW; go_simp; done) | (obtain ⟨z0, z1, z2, z3, z4, z5, z6, z7⟩ := hW; go_simp; omega) | (obtain ⟨z0, z1, z2, z3, z4, z5, z6, z7⟩ := hW; go_simp; exact IntWalk.i64_in _ (by omega)) | (obtain ⟨z0, z1, z2, z3, z4, z5, z6, z7⟩ := hW; go_simp; exact IntWalk.i64_in _ (by omega)) | (obtain ⟨z0, z1, z2, z3, z4, z5, z6, z7⟩ := hW; go_simp; simp [*]; done)⟩) hS_13 ?_
                          try simp only [Act.put, List.setIfInBounds_toArray, List.set_cons_zero, List.set_cons_succ]
                          refine wpAnyH_take (i := 33) (oi := ⟨some 141, _, _, _, _, _⟩) (v := .bool true) rfl (by kernel_rfl) (by kernel_rfl) (by kernel_rfl) (fun _ _ _ h => h) (.inl ⟨by kernel_rfl, fun W hW => by kernel_rfl⟩) hS_13 ?_
                          try simp only [Act.put, List.setIfInBounds_toArray, List.set_cons_zero, List.set_cons_succ]
                          refine wpAnyH_take (i := 34) (oi := ⟨some 4, _, _, _, _, _⟩) (v := .bool true) rfl (by kernel_rfl) (by kernel_rfl) (by kernel_rfl) (fun _ _ _ h => h) (.inl ⟨by kernel_rfl, fun W hW => by kernel_rfl⟩) hS_13 ?_
                          try simp only [Act.put, List.setIfInBounds_toArray, List.set_cons_zero, List.set_cons_succ]
                          refine wpAnyH_done (by kernel_rfl) ?_ _
                          go_wp2_with fail
                          go_ret
                          exact ⟨rfl, HB20.out.trans (hb_13.mono HB20.out.size)⟩
                        · rw [if_pos (by kernel_rfl)]
                          go_simp
                          refine (HOA.out _ hb_5 A0 c0 ht0_2_3_4_5).mono ?_
                          rintro e u_14 ⟨A_14, c_14, rfl, hZ_14, hq_14⟩
                          have hb_14 := hb_5.trans (hq_14.mono hb_5.size)
                          have ht0_2_3_4_5_14 := EIn.below _ ht0_2_3_4_5 hq_14 (Nat.le_refl _)
                          have ht1_2_3_4_5_14 := EIn.below _ ht1_2_3_4_5 hq_14 (Nat.le_refl _)
                          clear ht0_2_3_4_5 ht1_2_3_4_5
                          have hrG_2_3_4_5_14 := hrG_2_3_4_5.below hq_14 (Nat.le_refl _)
                          clear hrG_2_3_4_5
                          have hrL_2_3_4_5_14 := hrL_2_3_4_5.below hq_14 (Nat.le_refl _)
                          clear hrL_2_3_4_5
                          have hrB_2_3_4_5_14 := hrB_2_3_4_5.below hq_14 (Nat.le_refl _)
                          clear hrB_2_3_4_5
                          have hR_2_3_4_5_14 := hR_2_3_4_5.below hq_14 (Nat.le_refl _)
                          clear hR_2_3_4_5
                          have hR_4_5_14 := hR_4_5.below hq_14 (Nat.le_refl _)
                          clear hR_4_5
                          have hR_14 := rowI_own hZ_14
                          refine hK.out _ _ (HS20.out _ hb_14) (fun hS_14 => ?_)
                          clear hK K
                          try simp only [Act.put, List.setIfInBounds_toArray, List.set_cons_zero, List.set_cons_succ]
                          refine wpAnyH_ready (rs := [13]) (by kernel_rfl) (by simp) (AllReadyH.cons rfl (fun K hK => ?_) AllReadyH.nil)
                          rw [if_pos (by kernel_rfl)]
                          go_simp
                          have hb_15 : Below V20.heap.size V20 (u_14.alloc (.cells #[] 3)) := hb_14.alloc hb_14.size _
                          have ho_15 : (u_14.alloc (.cells #[] 3)).ownsRow V20.heap.size 3 1 (.slice (some ⟨u_14.heap.size, 0, none⟩) 0 0) 0 (vI []) := World.ownsRow_made u_14 #[] 0 hb_14.size (by simp [maxLen]) (by simp)
                          have hZ_14_15 := hZ_14.alloc (.cells #[] 3)
                          have htA0_15 := EIn.below _ HTA0.out hb_15 (Nat.le_refl _)
                          have htA1_15 := EIn.below _ HTA1.out hb_15 (Nat.le_refl _)
                          have hrAB_15 := HRB.out.below hb_15 (Nat.le_refl _)
                          generalize u_14.alloc (.cells #[] 3) = u_15 at hb_15 ho_15 hZ_14_15 htA0_15 htA1_15 hrAB_15 ⊢
                          generalize u_14.heap.size = g_15 at ho_15 ⊢
                          refine hK.out _ _ (HS20.out _ hb_15) (fun hS_15 => ?_)
                          clear hK K
                          try simp only [Act.put, List.setIfInBounds_toArray, List.set_cons_zero, List.set_cons_succ]
                          refine wpAnyH_ready (rs := [16]) (by kernel_rfl) (by simp) (AllReadyH.cons rfl (fun K hK => ?_) AllReadyH.nil)
                          rw [if_pos (by kernel_rfl)]
                          refine wp_append_row _ _ rfl V20.heap.size ([] : List Int) O g_15 0 rfl ho_15 A_14 c_14 _ rfl hZ_14_15 (by first | omega | (simp; omega)) hb_15.size (fun g_16 c_16 u_16 ho_16 hg_16 => ?_)
                          have hb_16 : Below V20.heap.size V20 u_16 := hb_15.grown hg_16 hb_15.size (fun q hq => (World.ownsRow.lt ho_15 q hq).1)
                          have htA0_16 := EIn.below _ HTA0.out hb_16 (Nat.le_refl _)
                          have htA1_16 := EIn.below _ HTA1.out hb_16 (Nat.le_refl _)
                          have hrAB_16 := HRB.out.below hb_16 (Nat.le_refl _)
                          rw [← HL1.out] at ho_16 ⊢
                          have hro_16 := rowI_own ho_16
                          refine hK.out _ _ (HS20.out _ hb_16) (fun hS_16 => ?_)
                          clear hK K
                          try simp only [Act.put, List.setIfInBounds_toArray]
                          refine wpAnyH_ready (rs := [18]) (by kernel_rfl) (by simp) (AllReadyH.cons rfl (fun K hK => ?_) AllReadyH.nil)
                          rw [if_pos (by kernel_rfl)]
                          go_simp
                          refine (HOB.out _ hb_16 A1 c1 htA1_16).mono ?_
                          rintro e u_17 ⟨A_17, c_17, rfl, hZ_17, hq_17⟩
                          have hb_17 := hb_16.trans (hq_17.mono hb_16.size)
                          have htA0_16_17 := EIn.below _ htA0_16 hq_17 (Nat.le_refl _)
                          have htA1_16_17 := EIn.below _ htA1_16 hq_17 (Nat.le_refl _)
                          clear htA0_16 htA1_16
                          have hrAB_16_17 := hrAB_16.below hq_17 (Nat.le_refl _)
                          clear hrAB_16
                          have hro_16_17 := hro_16.below hq_17 (Nat.le_refl _)
                          clear hro_16
                          have hR_17 := rowI_own hZ_17
                          have ho_16_17 := ownsRow_heap ho_16 (fun q hq => hq_17.block q (World.ownsRow.lt ho_16 q hq).2)
                          refine hK.out _ _ (HS20.out _ hb_17) (fun hS_17 => ?_)
                          clear hK K
                          try simp only [Act.put, List.setIfInBounds_toArray, List.set_cons_zero, List.set_cons_succ]
                          refine wpAnyH_ready (rs := [19]) (by kernel_rfl) (by simp) (AllReadyH.cons rfl (fun K hK => ?_) AllReadyH.nil)
                          rw [if_pos (by kernel_rfl)]
                          refine wp_append_row _ _ rfl V20.heap.size L1 O2 g_16 c_16 rfl ho_16_17 A_17 c_17 _ rfl hZ_17 (by first | omega | (simp; omega)) hb_17.size (fun g_18 c_18 u_18 ho_18 hg_18 => ?_)
                          have hb_18 : Below V20.heap.size V20 u_18 := hb_17.grown hg_18 hb_17.size (fun q hq => (World.ownsRow.lt ho_16_17 q hq).1)
                          have htA0_18 := EIn.below _ HTA0.out hb_18 (Nat.le_refl _)
                          have htA1_18 := EIn.below _ HTA1.out hb_18 (Nat.le_refl _)
                          have hrAB_18 := HRB.out.below hb_18 (Nat.le_refl _)
                          rw [← HL2.out] at ho_18 ⊢
                          have hro_18 := rowI_own ho_18
                          refine hK.out _ _ (HS20.out _ hb_18) (fun hS_18 => ?_)
                          clear hK K
                          try simp only [Act.put, List.setIfInBounds_toArray]
                          refine wpAnyH_ready (rs := [20]) (by kernel_rfl) (by simp) (AllReadyH.cons rfl (fun K hK => ?_) AllReadyH.nil)
                          rw [if_pos (by kernel_rfl)]
                          go_simp
                          refine (HIB.out _ hb_18 AB (some ⟨g_18, 0, none⟩) cB c_18 hrAB_18 hro_18).mono ?_
                          rintro e u_19 ⟨rfl, hq_19⟩
                          have hb_19 := hb_18.trans (hq_19.mono hb_18.size)
                          have htA0_18_19 := EIn.below _ htA0_18 hq_19 (Nat.le_refl _)
                          have htA1_18_19 := EIn.below _ htA1_18 hq_19 (Nat.le_refl _)
                          clear htA0_18 htA1_18
                          have hrAB_18_19 := hrAB_18.below hq_19 (Nat.le_refl _)
                          clear hrAB_18
                          have hro_18_19 := hro_18.below hq_19 (Nat.le_refl _)
                          clear hro_18
                          have ho_18_19 := ownsRow_heap ho_18 (fun q hq => hq_19.block q (World.ownsRow.lt ho_18 q hq).2)
                          refine hK.out _ _ (HS20.out _ hb_19) (fun hS_19 => ?_)
                          clear hK K
                          try simp only [Act.put, List.setIfInBounds_toArray, List.set_cons_zero, List.set_cons_succ]
                          refine wpAnyH_take (i := 21) (oi := ⟨some 129, _, _, _, _, _⟩) (v := .bool true) rfl (by kernel_rfl) (by kernel_rfl) (by kernel_rfl) (fun _ _ _ h => h) (.inl ⟨by kernel_rfl, fun W hW => by kernel_rfl⟩) hS_19 ?_
                          try simp only [Act.put, List.setIfInBounds_toArray, List.set_cons_zero, List.set_cons_succ]
                          refine wpAnyH_take (i := 22) (oi := ⟨some 130, _, _, _, _, _⟩) (v := .bool true) rfl (by kernel_rfl) (by kernel_rfl) (by kernel_rfl) (fun _ _ _ h => h) (.inl ⟨by kernel_rfl, fun W hW => by kernel_rfl⟩) hS_19 ?_
                          try simp only [Act.put, List.setIfInBounds_toArray, List.set_cons_zero, List.set_cons_succ]
                          refine wpAnyH_take (i := 23) (oi := ⟨some 131, _, _, _, _, _⟩) (v := .slice AH mh cH) rfl (by kernel_rfl) (by kernel_rfl) (by kernel_rfl) (fun _ _ _ h => h) (.inl ⟨by kernel_rfl, fun W hW => by kernel_rfl⟩) hS_19 ?_
                          try simp only [Act.put, List.setIfInBounds_toArray, List.set_cons_zero, List.set_cons_succ]
                          refine wpAnyH_take (i := 24) (oi := ⟨some 132, _, _, _, _, _⟩) (v := .int .i64 (mh : Int)) rfl (by kernel_rfl) (by kernel_rfl) (by kernel_rfl) (fun _ _ _ h => h) (.inl ⟨by kernel_rfl, fun W hW => by first | (obtain ⟨z0, z1, z2, z3, z4, z5, z6, z7⟩ := hW; go_simp; done) | (obtain ⟨z0, z1, z2, z3, z4, z5, z6, z7⟩ := hW; go_simp; omega) | (obtain ⟨z0, z1, z2, z3, z4, z5, z6, z7⟩ := hW; go_simp; exact IntWalk.i64_in _ (by omega)) | (obtain ⟨z0, z1, z2, z3, z4, z5, z6, z7⟩ := hW; go_simp; exact IntWalk.i64_in _ (by omega)) | (obtain ⟨z0, z1, z2, z3, z4, z5, z6, z7⟩ := hW; go_simp; simp [*]; done)⟩) hS_19 ?_
                          try simp only [Act.put, List.setIfInBounds_toArray, List.set_cons_zero, List.set_cons_succ]
                          refine wpAnyH_take (i := 25) (oi := ⟨some 133, _, _, _, _, _⟩) (v := .agg #[.int .i64 tk, .int .i64 tn, .string tz, .slice A0 tl.length (capF tl.length c0)]) rfl (by kernel_rfl) (by kernel_rfl) (by kernel_rfl) (fun _ _ _ h => h) (.inl ⟨by kernel_rfl, fun W hW => by first | (obtain ⟨z0, z1, z2, z3, z4, z5, z6, z7⟩ := hW; go_simp; done) | (obtain ⟨z0, z1, z2, z3, z4, z5, z6, z7⟩ := hW; go_simp; omega) | (obtain ⟨z0, z1, z2, z3, z4, z5, z6, z7⟩ := hW; go_simp; exact IntWalk.i64_in _ (by omega)) | (obtain ⟨z0, z1, z2, z3, z4, z5, z6, z7⟩ := hW; go_simp; exact IntWalk.i64_in _ (by omega)) | (obtain ⟨z0, z1, z2, z3, z4, z5, z6, z7⟩ := hW; go_simp; simp [*]; done)⟩) hS_19 ?_
                          try simp only [Act.put, List.setIfInBounds_toArray, List.set_cons_zero, List.set_cons_succ]
                          refine wpAnyH_take (i := 28) (oi := ⟨some 136, _, _, _, _, _⟩) (v := .agg #[.int .i64 sk, .int .i64 sn, .string sz, .slice A1 sl.length (capF sl.length c1)]) rfl (by kernel_rfl) (by kernel_rfl) (by kernel_rfl) (fun _ _ _ h => h) (.inl ⟨by kernel_rfl, fun W hW => by first | (obtain ⟨z0, z1, z2, z3, z4, z5, z6, z7⟩ := hW; go_simp; done) | (obtain ⟨z0, z1, z2, z3, z4, z5, z6, z7⟩ := hW; go_simp; omega) | (obtain ⟨z0, z1, z2, z3, z4, z5, z6, z7⟩ := hW; go_simp; exact IntWalk.i64_in _ (by omega)) | (obtain ⟨z0, z1, z2, z3, z4, z5, z6, z7⟩ := hW; go_simp; exact IntWalk.i64_in _ (by omega)) | (obtain ⟨z0, z1, z2, z3, z4, z5, z6, z7⟩ := hW; go_simp; simp [*]; done)⟩) hS_19 ?_
                          try simp only [Act.put, List.setIfInBounds_toArray, List.set_cons_zero, List.set_cons_succ]
                          refine wpAnyH_ready (rs := [26]) (by kernel_rfl) (by simp) (AllReadyH.cons rfl (fun K hK => ?_) AllReadyH.nil)
                          rw [if_pos (by kernel_rfl)]
                          go_simp
                          refine (HFA.out _ hb_19 A0 c0 htA0_18_19).mono ?_
                          rintro e u_20 ⟨A_20, c_20, rfl, hR_20, hq_20⟩
                          have hb_20 := hb_19.trans (hq_20.mono hb_19.size)
                          have htA0_18_19_20 := EIn.below _ htA0_18_19 hq_20 (Nat.le_refl _)
                          have htA1_18_19_20 := EIn.below _ htA1_18_19 hq_20 (Nat.le_refl _)
                          clear htA0_18_19 htA1_18_19
                          have hrAB_18_19_20 := hrAB_18_19.below hq_20 (Nat.le_refl _)
                          clear hrAB_18_19
                          have hro_18_19_20 := hro_18_19.below hq_20 (Nat.le_refl _)
                          clear hro_18_19
                          have ho_18_19_20 := ownsRow_heap ho_18_19 (fun q hq => hq_20.block q (World.ownsRow.lt ho_18_19 q hq).2)
                          refine hK.out _ _ (HS20.out _ hb_20) (fun hS_20 => ?_)
                          clear hK K
                          try simp only [Act.put, List.setIfInBounds_toArray, List.set_cons_zero, List.set_cons_succ]
                          refine wpAnyH_take (i := 27) (oi := ⟨some 135, _, _, _, _, _⟩) (v := .int .i64 (Fa.length : Int)) rfl (by kernel_rfl) (by kernel_rfl) (by kernel_rfl) (fun _ _ _ h => h) (.inl ⟨by kernel_rfl, fun W hW => by first | (obtain ⟨z0, z1, z2, z3, z4, z5, z6, z7⟩ := hW; go_simp; done) | (obtain ⟨z0, z1, z2, z3, z4, z5, z6, z7⟩ := hW; go_simp; omega) | (obtain ⟨z0, z1, z2, z3, z4, z5, z6, z7⟩ := hW; go_simp; exact IntWalk.i64_in _ (by omega)) | (obtain ⟨z0, z1, z2, z3, z4, z5, z6, z7⟩ := hW; go_simp; exact IntWalk.i64_in _ (by omega)) | (obtain ⟨z0, z1, z2, z3, z4, z5, z6, z7⟩ := hW; go_simp; simp [*]; done)⟩) hS_20 ?_
                          try simp only [Act.put, List.setIfInBounds_toArray, List.set_cons_zero, List.set_cons_succ]
                          refine wpAnyH_ready (rs := [29]) (by kernel_rfl) (by simp) (AllReadyH.cons rfl (fun K hK => ?_) AllReadyH.nil)
                          rw [if_pos (by kernel_rfl)]
                          go_simp
                          refine (HFB.out _ hb_20 A1 c1 htA1_18_19_20).mono ?_
                          rintro e u_21 ⟨A_21, c_21, rfl, hR_21, hq_21⟩
                          have hb_21 := hb_20.trans (hq_21.mono hb_20.size)
                          have htA0_18_19_20_21 := EIn.below _ htA0_18_19_20 hq_21 (Nat.le_refl _)
                          have htA1_18_19_20_21 := EIn.below _ htA1_18_19_20 hq_21 (Nat.le_refl _)
                          clear htA0_18_19_20 htA1_18_19_20
                          have hrAB_18_19_20_21 := hrAB_18_19_20.below hq_21 (Nat.le_refl _)
                          clear hrAB_18_19_20
                          have hro_18_19_20_21 := hro_18_19_20.below hq_21 (Nat.le_refl _)
                          clear hro_18_19_20
                          have hR_20_21 := hR_20.below hq_21 (Nat.le_refl _)
                          clear hR_20
                          have ho_18_19_20_21 := ownsRow_heap ho_18_19_20 (fun q hq => hq_21.block q (World.ownsRow.lt ho_18_19_20 q hq).2)
                          refine hK.out _ _ (HS20.out _ hb_21) (fun hS_21 => ?_)
                          clear hK K
                          try simp only [Act.put, List.setIfInBounds_toArray, List.set_cons_zero, List.set_cons_succ]
                          refine wpAnyH_take (i := 30) (oi := ⟨some 138, _, _, _, _, _⟩) (v := .int .i64 (Fb.length : Int)) rfl (by kernel_rfl) (by kernel_rfl) (by kernel_rfl) (fun _ _ _ h => h) (.inl ⟨by kernel_rfl, fun W hW => by first | (obtain ⟨z0, z1, z2, z3, z4, z5, z6, z7⟩ := hW; go_simp; done) | (obtain ⟨z0, z1, z2, z3, z4, z5, z6, z7⟩ := hW; go_simp; omega) | (obtain ⟨z0, z1, z2, z3, z4, z5, z6, z7⟩ := hW; go_simp; exact IntWalk.i64_in _ (by omega)) | (obtain ⟨z0, z1, z2, z3, z4, z5, z6, z7⟩ := hW; go_simp; exact IntWalk.i64_in _ (by omega)) | (obtain ⟨z0, z1, z2, z3, z4, z5, z6, z7⟩ := hW; go_simp; simp [*]; done)⟩) hS_21 ?_
                          try simp only [Act.put, List.setIfInBounds_toArray, List.set_cons_zero, List.set_cons_succ]
                          refine wpAnyH_take (i := 31) (oi := ⟨some 139, _, _, _, _, _⟩) (v := .int .i64 ((Fa.length : Int) + (Fb.length : Int))) rfl (by kernel_rfl) (by kernel_rfl) (by kernel_rfl) (fun _ _ _ h => h) (.inl ⟨by kernel_rfl, fun W hW => by first | (obtain ⟨z0, z1, z2, z3, z4, z5, z6, z7⟩ := hW; go_simp; done) | (obtain ⟨z0, z1, z2, z3, z4, z5, z6, z7⟩ := hW; go_simp; omega) | (obtain ⟨z0, z1, z2, z3, z4, z5, z6, z7⟩ := hW; go_simp; exact IntWalk.i64_in _ (by omega)) | (obtain ⟨z0, z1, z2, z3, z4, z5, z6, z7⟩ := hW; go_simp; exact IntWalk.i64_in _ (by omega)) | (obtain ⟨z0, z1, z2, z3, z4, z5, z6, z7⟩ := hW; go_simp; simp [*]; done)⟩) hS_21 ?_
                          try simp only [Act.put, List.setIfInBounds_toArray, List.set_cons_zero, List.set_cons_succ]
                          refine wpAnyH_take (i := 32) (oi := ⟨some 140, _, _, _, _, _⟩) (v := .bool true) rfl (by kernel_rfl) (by kernel_rfl) (by kernel_rfl) (fun _ _ _ h => h) (.inl ⟨by kernel_rfl, fun W hW => by first | (obtain ⟨z0, z1, z2, z3, z4, z5, z6, z7⟩ := hW; go_simp; done) | (obtain ⟨z0, z1, z2, z3, z4, z5, z6, z7⟩ := hW; go_simp; omega) | (obtain ⟨z0, z1, z2, z3, z4, z5, z6, z7⟩ := hW; go_simp; exact IntWalk.i64_in _ (by omega)) | (obtain ⟨z0, z1, z2, z3, z4, z5, z6, z7⟩ := hW; go_simp; exact IntWalk.i64_in _ (by omega)) | (obtain ⟨z0, z1, z2, z3, z4, z5, z6, z7⟩ := hW; go_simp; simp [*]; done)⟩) hS_21 ?_
                          try simp only [Act.put, List.setIfInBounds_toArray, List.set_cons_zero, List.set_cons_succ]
                          refine wpAnyH_take (i := 33) (oi := ⟨some 141, _, _, _, _, _⟩) (v := .bool true) rfl (by kernel_rfl) (by kernel_rfl) (by kernel_rfl) (fun _ _ _ h => h) (.inl ⟨by kernel_rfl, fun W hW => by kernel_rfl⟩) hS_21 ?_
                          try simp only [Act.put, List.setIfInBounds_toArray, List.set_cons_zero, List.set_cons_succ]
                          refine wpAnyH_take (i := 34) (oi := ⟨some 4, _, _, _, _, _⟩) (v := .bool true) rfl (by kernel_rfl) (by kernel_rfl) (by kernel_rfl) (fun _ _ _ h => h) (.inl ⟨by kernel_rfl, fun W hW => by kernel_rfl⟩) hS_21 ?_
                          try simp only [Act.put, List.setIfInBounds_toArray, List.set_cons_zero, List.set_cons_succ]
                          refine wpAnyH_done (by kernel_rfl) ?_ _
                          go_wp2_with fail
                          go_ret
                          exact ⟨rfl, HB20.out.trans (hb_21.mono HB20.out.size)⟩
end Lx
end Go.Proofs.Ytikchgigakbeiaa
