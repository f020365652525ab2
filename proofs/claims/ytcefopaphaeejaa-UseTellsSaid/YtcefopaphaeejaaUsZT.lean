/-
  The law UseTells, walked.
-/
import Derived.Test.YtcefopaphaeejaaC10
import Derived.Test.YtcefopaphaeejaaUsOg
import Derived.Deep.RegionHeld3
import Derived.Deep.DrawnRows
namespace Go.Proofs.Ytcefopaphaeejaa
open Go Go.RowKit
namespace Lx
set_option maxRecDepth 100000
set_option maxHeartbeats 16000000 in
theorem useTells_law (t : Te) (A0 : Option Addr) (c0 : Nat) (w : World) (hI : EIn w Any t A0) :
    Calls Try.prog 3 #[ev t A0 c0] w fun e w' => e = .returned (.bool true) ∧ Below w.heap.size w w' := by
  obtain ⟨tk, tn, tz, tl⟩ := t
  show Calls Try.prog 3 #[.agg #[.int .i64 tk, .int .i64 tn, .string tz, .slice A0 tl.length (capF tl.length c0)]] w _
  have HX0 := Lib.hid (Bx8.new (c := c0) hI (Below.refl _ w) rfl)
  clear hI
  go_enter Try.func3, Try.ntmps3
  obtain ⟨d0, d1, d2, d3⟩ := HX0.out.four
  have HG := Lib.hid (HX0.out.small 200 (by omega) (by omega))
  cases hv : decide (0 ≤ fewE (.node tk tn tz tl) 200 600)
  · rw [hv] at HG
    clear hv
    go_wp2_with fail
    refine HG.out.mono ?_
    rintro e w2 ⟨rfl, hb2⟩
    clear HG d0 d1 d2 d3
    replace HX0 := Lib.hid (HX0.out.step hb2)
    clear hb2
    go_wp2_with fail
    refine (fixed11_any w2).mono ?_
    rintro e w3 ⟨rfl, hb3⟩
    have hbw := HX0.out.bw.trans (hb3.mono HX0.out.bw.size)
    go_wp2_with fail
    go_ret
    exact ⟨rfl, hbw⟩
  · rw [hv] at HG
    have hm0 := small8 hv (by omega)
    clear hv
    go_wp2_with fail
    refine HG.out.mono ?_
    rintro e w2 ⟨rfl, hb2⟩
    clear HG d0 d1 d2 d3
    replace HX0 := Lib.hid (HX0.out.step hb2)
    clear hb2
    obtain ⟨d0, d1, d2, d3⟩ := HX0.out.four
    obtain ⟨dd, hdd⟩ : ∃ d : Int, d = (depthE (.node tk tn tz tl) : Int) := ⟨_, rfl⟩
    have HG := Lib.hid (HX0.out.depth (by omega))
    rw [← hdd] at HG
    have hdd0 : 0 ≤ dd := by omega
    by_cases hc : 300 < dd
    · clear hdd
      go_wp2_with fail
      refine HG.out.mono ?_
      rintro e w4 ⟨rfl, hb4⟩
      clear HG d0 d1 d2 d3
      replace HX0 := Lib.hid (HX0.out.step hb4)
      clear hb4
      go_wp2_with fail
      refine (fixed11_any w4).mono ?_
      rintro e w5 ⟨rfl, hb5⟩
      have hbw := HX0.out.bw.trans (hb5.mono HX0.out.bw.size)
      go_wp2_with fail
      go_ret
      exact ⟨rfl, hbw⟩
    · have HDD := Lib.hid hdd
      clear hdd
      go_wp2_with fail
      refine HG.out.mono ?_
      rintro e w4 ⟨rfl, hb4⟩
      clear HG d0 d1 d2 d3
      replace HX0 := Lib.hid (HX0.out.step hb4)
      clear hb4
      obtain ⟨d0, d1, d2, d3⟩ := HX0.out.four
      have HG := Lib.hid (HX0.out.tame)
      cases hv : tameB (.node tk tn tz tl)
      · rw [hv] at HG
        clear hv
        go_wp2_with fail
        refine HG.out.mono ?_
        rintro e w6 ⟨rfl, hb6⟩
        clear HG d0 d1 d2 d3
        replace HX0 := Lib.hid (HX0.out.step hb6)
        clear hb6
        go_wp2_with fail
        refine (fixed11_any w6).mono ?_
        rintro e w7 ⟨rfl, hb7⟩
        have hbw := HX0.out.bw.trans (hb7.mono HX0.out.bw.size)
        go_wp2_with fail
        go_ret
        exact ⟨rfl, hbw⟩
      · rw [hv] at HG
        have htb := hv
        clear hv
        go_wp2_with fail
        refine HG.out.mono ?_
        rintro e w6 ⟨rfl, hb6⟩
        clear HG d0 d1 d2 d3
        replace HX0 := Lib.hid (HX0.out.step hb6)
        clear hb6
        have htt := tameB_spec _ htb
        obtain ⟨F, hF⟩ : ∃ F, F = freeE (.node tk tn tz tl) := ⟨_, rfl⟩
        have hF2 : F = rfreeE (.node tk tn tz tl) := by rw [hF, free_same]
        obtain ⟨O, hO⟩ : ∃ O, O = ofE (.node tk tn tz tl) := ⟨_, rfl⟩
        have hFl : F.length ≤ 1000000000000 := by rw [hF2]; have h1 := rf_len (fvE (.node tk tn tz tl) 0) []; have h2 := fvE_len (.node tk tn tz tl) 0; rw [rfreeE, rfE]; simp at h1; omega
        have hOl : O.length ≤ 1000000000000 := by rw [hO]; have h1 := ofE_len (.node tk tn tz tl); omega
        obtain ⟨av, hav⟩ : ∃ b, b = affB (ofE (.node tk tn tz tl)) := ⟨_, rfl⟩
        obtain ⟨fn, hfn⟩ : ∃ n, n = fansL (ofE (.node tk tn tz tl)) := ⟨_, rfl⟩
        obtain ⟨dn, hdn⟩ : ∃ n, n = dropsL (ofE (.node tk tn tz tl)) := ⟨_, rfl⟩
        have hfa : (fn == 0) = av := by rw [hav, hfn, affB_fans]; rfl
        have HF1 := Lib.hid hF
        have HF2 := Lib.hid hF2
        have HO1 := Lib.hid hO
        have HAV := Lib.hid hav
        have HFN := Lib.hid hfn
        have HDN := Lib.hid hdn
        clear hF hF2 hO hav hfn hdn
        obtain ⟨V9, hV9⟩ : ∃ V, V = w6 := ⟨_, rfl⟩
        rw [← hV9] at HX0 ⊢
        clear hV9
        go_upto_region 3 with fail
        obtain ⟨g0, hg0⟩ : ∃ g, g = w.heap.size := ⟨_, rfl⟩
        have hx0 := HX0.out
        rw [← hg0] at hx0
        rw [← hg0]
        clear hg0 HX0
        generalize V9 = V at hx0 ⊢
        have ht0 := hx0.tin
        have HB := Lib.hid hx0.bw
        have HSS : Hid (∀ V', Below V.heap.size V V' → (fun V' : World => (V'.cell? ⟨g0, 0, none⟩ = some (.int .i64 tk) ∧ V'.cell? ⟨g0, 1, none⟩ = some (.int .i64 tn) ∧ V'.cell? ⟨g0, 2, none⟩ = some (.string tz) ∧ V'.cell? ⟨g0, 3, none⟩ = some (.slice A0 tl.length (capF tl.length c0)))) V') := Lib.hid fun V' h =>
          ⟨(h.cell (p := ⟨g0, 0, none⟩) hx0.box.lt).trans (hx0.box.cell 0), (h.cell (p := ⟨g0, 1, none⟩) hx0.box.lt).trans (hx0.box.cell 1), (h.cell (p := ⟨g0, 2, none⟩) hx0.box.lt).trans (hx0.box.cell 2), (h.cell (p := ⟨g0, 3, none⟩) hx0.box.lt).trans (hx0.box.cell 3)⟩
        have HFX : Hid (∀ X, Below V.heap.size V X → Calls Try.prog 12 #[] X (fun e w' => e = .returned (.bool true) ∧ Below X.heap.size X w')) := Lib.hid fun X hX => fixed11_any X
        have HUF : Hid (∀ X, Below V.heap.size V X → ∀ (A : Option Addr) (c : Nat) (hA : EIn X Any (.node tk tn tz tl) A), Calls Try.prog 14 #[.agg #[.int .i64 tk, .int .i64 tn, .string tz, .slice A tl.length (capF tl.length c)]] X (fun e w' => ∃ B d, e = .returned (.slice B F.length d) ∧ RowI w' B F ∧ Below X.heap.size X w')) := Lib.hid fun X hX A c hA => by
          have h := useFree_any (.node tk tn tz tl) A c X (by omega) (by omega) htt hA
          rw [← HF1.out] at h
          exact h.mono fun e w' ⟨B, d, he, hr, hb⟩ => ⟨B, d, he, rowI_own hr, hb⟩
        have HRF : Hid (∀ X, Below V.heap.size V X → ∀ (A : Option Addr) (c : Nat) (hA : EIn X Any (.node tk tn tz tl) A), Calls Try.prog 15 #[.agg #[.int .i64 tk, .int .i64 tn, .string tz, .slice A tl.length (capF tl.length c)]] X (fun e w' => ∃ B d, e = .returned (.slice B F.length d) ∧ RowI w' B F ∧ Below X.heap.size X w')) := Lib.hid fun X hX A c hA => by
          have h := rFree_any (.node tk tn tz tl) A c X (by omega) (by omega) htt hA
          rw [← HF2.out] at h
          exact h
        have HUO : Hid (∀ X, Below V.heap.size V X → ∀ (A : Option Addr) (c : Nat) (hA : EIn X Any (.node tk tn tz tl) A), Calls Try.prog 16 #[.agg #[.int .i64 tk, .int .i64 tn, .string tz, .slice A tl.length (capF tl.length c)]] X (fun e w' => ∃ B d, e = .returned (.slice B O.length d) ∧ RowI w' B O ∧ Below X.heap.size X w')) := Lib.hid fun X hX A c hA => by
          have h := of_any (.node tk tn tz tl) A c X (by omega) (by omega) htt hA
          rw [← HO1.out] at h
          exact h.mono fun e w' ⟨B, d, he, hr, hb⟩ => ⟨B, d, he, rowI_own hr, hb⟩
        have HRO : Hid (∀ X, Below V.heap.size V X → ∀ (A : Option Addr) (c : Nat) (hA : EIn X Any (.node tk tn tz tl) A), Calls Try.prog 17 #[.agg #[.int .i64 tk, .int .i64 tn, .string tz, .slice A tl.length (capF tl.length c)]] X (fun e w' => ∃ B d, e = .returned (.slice B O.length d) ∧ RowI w' B O ∧ Below X.heap.size X w')) := Lib.hid fun X hX A c hA => by
          have h := rOf_all (.node tk tn tz tl) A c X (by omega) (by omega) htt hA
          rw [← HO1.out] at h
          exact h
        have HUA : Hid (∀ X, Below V.heap.size V X → ∀ (A : Option Addr) (c : Nat) (hA : EIn X Any (.node tk tn tz tl) A), Calls Try.prog 18 #[.agg #[.int .i64 tk, .int .i64 tn, .string tz, .slice A tl.length (capF tl.length c)]] X fun e w' => e = .returned (.bool av) ∧ Below X.heap.size X w') := Lib.hid fun X hX A c hA => by
          have h := affine_any (.node tk tn tz tl) A c X (by omega) (by omega) htt hA
          rw [← HAV.out] at h
          exact h
        have HUN : Hid (∀ X, Below V.heap.size V X → ∀ (A : Option Addr) (c : Nat) (hA : EIn X Any (.node tk tn tz tl) A), Calls Try.prog 20 #[.agg #[.int .i64 tk, .int .i64 tn, .string tz, .slice A tl.length (capF tl.length c)]] X fun e w' => e = .returned (.int .i64 fn) ∧ Below X.heap.size X w') := Lib.hid fun X hX A c hA => by
          have h := fans_any (.node tk tn tz tl) A c X (by omega) (by omega) htt hA
          rw [← HFN.out] at h
          exact h
        have HRN : Hid (∀ X, Below V.heap.size V X → ∀ (A : Option Addr) (c : Nat) (hA : EIn X Any (.node tk tn tz tl) A), Calls Try.prog 19 #[.agg #[.int .i64 tk, .int .i64 tn, .string tz, .slice A tl.length (capF tl.length c)]] X fun e w' => e = .returned (.int .i64 fn) ∧ Below X.heap.size X w') := Lib.hid fun X hX A c hA => by
          have h := rFans_any (.node tk tn tz tl) A c X (by omega) (by omega) htt hA
          rw [← HFN.out] at h
          exact h
        have HUD : Hid (∀ X, Below V.heap.size V X → ∀ (A : Option Addr) (c : Nat) (hA : EIn X Any (.node tk tn tz tl) A), Calls Try.prog 21 #[.agg #[.int .i64 tk, .int .i64 tn, .string tz, .slice A tl.length (capF tl.length c)]] X fun e w' => e = .returned (.int .i64 dn) ∧ Below X.heap.size X w') := Lib.hid fun X hX A c hA => by
          have h := drops_any (.node tk tn tz tl) A c X (by omega) (by omega) htt hA
          rw [← HDN.out] at h
          exact h
        have HRD : Hid (∀ X, Below V.heap.size V X → ∀ (A : Option Addr) (c : Nat) (hA : EIn X Any (.node tk tn tz tl) A), Calls Try.prog 22 #[.agg #[.int .i64 tk, .int .i64 tn, .string tz, .slice A tl.length (capF tl.length c)]] X fun e w' => e = .returned (.int .i64 dn) ∧ Below X.heap.size X w') := Lib.hid fun X hX A c hA => by
          have h := rDrops_any (.node tk tn tz tl) A c X (by omega) (by omega) htt hA
          rw [← HDN.out] at h
          exact h
        have HIF : Hid (∀ X, Below V.heap.size V X → ∀ (A B : Option Addr) (c d : Nat) (hA : RowI X A F) (hB : RowI X B F), Calls Try.prog 13 #[.slice A F.length c, .slice B F.length d] X (fun e w' => e = .returned (.bool true) ∧ Below X.heap.size X w')) := Lib.hid fun X hX A B c d hA hB => by
          have h := ints_any A B c d F F X hA hB hFl hFl
          rw [decide_eq_true (rfl : F = F)] at h
          exact h
        have HIO : Hid (∀ X, Below V.heap.size V X → ∀ (A B : Option Addr) (c d : Nat) (hA : RowI X A O) (hB : RowI X B O), Calls Try.prog 13 #[.slice A O.length c, .slice B O.length d] X (fun e w' => e = .returned (.bool true) ∧ Below X.heap.size X w')) := Lib.hid fun X hX A B c d hA hB => by
          have h := ints_any A B c d O O X hA hB hOl hOl
          rw [decide_eq_true (rfl : O = O)] at h
          exact h
        clear hx0
        have hb_1 : Below V.heap.size V V := Below.refl _ _
        refine wp_region_held_drew (S := (fun V' : World => (V'.cell? ⟨g0, 0, none⟩ = some (.int .i64 tk) ∧ V'.cell? ⟨g0, 1, none⟩ = some (.int .i64 tn) ∧ V'.cell? ⟨g0, 2, none⟩ = some (.string tz) ∧ V'.cell? ⟨g0, 3, none⟩ = some (.slice A0 tl.length (capF tl.length c0))))) rfl (HSS.out _ hb_1.drew) (fun hSs => ?_)
        change wpAnyH _ _ _ _ _ 38 (Array.replicate 38 false) _ _
        refine wpAnyH_ready (rs := [0]) (by kernel_rfl) (by simp) (AllReadyH.cons rfl (fun K hK => ?_) AllReadyH.nil)
        go_simp
        refine (HFX.out _ (hb_1.drew)).mono ?_
        rintro e u_2 ⟨rfl, hq_2⟩
        have hb_2 := (hb_1.drew).trans (hq_2.mono (hb_1.drew).size)
        have ht0_2 := EIn.below _ (EIn.below _ ht0 (Below.refl _ _).drew (Nat.le_refl _)) hq_2 (Nat.le_refl _)
        clear ht0
        refine hK.out _ _ (HSS.out _ hb_2) (fun hS_2 => ?_)
        clear hK K
        try simp only [Act.put, List.setIfInBounds_toArray, List.set_cons_zero, List.set_cons_succ]
        refine wpAnyH_take (i := 1) (oi := ⟨some 18, _, _, _, _, _⟩) (v := .bool true) rfl (by kernel_rfl) (by kernel_rfl) (by kernel_rfl) (fun _ _ _ h => h) (.inl ⟨by kernel_rfl, fun W hW => by kernel_rfl⟩) hS_2 ?_
        try simp only [Act.put, List.setIfInBounds_toArray, List.set_cons_zero, List.set_cons_succ]
        refine wpAnyH_take (i := 2) (oi := ⟨some 19, _, _, _, _, _⟩) (v := .agg #[.int .i64 tk, .int .i64 tn, .string tz, .slice A0 tl.length (capF tl.length c0)]) rfl (by kernel_rfl) (by kernel_rfl) (by kernel_rfl) (fun _ _ _ h => h) (.inl ⟨by kernel_rfl, fun W hW => by first | (obtain ⟨z0, z1, z2, z3⟩ := hW; go_simp; done) | (obtain ⟨z0, z1, z2, z3⟩ := hW; go_simp; omega) | (obtain ⟨z0, z1, z2, z3⟩ := hW; go_simp; exact IntWalk.i64_in _ (by omega)) | (obtain ⟨z0, z1, z2, z3⟩ := hW; go_simp; simp [*]; done)⟩) hS_2 ?_
        try simp only [Act.put, List.setIfInBounds_toArray, List.set_cons_zero, List.set_cons_succ]
        refine wpAnyH_take (i := 4) (oi := ⟨some 21, _, _, _, _, _⟩) (v := .agg #[.int .i64 tk, .int .i64 tn, .string tz, .slice A0 tl.length (capF tl.length c0)]) rfl (by kernel_rfl) (by kernel_rfl) (by kernel_rfl) (fun _ _ _ h => h) (.inl ⟨by kernel_rfl, fun W hW => by first | (obtain ⟨z0, z1, z2, z3⟩ := hW; go_simp; done) | (obtain ⟨z0, z1, z2, z3⟩ := hW; go_simp; omega) | (obtain ⟨z0, z1, z2, z3⟩ := hW; go_simp; exact IntWalk.i64_in _ (by omega)) | (obtain ⟨z0, z1, z2, z3⟩ := hW; go_simp; simp [*]; done)⟩) hS_2 ?_
        try simp only [Act.put, List.setIfInBounds_toArray, List.set_cons_zero, List.set_cons_succ]
        refine wpAnyH_ready (rs := [3]) (by kernel_rfl) (by simp) (AllReadyH.cons rfl (fun K hK => ?_) AllReadyH.nil)
        rw [if_pos (by kernel_rfl)]
        go_simp
        refine (HUF.out _ hb_2 A0 c0 ht0_2).mono ?_
        rintro e u_3 ⟨A_3, c_3, rfl, hR_3, hq_3⟩
        have hb_3 := hb_2.trans (hq_3.mono hb_2.size)
        have ht0_2_3 := EIn.below _ ht0_2 hq_3 (Nat.le_refl _)
        clear ht0_2
        refine hK.out _ _ (HSS.out _ hb_3) (fun hS_3 => ?_)
        clear hK K
        try simp only [Act.put, List.setIfInBounds_toArray, List.set_cons_zero, List.set_cons_succ]
        refine wpAnyH_ready (rs := [5]) (by kernel_rfl) (by simp) (AllReadyH.cons rfl (fun K hK => ?_) AllReadyH.nil)
        rw [if_pos (by kernel_rfl)]
        go_simp
        refine (HRF.out _ hb_3 A0 c0 ht0_2_3).mono ?_
        rintro e u_4 ⟨A_4, c_4, rfl, hR_4, hq_4⟩
        have hb_4 := hb_3.trans (hq_4.mono hb_3.size)
        have ht0_2_3_4 := EIn.below _ ht0_2_3 hq_4 (Nat.le_refl _)
        clear ht0_2_3
        have hR_3_4 := hR_3.below hq_4 (Nat.le_refl _)
        clear hR_3
        refine hK.out _ _ (HSS.out _ hb_4) (fun hS_4 => ?_)
        clear hK K
        try simp only [Act.put, List.setIfInBounds_toArray, List.set_cons_zero, List.set_cons_succ]
        refine wpAnyH_ready (rs := [6]) (by kernel_rfl) (by simp) (AllReadyH.cons rfl (fun K hK => ?_) AllReadyH.nil)
        rw [if_pos (by kernel_rfl)]
        go_simp
        refine (HIF.out _ hb_4 A_3 A_4 c_3 c_4 hR_3_4 hR_4).mono ?_
        rintro e u_5 ⟨rfl, hq_5⟩
        have hb_5 := hb_4.trans (hq_5.mono hb_4.size)
        have ht0_2_3_4_5 := EIn.below _ ht0_2_3_4 hq_5 (Nat.le_refl _)
        clear ht0_2_3_4
        have hR_3_4_5 := hR_3_4.below hq_5 (Nat.le_refl _)
        clear hR_3_4
        have hR_4_5 := hR_4.below hq_5 (Nat.le_refl _)
        clear hR_4
        refine hK.out _ _ (HSS.out _ hb_5) (fun hS_5 => ?_)
        clear hK K
        try simp only [Act.put, List.setIfInBounds_toArray, List.set_cons_zero, List.set_cons_succ]
        refine wpAnyH_take (i := 7) (oi := ⟨some 24, _, _, _, _, _⟩) (v := .bool true) rfl (by kernel_rfl) (by kernel_rfl) (by kernel_rfl) (fun _ _ _ h => h) (.inl ⟨by kernel_rfl, fun W hW => by kernel_rfl⟩) hS_5 ?_
        try simp only [Act.put, List.setIfInBounds_toArray, List.set_cons_zero, List.set_cons_succ]
        refine wpAnyH_take (i := 8) (oi := ⟨some 25, _, _, _, _, _⟩) (v := .bool true) rfl (by kernel_rfl) (by kernel_rfl) (by kernel_rfl) (fun _ _ _ h => h) (.inl ⟨by kernel_rfl, fun W hW => by kernel_rfl⟩) hS_5 ?_
        try simp only [Act.put, List.setIfInBounds_toArray, List.set_cons_zero, List.set_cons_succ]
        refine wpAnyH_take (i := 9) (oi := ⟨some 26, _, _, _, _, _⟩) (v := .agg #[.int .i64 tk, .int .i64 tn, .string tz, .slice A0 tl.length (capF tl.length c0)]) rfl (by kernel_rfl) (by kernel_rfl) (by kernel_rfl) (fun _ _ _ h => h) (.inl ⟨by kernel_rfl, fun W hW => by first | (obtain ⟨z0, z1, z2, z3⟩ := hW; go_simp; done) | (obtain ⟨z0, z1, z2, z3⟩ := hW; go_simp; omega) | (obtain ⟨z0, z1, z2, z3⟩ := hW; go_simp; exact IntWalk.i64_in _ (by omega)) | (obtain ⟨z0, z1, z2, z3⟩ := hW; go_simp; simp [*]; done)⟩) hS_5 ?_
        try simp only [Act.put, List.setIfInBounds_toArray, List.set_cons_zero, List.set_cons_succ]
        refine wpAnyH_take (i := 11) (oi := ⟨some 28, _, _, _, _, _⟩) (v := .agg #[.int .i64 tk, .int .i64 tn, .string tz, .slice A0 tl.length (capF tl.length c0)]) rfl (by kernel_rfl) (by kernel_rfl) (by kernel_rfl) (fun _ _ _ h => h) (.inl ⟨by kernel_rfl, fun W hW => by first | (obtain ⟨z0, z1, z2, z3⟩ := hW; go_simp; done) | (obtain ⟨z0, z1, z2, z3⟩ := hW; go_simp; omega) | (obtain ⟨z0, z1, z2, z3⟩ := hW; go_simp; exact IntWalk.i64_in _ (by omega)) | (obtain ⟨z0, z1, z2, z3⟩ := hW; go_simp; simp [*]; done)⟩) hS_5 ?_
        try simp only [Act.put, List.setIfInBounds_toArray, List.set_cons_zero, List.set_cons_succ]
        refine wpAnyH_ready (rs := [10]) (by kernel_rfl) (by simp) (AllReadyH.cons rfl (fun K hK => ?_) AllReadyH.nil)
        rw [if_pos (by kernel_rfl)]
        go_simp
        refine (HUO.out _ hb_5 A0 c0 ht0_2_3_4_5).mono ?_
        rintro e u_6 ⟨A_6, c_6, rfl, hR_6, hq_6⟩
        have hb_6 := hb_5.trans (hq_6.mono hb_5.size)
        have ht0_2_3_4_5_6 := EIn.below _ ht0_2_3_4_5 hq_6 (Nat.le_refl _)
        clear ht0_2_3_4_5
        have hR_3_4_5_6 := hR_3_4_5.below hq_6 (Nat.le_refl _)
        clear hR_3_4_5
        have hR_4_5_6 := hR_4_5.below hq_6 (Nat.le_refl _)
        clear hR_4_5
        refine hK.out _ _ (HSS.out _ hb_6) (fun hS_6 => ?_)
        clear hK K
        try simp only [Act.put, List.setIfInBounds_toArray, List.set_cons_zero, List.set_cons_succ]
        refine wpAnyH_ready (rs := [12]) (by kernel_rfl) (by simp) (AllReadyH.cons rfl (fun K hK => ?_) AllReadyH.nil)
        rw [if_pos (by kernel_rfl)]
        go_simp
        refine (HRO.out _ hb_6 A0 c0 ht0_2_3_4_5_6).mono ?_
        rintro e u_7 ⟨A_7, c_7, rfl, hR_7, hq_7⟩
        have hb_7 := hb_6.trans (hq_7.mono hb_6.size)
        have ht0_2_3_4_5_6_7 := EIn.below _ ht0_2_3_4_5_6 hq_7 (Nat.le_refl _)
        clear ht0_2_3_4_5_6
        have hR_3_4_5_6_7 := hR_3_4_5_6.below hq_7 (Nat.le_refl _)
        clear hR_3_4_5_6
        have hR_4_5_6_7 := hR_4_5_6.below hq_7 (Nat.le_refl _)
        clear hR_4_5_6
        have hR_6_7 := hR_6.below hq_7 (Nat.le_refl _)
        clear hR_6
        refine hK.out _ _ (HSS.out _ hb_7) (fun hS_7 => ?_)
        clear hK K
        try simp only [Act.put, List.setIfInBounds_toArray, List.set_cons_zero, List.set_cons_succ]
        refine wpAnyH_ready (rs := [13]) (by kernel_rfl) (by simp) (AllReadyH.cons rfl (fun K hK => ?_) AllReadyH.nil)
        rw [if_pos (by kernel_rfl)]
        go_simp
        refine (HIO.out _ hb_7 A_6 A_7 c_6 c_7 hR_6_7 hR_7).mono ?_
        rintro e u_8 ⟨rfl, hq_8⟩
        have hb_8 := hb_7.trans (hq_8.mono hb_7.size)
        have ht0_2_3_4_5_6_7_8 := EIn.below _ ht0_2_3_4_5_6_7 hq_8 (Nat.le_refl _)
        clear ht0_2_3_4_5_6_7
        have hR_3_4_5_6_7_8 := hR_3_4_5_6_7.below hq_8 (Nat.le_refl _)
        clear hR_3_4_5_6_7
        have hR_4_5_6_7_8 := hR_4_5_6_7.below hq_8 (Nat.le_refl _)
        clear hR_4_5_6_7
        have hR_6_7_8 := hR_6_7.below hq_8 (Nat.le_refl _)
        clear hR_6_7
        have hR_7_8 := hR_7.below hq_8 (Nat.le_refl _)
        clear hR_7
        refine hK.out _ _ (HSS.out _ hb_8) (fun hS_8 => ?_)
        clear hK K
        try simp only [Act.put, List.setIfInBounds_toArray, List.set_cons_zero, List.set_cons_succ]
        refine wpAnyH_take (i := 14) (oi := ⟨some 31, _, _, _, _, _⟩) (v := .bool true) rfl (by kernel_rfl) (by kernel_rfl) (by kernel_rfl) (fun _ _ _ h => h) (.inl ⟨by kernel_rfl, fun W hW => by kernel_rfl⟩) hS_8 ?_
        try simp only [Act.put, List.setIfInBounds_toArray, List.set_cons_zero, List.set_cons_succ]
        refine wpAnyH_take (i := 15) (oi := ⟨some 32, _, _, _, _, _⟩) (v := .bool true) rfl (by kernel_rfl) (by kernel_rfl) (by kernel_rfl) (fun _ _ _ h => h) (.inl ⟨by kernel_rfl, fun W hW => by kernel_rfl⟩) hS_8 ?_
        try simp only [Act.put, List.setIfInBounds_toArray, List.set_cons_zero, List.set_cons_succ]
        refine wpAnyH_take (i := 16) (oi := ⟨some 33, _, _, _, _, _⟩) (v := .agg #[.int .i64 tk, .int .i64 tn, .string tz, .slice A0 tl.length (capF tl.length c0)]) rfl (by kernel_rfl) (by kernel_rfl) (by kernel_rfl) (fun _ _ _ h => h) (.inl ⟨by kernel_rfl, fun W hW => by first | (obtain ⟨z0, z1, z2, z3⟩ := hW; go_simp; done) | (obtain ⟨z0, z1, z2, z3⟩ := hW; go_simp; omega) | (obtain ⟨z0, z1, z2, z3⟩ := hW; go_simp; exact IntWalk.i64_in _ (by omega)) | (obtain ⟨z0, z1, z2, z3⟩ := hW; go_simp; simp [*]; done)⟩) hS_8 ?_
        try simp only [Act.put, List.setIfInBounds_toArray, List.set_cons_zero, List.set_cons_succ]
        refine wpAnyH_take (i := 18) (oi := ⟨some 35, _, _, _, _, _⟩) (v := .agg #[.int .i64 tk, .int .i64 tn, .string tz, .slice A0 tl.length (capF tl.length c0)]) rfl (by kernel_rfl) (by kernel_rfl) (by kernel_rfl) (fun _ _ _ h => h) (.inl ⟨by kernel_rfl, fun W hW => by first | (obtain ⟨z0, z1, z2, z3⟩ := hW; go_simp; done) | (obtain ⟨z0, z1, z2, z3⟩ := hW; go_simp; omega) | (obtain ⟨z0, z1, z2, z3⟩ := hW; go_simp; exact IntWalk.i64_in _ (by omega)) | (obtain ⟨z0, z1, z2, z3⟩ := hW; go_simp; simp [*]; done)⟩) hS_8 ?_
        try simp only [Act.put, List.setIfInBounds_toArray, List.set_cons_zero, List.set_cons_succ]
        refine wpAnyH_ready (rs := [17]) (by kernel_rfl) (by simp) (AllReadyH.cons rfl (fun K hK => ?_) AllReadyH.nil)
        rw [if_pos (by kernel_rfl)]
        go_simp
        refine (HUA.out _ hb_8 A0 c0 ht0_2_3_4_5_6_7_8).mono ?_
        rintro e u_9 ⟨rfl, hq_9⟩
        have hb_9 := hb_8.trans (hq_9.mono hb_8.size)
        have ht0_2_3_4_5_6_7_8_9 := EIn.below _ ht0_2_3_4_5_6_7_8 hq_9 (Nat.le_refl _)
        clear ht0_2_3_4_5_6_7_8
        have hR_3_4_5_6_7_8_9 := hR_3_4_5_6_7_8.below hq_9 (Nat.le_refl _)
        clear hR_3_4_5_6_7_8
        have hR_4_5_6_7_8_9 := hR_4_5_6_7_8.below hq_9 (Nat.le_refl _)
        clear hR_4_5_6_7_8
        have hR_6_7_8_9 := hR_6_7_8.below hq_9 (Nat.le_refl _)
        clear hR_6_7_8
        have hR_7_8_9 := hR_7_8.below hq_9 (Nat.le_refl _)
        clear hR_7_8
        refine hK.out _ _ (HSS.out _ hb_9) (fun hS_9 => ?_)
        clear hK K
        try simp only [Act.put, List.setIfInBounds_toArray, List.set_cons_zero, List.set_cons_succ]
        refine wpAnyH_ready (rs := [19]) (by kernel_rfl) (by simp) (AllReadyH.cons rfl (fun K hK => ?_) AllReadyH.nil)
        rw [if_pos (by kernel_rfl)]
        go_simp
        refine (HRN.out _ hb_9 A0 c0 ht0_2_3_4_5_6_7_8_9).mono ?_
        rintro e u_10 ⟨rfl, hq_10⟩
        have hb_10 := hb_9.trans (hq_10.mono hb_9.size)
        have ht0_2_3_4_5_6_7_8_9_10 := EIn.below _ ht0_2_3_4_5_6_7_8_9 hq_10 (Nat.le_refl _)
        clear ht0_2_3_4_5_6_7_8_9
        have hR_3_4_5_6_7_8_9_10 := hR_3_4_5_6_7_8_9.below hq_10 (Nat.le_refl _)
        clear hR_3_4_5_6_7_8_9
        have hR_4_5_6_7_8_9_10 := hR_4_5_6_7_8_9.below hq_10 (Nat.le_refl _)
        clear hR_4_5_6_7_8_9
        have hR_6_7_8_9_10 := hR_6_7_8_9.below hq_10 (Nat.le_refl _)
        clear hR_6_7_8_9
        have hR_7_8_9_10 := hR_7_8_9.below hq_10 (Nat.le_refl _)
        clear hR_7_8_9
        refine hK.out _ _ (HSS.out _ hb_10) (fun hS_10 => ?_)
        clear hK K
        try simp only [Act.put, List.setIfInBounds_toArray, List.set_cons_zero, List.set_cons_succ]
        refine wpAnyH_take (i := 20) (oi := ⟨some 37, _, _, _, _, _⟩) (v := .bool av) rfl (by kernel_rfl) (by kernel_rfl) (by kernel_rfl) (fun _ _ _ h => h) (.inl ⟨by kernel_rfl, fun W hW => by first | (obtain ⟨z0, z1, z2, z3⟩ := hW; go_simp; done) | (obtain ⟨z0, z1, z2, z3⟩ := hW; go_simp; omega) | (obtain ⟨z0, z1, z2, z3⟩ := hW; go_simp; exact IntWalk.i64_in _ (by omega)) | (obtain ⟨z0, z1, z2, z3⟩ := hW; go_simp; simp [*]; done)⟩) hS_10 ?_
        try simp only [Act.put, List.setIfInBounds_toArray, List.set_cons_zero, List.set_cons_succ]
        refine wpAnyH_take (i := 21) (oi := ⟨some 38, _, _, _, _, _⟩) (v := .bool true) rfl (by kernel_rfl) (by kernel_rfl) (by kernel_rfl) (fun _ _ _ h => h) (.inl ⟨by kernel_rfl, fun W hW => by first | (obtain ⟨z0, z1, z2, z3⟩ := hW; go_simp; done) | (obtain ⟨z0, z1, z2, z3⟩ := hW; go_simp; omega) | (obtain ⟨z0, z1, z2, z3⟩ := hW; go_simp; exact IntWalk.i64_in _ (by omega)) | (obtain ⟨z0, z1, z2, z3⟩ := hW; go_simp; simp [*]; done)⟩) hS_10 ?_
        try simp only [Act.put, List.setIfInBounds_toArray, List.set_cons_zero, List.set_cons_succ]
        refine wpAnyH_take (i := 22) (oi := ⟨some 39, _, _, _, _, _⟩) (v := .bool true) rfl (by kernel_rfl) (by kernel_rfl) (by kernel_rfl) (fun _ _ _ h => h) (.inl ⟨by kernel_rfl, fun W hW => by kernel_rfl⟩) hS_10 ?_
        try simp only [Act.put, List.setIfInBounds_toArray, List.set_cons_zero, List.set_cons_succ]
        refine wpAnyH_take (i := 23) (oi := ⟨some 40, _, _, _, _, _⟩) (v := .bool true) rfl (by kernel_rfl) (by kernel_rfl) (by kernel_rfl) (fun _ _ _ h => h) (.inl ⟨by kernel_rfl, fun W hW => by kernel_rfl⟩) hS_10 ?_
        try simp only [Act.put, List.setIfInBounds_toArray, List.set_cons_zero, List.set_cons_succ]
        refine wpAnyH_take (i := 24) (oi := ⟨some 41, _, _, _, _, _⟩) (v := .agg #[.int .i64 tk, .int .i64 tn, .string tz, .slice A0 tl.length (capF tl.length c0)]) rfl (by kernel_rfl) (by kernel_rfl) (by kernel_rfl) (fun _ _ _ h => h) (.inl ⟨by kernel_rfl, fun W hW => by first | (obtain ⟨z0, z1, z2, z3⟩ := hW; go_simp; done) | (obtain ⟨z0, z1, z2, z3⟩ := hW; go_simp; omega) | (obtain ⟨z0, z1, z2, z3⟩ := hW; go_simp; exact IntWalk.i64_in _ (by omega)) | (obtain ⟨z0, z1, z2, z3⟩ := hW; go_simp; simp [*]; done)⟩) hS_10 ?_
        try simp only [Act.put, List.setIfInBounds_toArray, List.set_cons_zero, List.set_cons_succ]
        refine wpAnyH_take (i := 26) (oi := ⟨some 43, _, _, _, _, _⟩) (v := .agg #[.int .i64 tk, .int .i64 tn, .string tz, .slice A0 tl.length (capF tl.length c0)]) rfl (by kernel_rfl) (by kernel_rfl) (by kernel_rfl) (fun _ _ _ h => h) (.inl ⟨by kernel_rfl, fun W hW => by first | (obtain ⟨z0, z1, z2, z3⟩ := hW; go_simp; done) | (obtain ⟨z0, z1, z2, z3⟩ := hW; go_simp; omega) | (obtain ⟨z0, z1, z2, z3⟩ := hW; go_simp; exact IntWalk.i64_in _ (by omega)) | (obtain ⟨z0, z1, z2, z3⟩ := hW; go_simp; simp [*]; done)⟩) hS_10 ?_
        try simp only [Act.put, List.setIfInBounds_toArray, List.set_cons_zero, List.set_cons_succ]
        refine wpAnyH_ready (rs := [25]) (by kernel_rfl) (by simp) (AllReadyH.cons rfl (fun K hK => ?_) AllReadyH.nil)
        rw [if_pos (by kernel_rfl)]
        go_simp
        refine (HUN.out _ hb_10 A0 c0 ht0_2_3_4_5_6_7_8_9_10).mono ?_
        rintro e u_11 ⟨rfl, hq_11⟩
        have hb_11 := hb_10.trans (hq_11.mono hb_10.size)
        have ht0_2_3_4_5_6_7_8_9_10_11 := EIn.below _ ht0_2_3_4_5_6_7_8_9_10 hq_11 (Nat.le_refl _)
        clear ht0_2_3_4_5_6_7_8_9_10
        have hR_3_4_5_6_7_8_9_10_11 := hR_3_4_5_6_7_8_9_10.below hq_11 (Nat.le_refl _)
        clear hR_3_4_5_6_7_8_9_10
        have hR_4_5_6_7_8_9_10_11 := hR_4_5_6_7_8_9_10.below hq_11 (Nat.le_refl _)
        clear hR_4_5_6_7_8_9_10
        have hR_6_7_8_9_10_11 := hR_6_7_8_9_10.below hq_11 (Nat.le_refl _)
        clear hR_6_7_8_9_10
        have hR_7_8_9_10_11 := hR_7_8_9_10.below hq_11 (Nat.le_refl _)
        clear hR_7_8_9_10
        refine hK.out _ _ (HSS.out _ hb_11) (fun hS_11 => ?_)
        clear hK K
        try simp only [Act.put, List.setIfInBounds_toArray, List.set_cons_zero, List.set_cons_succ]
        refine wpAnyH_ready (rs := [27]) (by kernel_rfl) (by simp) (AllReadyH.cons rfl (fun K hK => ?_) AllReadyH.nil)
        rw [if_pos (by kernel_rfl)]
        go_simp
        refine (HRN.out _ hb_11 A0 c0 ht0_2_3_4_5_6_7_8_9_10_11).mono ?_
        rintro e u_12 ⟨rfl, hq_12⟩
        have hb_12 := hb_11.trans (hq_12.mono hb_11.size)
        have ht0_2_3_4_5_6_7_8_9_10_11_12 := EIn.below _ ht0_2_3_4_5_6_7_8_9_10_11 hq_12 (Nat.le_refl _)
        clear ht0_2_3_4_5_6_7_8_9_10_11
        have hR_3_4_5_6_7_8_9_10_11_12 := hR_3_4_5_6_7_8_9_10_11.below hq_12 (Nat.le_refl _)
        clear hR_3_4_5_6_7_8_9_10_11
        have hR_4_5_6_7_8_9_10_11_12 := hR_4_5_6_7_8_9_10_11.below hq_12 (Nat.le_refl _)
        clear hR_4_5_6_7_8_9_10_11
        have hR_6_7_8_9_10_11_12 := hR_6_7_8_9_10_11.below hq_12 (Nat.le_refl _)
        clear hR_6_7_8_9_10_11
        have hR_7_8_9_10_11_12 := hR_7_8_9_10_11.below hq_12 (Nat.le_refl _)
        clear hR_7_8_9_10_11
        refine hK.out _ _ (HSS.out _ hb_12) (fun hS_12 => ?_)
        clear hK K
        try simp only [Act.put, List.setIfInBounds_toArray, List.set_cons_zero, List.set_cons_succ]
        refine wpAnyH_take (i := 28) (oi := ⟨some 45, _, _, _, _, _⟩) (v := .bool true) rfl (by kernel_rfl) (by kernel_rfl) (by kernel_rfl) (fun _ _ _ h => h) (.inl ⟨by kernel_rfl, fun W hW => by first | (obtain ⟨z0, z1, z2, z3⟩ := hW; go_simp; done) | (obtain ⟨z0, z1, z2, z3⟩ := hW; go_simp; omega) | (obtain ⟨z0, z1, z2, z3⟩ := hW; go_simp; exact IntWalk.i64_in _ (by omega)) | (obtain ⟨z0, z1, z2, z3⟩ := hW; go_simp; simp [*]; done)⟩) hS_12 ?_
        try simp only [Act.put, List.setIfInBounds_toArray, List.set_cons_zero, List.set_cons_succ]
        refine wpAnyH_take (i := 29) (oi := ⟨some 46, _, _, _, _, _⟩) (v := .bool true) rfl (by kernel_rfl) (by kernel_rfl) (by kernel_rfl) (fun _ _ _ h => h) (.inl ⟨by kernel_rfl, fun W hW => by kernel_rfl⟩) hS_12 ?_
        try simp only [Act.put, List.setIfInBounds_toArray, List.set_cons_zero, List.set_cons_succ]
        refine wpAnyH_take (i := 30) (oi := ⟨some 47, _, _, _, _, _⟩) (v := .bool true) rfl (by kernel_rfl) (by kernel_rfl) (by kernel_rfl) (fun _ _ _ h => h) (.inl ⟨by kernel_rfl, fun W hW => by kernel_rfl⟩) hS_12 ?_
        try simp only [Act.put, List.setIfInBounds_toArray, List.set_cons_zero, List.set_cons_succ]
        refine wpAnyH_take (i := 31) (oi := ⟨some 48, _, _, _, _, _⟩) (v := .agg #[.int .i64 tk, .int .i64 tn, .string tz, .slice A0 tl.length (capF tl.length c0)]) rfl (by kernel_rfl) (by kernel_rfl) (by kernel_rfl) (fun _ _ _ h => h) (.inl ⟨by kernel_rfl, fun W hW => by first | (obtain ⟨z0, z1, z2, z3⟩ := hW; go_simp; done) | (obtain ⟨z0, z1, z2, z3⟩ := hW; go_simp; omega) | (obtain ⟨z0, z1, z2, z3⟩ := hW; go_simp; exact IntWalk.i64_in _ (by omega)) | (obtain ⟨z0, z1, z2, z3⟩ := hW; go_simp; simp [*]; done)⟩) hS_12 ?_
        try simp only [Act.put, List.setIfInBounds_toArray, List.set_cons_zero, List.set_cons_succ]
        refine wpAnyH_take (i := 33) (oi := ⟨some 50, _, _, _, _, _⟩) (v := .agg #[.int .i64 tk, .int .i64 tn, .string tz, .slice A0 tl.length (capF tl.length c0)]) rfl (by kernel_rfl) (by kernel_rfl) (by kernel_rfl) (fun _ _ _ h => h) (.inl ⟨by kernel_rfl, fun W hW => by first | (obtain ⟨z0, z1, z2, z3⟩ := hW; go_simp; done) | (obtain ⟨z0, z1, z2, z3⟩ := hW; go_simp; omega) | (obtain ⟨z0, z1, z2, z3⟩ := hW; go_simp; exact IntWalk.i64_in _ (by omega)) | (obtain ⟨z0, z1, z2, z3⟩ := hW; go_simp; simp [*]; done)⟩) hS_12 ?_
        try simp only [Act.put, List.setIfInBounds_toArray, List.set_cons_zero, List.set_cons_succ]
        refine wpAnyH_ready (rs := [32]) (by kernel_rfl) (by simp) (AllReadyH.cons rfl (fun K hK => ?_) AllReadyH.nil)
        rw [if_pos (by kernel_rfl)]
        go_simp
        refine (HUD.out _ hb_12 A0 c0 ht0_2_3_4_5_6_7_8_9_10_11_12).mono ?_
        rintro e u_13 ⟨rfl, hq_13⟩
        have hb_13 := hb_12.trans (hq_13.mono hb_12.size)
        have ht0_2_3_4_5_6_7_8_9_10_11_12_13 := EIn.below _ ht0_2_3_4_5_6_7_8_9_10_11_12 hq_13 (Nat.le_refl _)
        clear ht0_2_3_4_5_6_7_8_9_10_11_12
        have hR_3_4_5_6_7_8_9_10_11_12_13 := hR_3_4_5_6_7_8_9_10_11_12.below hq_13 (Nat.le_refl _)
        clear hR_3_4_5_6_7_8_9_10_11_12
        have hR_4_5_6_7_8_9_10_11_12_13 := hR_4_5_6_7_8_9_10_11_12.below hq_13 (Nat.le_refl _)
        clear hR_4_5_6_7_8_9_10_11_12
        have hR_6_7_8_9_10_11_12_13 := hR_6_7_8_9_10_11_12.below hq_13 (Nat.le_refl _)
        clear hR_6_7_8_9_10_11_12
        have hR_7_8_9_10_11_12_13 := hR_7_8_9_10_11_12.below hq_13 (Nat.le_refl _)
        clear hR_7_8_9_10_11_12
        refine hK.out _ _ (HSS.out _ hb_13) (fun hS_13 => ?_)
        clear hK K
        try simp only [Act.put, List.setIfInBounds_toArray, List.set_cons_zero, List.set_cons_succ]
        refine wpAnyH_ready (rs := [34]) (by kernel_rfl) (by simp) (AllReadyH.cons rfl (fun K hK => ?_) AllReadyH.nil)
        rw [if_pos (by kernel_rfl)]
        go_simp
        refine (HRD.out _ hb_13 A0 c0 ht0_2_3_4_5_6_7_8_9_10_11_12_13).mono ?_
        rintro e u_14 ⟨rfl, hq_14⟩
        have hb_14 := hb_13.trans (hq_14.mono hb_13.size)
        have ht0_2_3_4_5_6_7_8_9_10_11_12_13_14 := EIn.below _ ht0_2_3_4_5_6_7_8_9_10_11_12_13 hq_14 (Nat.le_refl _)
        clear ht0_2_3_4_5_6_7_8_9_10_11_12_13
        have hR_3_4_5_6_7_8_9_10_11_12_13_14 := hR_3_4_5_6_7_8_9_10_11_12_13.below hq_14 (Nat.le_refl _)
        clear hR_3_4_5_6_7_8_9_10_11_12_13
        have hR_4_5_6_7_8_9_10_11_12_13_14 := hR_4_5_6_7_8_9_10_11_12_13.below hq_14 (Nat.le_refl _)
        clear hR_4_5_6_7_8_9_10_11_12_13
        have hR_6_7_8_9_10_11_12_13_14 := hR_6_7_8_9_10_11_12_13.below hq_14 (Nat.le_refl _)
        clear hR_6_7_8_9_10_11_12_13
        have hR_7_8_9_10_11_12_13_14 := hR_7_8_9_10_11_12_13.below hq_14 (Nat.le_refl _)
        clear hR_7_8_9_10_11_12_13
        refine hK.out _ _ (HSS.out _ hb_14) (fun hS_14 => ?_)
        clear hK K
        try simp only [Act.put, List.setIfInBounds_toArray, List.set_cons_zero, List.set_cons_succ]
        refine wpAnyH_take (i := 35) (oi := ⟨some 52, _, _, _, _, _⟩) (v := .bool true) rfl (by kernel_rfl) (by kernel_rfl) (by kernel_rfl) (fun _ _ _ h => h) (.inl ⟨by kernel_rfl, fun W hW => by first | (obtain ⟨z0, z1, z2, z3⟩ := hW; go_simp; done) | (obtain ⟨z0, z1, z2, z3⟩ := hW; go_simp; omega) | (obtain ⟨z0, z1, z2, z3⟩ := hW; go_simp; exact IntWalk.i64_in _ (by omega)) | (obtain ⟨z0, z1, z2, z3⟩ := hW; go_simp; simp [*]; done)⟩) hS_14 ?_
        try simp only [Act.put, List.setIfInBounds_toArray, List.set_cons_zero, List.set_cons_succ]
        refine wpAnyH_take (i := 36) (oi := ⟨some 53, _, _, _, _, _⟩) (v := .bool true) rfl (by kernel_rfl) (by kernel_rfl) (by kernel_rfl) (fun _ _ _ h => h) (.inl ⟨by kernel_rfl, fun W hW => by kernel_rfl⟩) hS_14 ?_
        try simp only [Act.put, List.setIfInBounds_toArray, List.set_cons_zero, List.set_cons_succ]
        refine wpAnyH_take (i := 37) (oi := ⟨some 2, _, _, _, _, _⟩) (v := .bool true) rfl (by kernel_rfl) (by kernel_rfl) (by kernel_rfl) (fun _ _ _ h => h) (.inl ⟨by kernel_rfl, fun W hW => by kernel_rfl⟩) hS_14 ?_
        try simp only [Act.put, List.setIfInBounds_toArray, List.set_cons_zero, List.set_cons_succ]
        refine wpAnyH_done (by kernel_rfl) ?_ _
        go_wp2_with fail
        go_ret
        exact ⟨rfl, HB.out.trans (hb_14.mono HB.out.size)⟩
end Lx
end Go.Proofs.Ytcefopaphaeejaa
