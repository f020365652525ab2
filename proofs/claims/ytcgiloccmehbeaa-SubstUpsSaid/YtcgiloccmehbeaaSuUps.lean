/-
  The law SubstUps, walked.
-/
import Derived.Test.YtcgiloccmehbeaaY9
import Derived.Test.YtcgiloccmehbeaaY6
namespace Go.Proofs.Ytcgiloccmehbeaa
open Go.RowKit
namespace Lx
set_option maxRecDepth 100000
theorem ups_swap {t : Te} (hw : wfE t) (a b f : Int) (ha : 0 ≤ a) (hb : 0 ≤ b) (hf : 0 ≤ f) : upE (upE t a f) b 0 = upE (upE t b 0) a (f + b) := by
  have := ch_two (F := upF a) (G := upF b) (F' := upF b) (G' := upF a) (p := f) (q := 0) (p' := 0) (q' := f + b) (fun n s d hd => by
    rw [upF, upF, v_up, v_up]; congr 1; (repeat' split) <;> omega) t 0 (by omega) hw
  simpa [upE] using this
set_option maxHeartbeats 16000000 in
theorem ups8_any (t : Te) (A0 : Option Addr) (c0 : Nat) (a b f : Int) (w : World) (hI : EIn w Any t A0) (_ : -9223372036854775808 ≤ a ∧ a ≤ 9223372036854775807) (_ : -9223372036854775808 ≤ b ∧ b ≤ 9223372036854775807) (_ : -9223372036854775808 ≤ f ∧ f ≤ 9223372036854775807) :
    Calls Try.prog 7 #[ev t A0 c0, .agg #[.int .i64 a, .int .i64 b, .int .i64 f]] w fun e w' => e = .returned (.bool true) ∧ Below w.heap.size w w' := by
  obtain ⟨tk, tn, tz, tl⟩ := t
  show Calls Try.prog 7 #[.agg #[.int .i64 tk, .int .i64 tn, .string tz, .slice A0 tl.length (capF tl.length c0)], .agg #[.int .i64 a, .int .i64 b, .int .i64 f]] w _
  have HX0 := Lib.hid ((Bx8.new (c := c0) hI (Below.refl _ w) rfl).old (.cells #[.int .i64 a, .int .i64 b, .int .i64 f] 40))
  have HP : Hid (Lies ((w.alloc (.cells #[.int .i64 tk, .int .i64 tn, .string tz, .slice A0 tl.length (capF tl.length c0)] 24)).alloc (.cells #[.int .i64 a, .int .i64 b, .int .i64 f] 40)) (w.heap.size + 1) 40 #[.int .i64 a, .int .i64 b, .int .i64 f]) := Lib.hid (lies_next _ _ _ _ (by simp))
  clear hI
  go_enter Try.func7, Try.ntmps7
  go_wp2_with fail
  refine (fixed8_any _).mono ?_
  rintro e w2 ⟨rfl, hb2⟩
  replace HX0 := Lib.hid (HX0.out.step hb2)
  replace HP := Lib.hid (HP.out.below hb2 HP.out.lt)
  have p0 := HP.out.cell 0
  have p1 := HP.out.cell 1
  have p2 := HP.out.cell 2
  simp at p0 p1 p2
  clear hb2
  go_wp2_with fail
  go_quiet (fail)
  clear p0 p1 p2 HP
  obtain ⟨W1, hW1⟩ : ∃ W, W = w2.drewN nq := ⟨_, rfl⟩
  replace HX0 := Lib.hid (HX0.out.step (W' := W1) (by rw [hW1]; exact ⟨rfl, rfl, rfl, Nat.le_refl _, fun _ _ => rfl⟩))
  rw [← hW1]
  clear hW1
  go_wp2_with fail
  refine (fixed8_any _).mono ?_
  rintro e w3 ⟨rfl, hb3⟩
  replace HX0 := Lib.hid (HX0.out.step hb3)
  clear hb3
  obtain ⟨d0, d1, d2, d3⟩ := HX0.out.four
  have HG := Lib.hid (HX0.out.small 100 (by omega) (by omega))
  cases hv : decide (0 ≤ fewE (.node tk tn tz tl) 100 600)
  · rw [hv] at HG
    clear hv
    go_wp2_with fail
    refine HG.out.mono ?_
    rintro e w4 ⟨rfl, hb4⟩
    clear HG d0 d1 d2 d3
    replace HX0 := Lib.hid (HX0.out.step hb4)
    clear hb4
    go_wp2_with fail
    refine (fixed8_any w4).mono ?_
    rintro e w5 ⟨rfl, hb5⟩
    have hbw := HX0.out.bw.trans (hb5.mono HX0.out.bw.size)
    go_wp2_with fail
    go_ret
    exact ⟨rfl, hbw⟩
  · rw [hv] at HG
    have hm0 := small8 hv (by omega)
    clear hv
    go_wp2_with fail
    refine HG.out.mono ?_
    rintro e w4 ⟨rfl, hb4⟩
    clear HG d0 d1 d2 d3
    replace HX0 := Lib.hid (HX0.out.step hb4)
    clear hb4
    obtain ⟨d0, d1, d2, d3⟩ := HX0.out.four
    have HG := Lib.hid (rMay6_any (.node tk tn tz tl) A0 c0 5 _ HX0.out.tin (by omega) (by omega) (by omega))
    cases hv : mayQ (.node tk tn tz tl) 5 false
    · rw [hv] at HG
      clear hv
      go_wp2_with fail
      refine HG.out.mono ?_
      rintro e w6 ⟨rfl, hb6⟩
      clear HG d0 d1 d2 d3
      replace HX0 := Lib.hid (HX0.out.step hb6)
      clear hb6
      go_wp2_with fail
      refine (fixed8_any w6).mono ?_
      rintro e w7 ⟨rfl, hb7⟩
      have hbw := HX0.out.bw.trans (hb7.mono HX0.out.bw.size)
      go_wp2_with fail
      go_ret
      exact ⟨rfl, hbw⟩
    · rw [hv] at HG
      have hmay := hv
      clear hv
      go_wp2_with fail
      refine HG.out.mono ?_
      rintro e w6 ⟨rfl, hb6⟩
      clear HG d0 d1 d2 d3
      replace HX0 := Lib.hid (HX0.out.step hb6)
      clear hb6
      by_cases hc : a < 0
      · go_wp2_with fail
        refine (fixed8_any w6).mono ?_
        rintro e w8 ⟨rfl, hb8⟩
        have hbw := HX0.out.bw.trans (hb8.mono HX0.out.bw.size)
        go_wp2_with fail
        go_ret
        exact ⟨rfl, hbw⟩
      · have ha0 : 0 ≤ a := by omega
        by_cases hc : b < 0
        · go_wp2_with fail
          refine (fixed8_any w6).mono ?_
          rintro e w9 ⟨rfl, hb9⟩
          have hbw := HX0.out.bw.trans (hb9.mono HX0.out.bw.size)
          go_wp2_with fail
          go_ret
          exact ⟨rfl, hbw⟩
        · have hb0 : 0 ≤ b := by omega
          by_cases hc : f < 0
          · go_wp2_with fail
            refine (fixed8_any w6).mono ?_
            rintro e w10 ⟨rfl, hb10⟩
            have hbw := HX0.out.bw.trans (hb10.mono HX0.out.bw.size)
            go_wp2_with fail
            go_ret
            exact ⟨rfl, hbw⟩
          · have hf0 : 0 ≤ f := by omega
            by_cases hc : 1000 < a
            · go_wp2_with fail
              refine (fixed8_any w6).mono ?_
              rintro e w11 ⟨rfl, hb11⟩
              have hbw := HX0.out.bw.trans (hb11.mono HX0.out.bw.size)
              go_wp2_with fail
              go_ret
              exact ⟨rfl, hbw⟩
            · have ha1 : a ≤ 1000 := by omega
              by_cases hc : 1000 < b
              · go_wp2_with fail
                refine (fixed8_any w6).mono ?_
                rintro e w12 ⟨rfl, hb12⟩
                have hbw := HX0.out.bw.trans (hb12.mono HX0.out.bw.size)
                go_wp2_with fail
                go_ret
                exact ⟨rfl, hbw⟩
              · have hb1 : b ≤ 1000 := by omega
                by_cases hc : 10 < f
                · go_wp2_with fail
                  refine (fixed8_any w6).mono ?_
                  rintro e w13 ⟨rfl, hb13⟩
                  have hbw := HX0.out.bw.trans (hb13.mono HX0.out.bw.size)
                  go_wp2_with fail
                  go_ret
                  exact ⟨rfl, hbw⟩
                · have hf1 : f ≤ 10 := by omega
                  have hcl := may_cl _ _ _ hmay
                  have hwf := clE_wf _ _ hcl
                  have htq : tameE 7000 8 (.node tk tn tz tl) := tameE_mono (by omega) (by omega) _ (clE_tame _ _ hcl)
                  obtain ⟨M, hM⟩ : ∃ X, X = upE (.node tk tn tz tl) a f := ⟨_, rfl⟩
                  obtain ⟨X, hX⟩ : ∃ X, X = upE M b f := ⟨_, rfl⟩
                  obtain ⟨Y, hY⟩ : ∃ X, X = upE M b 0 := ⟨_, rfl⟩
                  obtain ⟨N, hN⟩ : ∃ X, X = upE (.node tk tn tz tl) b 0 := ⟨_, rfl⟩
                  have hX2 : X = upE (.node tk tn tz tl) (a + b) f := by rw [hX, hM]; exact up_up hwf a b f (by omega) (by omega)
                  have hY2 : Y = upE N a (f + b) := by rw [hY, hM, hN]; exact ups_swap hwf a b f (by omega) (by omega) (by omega)
                  have hMf : 5 ≤ f → M = (.node tk tn tz tl) := fun h => by rw [hM]; exact up_far hcl a f h
                  have hsX : sizeE X = sizeE (.node tk tn tz tl) := by rw [hX2]; exact up_size _ _ _ hwf
                  have hdM := upE_depth (.node tk tn tz tl) a f
                  have hsM := upE_size (.node tk tn tz tl) a f
                  have hdN := upE_depth (.node tk tn tz tl) b 0
                  have hsN := upE_size (.node tk tn tz tl) b 0
                  rw [← hM] at hdM hsM
                  rw [← hN] at hdN hsN
                  have htM : tameE 8000 8 M := by rw [hM]; exact tameE_mono (by omega) (by omega) _ (upE_tame (U := 1000) (by omega) htq a f (by omega) (by omega) (by omega))
                  have htN : tameE 8000 8 N := by rw [hN]; exact tameE_mono (by omega) (by omega) _ (upE_tame (U := 1000) (by omega) htq b 0 (by omega) (by omega) (by omega))
                  obtain ⟨mk, mn, mz, ml⟩ := M
                  obtain ⟨xk, xn, xz, xl⟩ := X
                  obtain ⟨yk, yn, yz, yl⟩ := Y
                  obtain ⟨nk, nn, nz, nl⟩ := N
                  have HM := Lib.hid hM
                  have HX := Lib.hid hX
                  have HY := Lib.hid hY
                  have HN := Lib.hid hN
                  have HX2 := Lib.hid hX2
                  have HY2 := Lib.hid hY2
                  have HMf := Lib.hid hMf
                  clear hMf
                  clear hM hX hY hN hX2 hY2 hcl hmay
                  obtain ⟨e00, e01, e02, e03⟩ := HX0.out.four
                  have HG : Hid (Calls Try.prog 13 #[.agg #[.int .i64 tk, .int .i64 tn, .string tz, .slice A0 tl.length (capF tl.length c0)], .int .i64 a, .int .i64 f] w6 (GivesL mk mn mz ml.length (.node mk mn mz ml) w6)) := Lib.hid (by
                    have h := up_any (.node tk tn tz tl) A0 c0 a f _ HX0.out.tin (by omega) (by omega) (tameE_mono (by omega) (by omega) _ htq) (by omega) (by omega) (by omega) (by omega)
                    rw [← HM.out] at h
                    exact h.mono fun e w' h => h.any.lit)
                  go_wp2_with fail
                  refine HG.out.mono ?_
                  rintro e w14 ⟨Am, cm, rfl, hTm, hb14⟩
                  replace HX0 := Lib.hid (HX0.out.step hb14)
                  clear e00 e01 e02 e03
                  clear HG
                  have HG : Hid (Calls Try.prog 13 #[.agg #[.int .i64 mk, .int .i64 mn, .string mz, .slice Am ml.length (capF ml.length cm)], .int .i64 b, .int .i64 f] w14 (GivesL xk xn xz xl.length (.node xk xn xz xl) w14)) := Lib.hid (by
                    have h := up_any (.node mk mn mz ml) Am cm b f _ hTm (by omega) (by omega) (tameE_mono (by omega) (by omega) _ htM) (by omega) (by omega) (by omega) (by omega)
                    rw [← HX.out] at h
                    exact h.mono fun e w' h => h.any.lit)
                  go_wp2_with fail
                  refine HG.out.mono ?_
                  rintro e w15 ⟨Ax, cx, rfl, hTx, hb15⟩
                  replace HX0 := Lib.hid (HX0.out.step hb15)
                  clear HG
                  have HXu : Hid (Bx8 w (w15.alloc (.cells #[.int .i64 xk, .int .i64 xn, .string xz, .slice Ax xl.length (capF xl.length cx)] 24)) w15.heap.size xk xn xz xl Ax cx) := Lib.hid ⟨Lies.new _ _ _, EIn.below _ hTx ((Below.refl _ w15).alloc (Nat.le_refl _) _) (Nat.le_refl _), HX0.out.bw.alloc HX0.out.bw.size _⟩
                  replace HX0 := Lib.hid (HX0.out.old (.cells #[.int .i64 xk, .int .i64 xn, .string xz, .slice Ax xl.length (capF xl.length cx)] 24))
                  clear hTx hb15
                  clear hTm hb14
                  obtain ⟨e00, e01, e02, e03⟩ := HX0.out.four
                  have HG : Hid (Calls Try.prog 13 #[.agg #[.int .i64 tk, .int .i64 tn, .string tz, .slice A0 tl.length (capF tl.length c0)], .int .i64 a, .int .i64 f] (w15.alloc (.cells #[.int .i64 xk, .int .i64 xn, .string xz, .slice Ax xl.length (capF xl.length cx)] 24)) (GivesL mk mn mz ml.length (.node mk mn mz ml) (w15.alloc (.cells #[.int .i64 xk, .int .i64 xn, .string xz, .slice Ax xl.length (capF xl.length cx)] 24)))) := Lib.hid (by
                    have h := up_any (.node tk tn tz tl) A0 c0 a f _ HX0.out.tin (by omega) (by omega) (tameE_mono (by omega) (by omega) _ htq) (by omega) (by omega) (by omega) (by omega)
                    rw [← HM.out] at h
                    exact h.mono fun e w' h => h.any.lit)
                  go_wp2_with fail
                  refine HG.out.mono ?_
                  rintro e w16 ⟨Am, cm, rfl, hTm, hb16⟩
                  replace HX0 := Lib.hid (HX0.out.step hb16)
                  replace HXu := Lib.hid (HXu.out.step hb16)
                  clear e00 e01 e02 e03
                  clear HG
                  have HG : Hid (Calls Try.prog 13 #[.agg #[.int .i64 mk, .int .i64 mn, .string mz, .slice Am ml.length (capF ml.length cm)], .int .i64 b, .int .i64 0] w16 (GivesL yk yn yz yl.length (.node yk yn yz yl) w16)) := Lib.hid (by
                    have h := up_any (.node mk mn mz ml) Am cm b 0 _ hTm (by omega) (by omega) (tameE_mono (by omega) (by omega) _ htM) (by omega) (by omega) (by omega) (by omega)
                    rw [← HY.out] at h
                    exact h.mono fun e w' h => h.any.lit)
                  go_wp2_with fail
                  refine HG.out.mono ?_
                  rintro e w17 ⟨Ay, cy, rfl, hTy, hb17⟩
                  replace HX0 := Lib.hid (HX0.out.step hb17)
                  replace HXu := Lib.hid (HXu.out.step hb17)
                  clear HG
                  have HXv : Hid (Bx8 w (w17.alloc (.cells #[.int .i64 yk, .int .i64 yn, .string yz, .slice Ay yl.length (capF yl.length cy)] 24)) w17.heap.size yk yn yz yl Ay cy) := Lib.hid ⟨Lies.new _ _ _, EIn.below _ hTy ((Below.refl _ w17).alloc (Nat.le_refl _) _) (Nat.le_refl _), HX0.out.bw.alloc HX0.out.bw.size _⟩
                  replace HX0 := Lib.hid (HX0.out.old (.cells #[.int .i64 yk, .int .i64 yn, .string yz, .slice Ay yl.length (capF yl.length cy)] 24))
                  replace HXu := Lib.hid (HXu.out.old (.cells #[.int .i64 yk, .int .i64 yn, .string yz, .slice Ay yl.length (capF yl.length cy)] 24))
                  clear hTy hb17
                  clear hTm hb16
                  obtain ⟨e00, e01, e02, e03⟩ := HX0.out.four
                  have HG : Hid (Calls Try.prog 13 #[.agg #[.int .i64 tk, .int .i64 tn, .string tz, .slice A0 tl.length (capF tl.length c0)], .int .i64 b, .int .i64 0] (w17.alloc (.cells #[.int .i64 yk, .int .i64 yn, .string yz, .slice Ay yl.length (capF yl.length cy)] 24)) (GivesL nk nn nz nl.length (.node nk nn nz nl) (w17.alloc (.cells #[.int .i64 yk, .int .i64 yn, .string yz, .slice Ay yl.length (capF yl.length cy)] 24)))) := Lib.hid (by
                    have h := up_any (.node tk tn tz tl) A0 c0 b 0 _ HX0.out.tin (by omega) (by omega) (tameE_mono (by omega) (by omega) _ htq) (by omega) (by omega) (by omega) (by omega)
                    rw [← HN.out] at h
                    exact h.mono fun e w' h => h.any.lit)
                  go_wp2_with fail
                  refine HG.out.mono ?_
                  rintro e w18 ⟨An, cn, rfl, hTn, hb18⟩
                  replace HX0 := Lib.hid (HX0.out.step hb18)
                  replace HXu := Lib.hid (HXu.out.step hb18)
                  replace HXv := Lib.hid (HXv.out.step hb18)
                  clear e00 e01 e02 e03
                  clear HG
                  have HG : Hid (Calls Try.prog 13 #[.agg #[.int .i64 nk, .int .i64 nn, .string nz, .slice An nl.length (capF nl.length cn)], .int .i64 a, .int .i64 (f + b)] w18 (GivesL yk yn yz yl.length (.node yk yn yz yl) w18)) := Lib.hid (by
                    have h := up_any (.node nk nn nz nl) An cn a (f + b) _ hTn (by omega) (by omega) (tameE_mono (by omega) (by omega) _ htN) (by omega) (by omega) (by omega) (by omega)
                    rw [← HY2.out] at h
                    exact h.mono fun e w' h => h.any.lit)
                  go_wp2_with fail
                  refine HG.out.mono ?_
                  rintro e w19 ⟨Aq, cq, rfl, hTq, hb19⟩
                  replace HX0 := Lib.hid (HX0.out.step hb19)
                  replace HXu := Lib.hid (HXu.out.step hb19)
                  replace HXv := Lib.hid (HXv.out.step hb19)
                  clear HG
                  have HXq : Hid (Bx8 w (w19.alloc (.cells #[.int .i64 yk, .int .i64 yn, .string yz, .slice Aq yl.length (capF yl.length cq)] 24)) w19.heap.size yk yn yz yl Aq cq) := Lib.hid ⟨Lies.new _ _ _, EIn.below _ hTq ((Below.refl _ w19).alloc (Nat.le_refl _) _) (Nat.le_refl _), HX0.out.bw.alloc HX0.out.bw.size _⟩
                  replace HX0 := Lib.hid (HX0.out.old (.cells #[.int .i64 yk, .int .i64 yn, .string yz, .slice Aq yl.length (capF yl.length cq)] 24))
                  replace HXu := Lib.hid (HXu.out.old (.cells #[.int .i64 yk, .int .i64 yn, .string yz, .slice Aq yl.length (capF yl.length cq)] 24))
                  replace HXv := Lib.hid (HXv.out.old (.cells #[.int .i64 yk, .int .i64 yn, .string yz, .slice Aq yl.length (capF yl.length cq)] 24))
                  clear hTq hb19
                  clear hTn hb18
                  go_upto_region 9 with fail
                  have hx0 := HX0.out
                  have hxu := HXu.out
                  have hxv := HXv.out
                  have hxq := HXq.out
                  obtain ⟨g0, hg0⟩ : ∃ g, g = w.heap.size := ⟨_, rfl⟩
                  rw [← hg0] at hx0
                  obtain ⟨gu, hgu⟩ : ∃ g, g = w15.heap.size := ⟨_, rfl⟩
                  rw [← hgu] at hxu
                  obtain ⟨gv, hgv⟩ : ∃ g, g = w17.heap.size := ⟨_, rfl⟩
                  rw [← hgv] at hxv
                  obtain ⟨gq, hgq⟩ : ∃ g, g = w19.heap.size := ⟨_, rfl⟩
                  rw [← hgq] at hxq
                  rw [← hgq, ← hgv, ← hgu, ← hg0]
                  clear hg0 hgu hgv hgq HX0 HXu HXv HXq
                  obtain ⟨V, hV⟩ : ∃ V, V = (w19.alloc (.cells #[.int .i64 yk, .int .i64 yn, .string yz, .slice Aq yl.length (capF yl.length cq)] 24)) := ⟨_, rfl⟩
                  rw [← hV] at hx0 hxu hxv hxq ⊢
                  clear hV
                  have ht0 := hx0.tin
                  have htu := hxu.tin
                  have htv := hxv.tin
                  have htw := hxq.tin
                  have HB := Lib.hid hx0.bw
                  have HSS : Hid (∀ V', Below V.heap.size V V' → (fun V' : World => (V'.cell? ⟨g0, 0, none⟩ = some (.int .i64 tk) ∧ V'.cell? ⟨g0, 1, none⟩ = some (.int .i64 tn) ∧ V'.cell? ⟨g0, 2, none⟩ = some (.string tz) ∧ V'.cell? ⟨g0, 3, none⟩ = some (.slice A0 tl.length (capF tl.length c0)) ∧ V'.cell? ⟨gu, 0, none⟩ = some (.int .i64 xk) ∧ V'.cell? ⟨gu, 1, none⟩ = some (.int .i64 xn) ∧ V'.cell? ⟨gu, 2, none⟩ = some (.string xz) ∧ V'.cell? ⟨gu, 3, none⟩ = some (.slice Ax xl.length (capF xl.length cx)) ∧ V'.cell? ⟨gv, 0, none⟩ = some (.int .i64 yk) ∧ V'.cell? ⟨gv, 1, none⟩ = some (.int .i64 yn) ∧ V'.cell? ⟨gv, 2, none⟩ = some (.string yz) ∧ V'.cell? ⟨gv, 3, none⟩ = some (.slice Ay yl.length (capF yl.length cy)) ∧ V'.cell? ⟨gq, 0, none⟩ = some (.int .i64 yk) ∧ V'.cell? ⟨gq, 1, none⟩ = some (.int .i64 yn) ∧ V'.cell? ⟨gq, 2, none⟩ = some (.string yz) ∧ V'.cell? ⟨gq, 3, none⟩ = some (.slice Aq yl.length (capF yl.length cq)))) V') := Lib.hid fun V' h =>
                    ⟨(h.cell (p := ⟨g0, 0, none⟩) hx0.box.lt).trans (hx0.box.cell 0), (h.cell (p := ⟨g0, 1, none⟩) hx0.box.lt).trans (hx0.box.cell 1), (h.cell (p := ⟨g0, 2, none⟩) hx0.box.lt).trans (hx0.box.cell 2), (h.cell (p := ⟨g0, 3, none⟩) hx0.box.lt).trans (hx0.box.cell 3), (h.cell (p := ⟨gu, 0, none⟩) hxu.box.lt).trans (hxu.box.cell 0), (h.cell (p := ⟨gu, 1, none⟩) hxu.box.lt).trans (hxu.box.cell 1), (h.cell (p := ⟨gu, 2, none⟩) hxu.box.lt).trans (hxu.box.cell 2), (h.cell (p := ⟨gu, 3, none⟩) hxu.box.lt).trans (hxu.box.cell 3), (h.cell (p := ⟨gv, 0, none⟩) hxv.box.lt).trans (hxv.box.cell 0), (h.cell (p := ⟨gv, 1, none⟩) hxv.box.lt).trans (hxv.box.cell 1), (h.cell (p := ⟨gv, 2, none⟩) hxv.box.lt).trans (hxv.box.cell 2), (h.cell (p := ⟨gv, 3, none⟩) hxv.box.lt).trans (hxv.box.cell 3), (h.cell (p := ⟨gq, 0, none⟩) hxq.box.lt).trans (hxq.box.cell 0), (h.cell (p := ⟨gq, 1, none⟩) hxq.box.lt).trans (hxq.box.cell 1), (h.cell (p := ⟨gq, 2, none⟩) hxq.box.lt).trans (hxq.box.cell 2), (h.cell (p := ⟨gq, 3, none⟩) hxq.box.lt).trans (hxq.box.cell 3)⟩
                  clear hx0 hxu hxv hxq
                  have HUP : Hid (∀ X, Below V.heap.size V X → ∀ (A : Option Addr) (c : Nat) (hA : EIn X Any (.node tk tn tz tl) A), Calls Try.prog 13 #[.agg #[.int .i64 tk, .int .i64 tn, .string tz, .slice A tl.length (capF tl.length c)], .int .i64 (a + b), .int .i64 f] X fun e w' => ∃ A c, e = .returned (.agg #[.int .i64 xk, .int .i64 xn, .string xz, .slice A xl.length (capF xl.length c)]) ∧ EIn w' Any (.node xk xn xz xl) A ∧ Below X.heap.size X w') := Lib.hid fun X hX A c hA => by
                    have h := up_any (.node tk tn tz tl) A c (a + b) f X hA (by omega) (by omega) (tameE_mono (by omega) (by omega) _ htq) (by omega) (by omega) (by omega) (by omega)
                    rw [← HX2.out] at h
                    exact h.mono fun e w' h => h.any
                  have HUM : Hid (∀ X, Below V.heap.size V X → ∀ (A : Option Addr) (c : Nat) (hA : EIn X Any (.node tk tn tz tl) A), Calls Try.prog 13 #[.agg #[.int .i64 tk, .int .i64 tn, .string tz, .slice A tl.length (capF tl.length c)], .int .i64 a, .int .i64 f] X fun e w' => ∃ A c, e = .returned (.agg #[.int .i64 mk, .int .i64 mn, .string mz, .slice A ml.length (capF ml.length c)]) ∧ EIn w' Any (.node mk mn mz ml) A ∧ Below X.heap.size X w') := Lib.hid fun X hX A c hA => by
                    have h := up_any (.node tk tn tz tl) A c a f X hA (by omega) (by omega) (tameE_mono (by omega) (by omega) _ htq) (by omega) (by omega) (by omega) (by omega)
                    rw [← HM.out] at h
                    exact h.mono fun e w' h => h.any
                  have HSX : Hid (∀ X, Below V.heap.size V X → ∀ (A : Option Addr) (c : Nat) (hA : EIn X Any (.node xk xn xz xl) A) (B : Option Addr) (d : Nat) (hB : EIn X Any (.node xk xn xz xl) B), Calls Try.prog 12 #[.agg #[.int .i64 xk, .int .i64 xn, .string xz, .slice A xl.length (capF xl.length c)], .agg #[.int .i64 xk, .int .i64 xn, .string xz, .slice B xl.length (capF xl.length d)]] X fun e w' => e = .returned (.bool true) ∧ Below X.heap.size X w') := Lib.hid fun X hX A c hA B d hB => by
                    have h := rsame6_any (depthE (.node xk xn xz xl)) (.node xk xn xz xl) (.node xk xn xz xl) A B c d X (Nat.le_refl _) hA hB
                    rw [sameE_refl] at h
                    exact h
                  have HSY : Hid (∀ X, Below V.heap.size V X → ∀ (A : Option Addr) (c : Nat) (hA : EIn X Any (.node yk yn yz yl) A) (B : Option Addr) (d : Nat) (hB : EIn X Any (.node yk yn yz yl) B), Calls Try.prog 12 #[.agg #[.int .i64 yk, .int .i64 yn, .string yz, .slice A yl.length (capF yl.length c)], .agg #[.int .i64 yk, .int .i64 yn, .string yz, .slice B yl.length (capF yl.length d)]] X fun e w' => e = .returned (.bool true) ∧ Below X.heap.size X w') := Lib.hid fun X hX A c hA B d hB => by
                    have h := rsame6_any (depthE (.node yk yn yz yl)) (.node yk yn yz yl) (.node yk yn yz yl) A B c d X (Nat.le_refl _) hA hB
                    rw [sameE_refl] at h
                    exact h
                  have HZX : Hid (∀ X, Below V.heap.size V X → ∀ (A : Option Addr) (c : Nat) (hA : EIn X Any (.node xk xn xz xl) A), Calls Try.prog 22 #[.agg #[.int .i64 xk, .int .i64 xn, .string xz, .slice A xl.length (capF xl.length c)]] X fun e w' => e = .returned (.int .i64 (sizeE (.node tk tn tz tl) : Int)) ∧ Below X.heap.size X w') := Lib.hid fun X hX A c hA => by
                    have h := rsize6_any (depthE (.node xk xn xz xl)) (.node xk xn xz xl) A c X (Nat.le_refl _) (by omega) hA
                    rw [hsX] at h
                    exact h
                  have HZT : Hid (∀ X, Below V.heap.size V X → ∀ (A : Option Addr) (c : Nat) (hA : EIn X Any (.node tk tn tz tl) A), Calls Try.prog 22 #[.agg #[.int .i64 tk, .int .i64 tn, .string tz, .slice A tl.length (capF tl.length c)]] X fun e w' => e = .returned (.int .i64 (sizeE (.node tk tn tz tl) : Int)) ∧ Below X.heap.size X w') := Lib.hid fun X hX A c hA => rsize6_any (depthE (.node tk tn tz tl)) (.node tk tn tz tl) A c X (Nat.le_refl _) (by omega) hA
                  obtain ⟨zt, hzt⟩ : ∃ z, z = sizeE (.node tk tn tz tl) := ⟨_, rfl⟩
                  rw [← hzt] at HZX HZT
                  clear hzt hsX
                  by_cases hf5 : f < 5
                  · have hb_1 : Below V.heap.size V V := Below.refl _ _
                    refine wp_region_K (S := (fun V' : World => (V'.cell? ⟨g0, 0, none⟩ = some (.int .i64 tk) ∧ V'.cell? ⟨g0, 1, none⟩ = some (.int .i64 tn) ∧ V'.cell? ⟨g0, 2, none⟩ = some (.string tz) ∧ V'.cell? ⟨g0, 3, none⟩ = some (.slice A0 tl.length (capF tl.length c0)) ∧ V'.cell? ⟨gu, 0, none⟩ = some (.int .i64 xk) ∧ V'.cell? ⟨gu, 1, none⟩ = some (.int .i64 xn) ∧ V'.cell? ⟨gu, 2, none⟩ = some (.string xz) ∧ V'.cell? ⟨gu, 3, none⟩ = some (.slice Ax xl.length (capF xl.length cx)) ∧ V'.cell? ⟨gv, 0, none⟩ = some (.int .i64 yk) ∧ V'.cell? ⟨gv, 1, none⟩ = some (.int .i64 yn) ∧ V'.cell? ⟨gv, 2, none⟩ = some (.string yz) ∧ V'.cell? ⟨gv, 3, none⟩ = some (.slice Ay yl.length (capF yl.length cy)) ∧ V'.cell? ⟨gq, 0, none⟩ = some (.int .i64 yk) ∧ V'.cell? ⟨gq, 1, none⟩ = some (.int .i64 yn) ∧ V'.cell? ⟨gq, 2, none⟩ = some (.string yz) ∧ V'.cell? ⟨gq, 3, none⟩ = some (.slice Aq yl.length (capF yl.length cq))))) 32 rfl (HSS.out _ hb_1.drew) (fun hSs => ?_)
                    change wpAnyK _ _ _ _ _ _ 33 (Array.replicate 33 false) _ _
                    refine wpAnyK_take (i := 0) (oi := ⟨some 77, _, _, _, _, _⟩) (v := .agg #[.int .i64 xk, .int .i64 xn, .string xz, .slice Ax xl.length (capF xl.length cx)]) rfl (by kernel_rfl) (by kernel_rfl) (by kernel_rfl) (by kernel_rfl) (fun _ _ _ h => h) (.inl ⟨by kernel_rfl, fun W hW => by first | (obtain ⟨z0, z1, z2, z3, z4, z5, z6, z7, z8, z9, z10, z11, z12, z13, z14, z15⟩ := hW; go_simp; done) | (obtain ⟨z0, z1, z2, z3, z4, z5, z6, z7, z8, z9, z10, z11, z12, z13, z14, z15⟩ := hW; go_simp; omega) | (obtain ⟨z0, z1, z2, z3, z4, z5, z6, z7, z8, z9, z10, z11, z12, z13, z14, z15⟩ := hW; go_simp; exact IntWalk.i64_in _ (by omega)) | (obtain ⟨z0, z1, z2, z3, z4, z5, z6, z7, z8, z9, z10, z11, z12, z13, z14, z15⟩ := hW; go_simp; simp [*]; done)⟩) hSs ?_
                    try simp only [Act.put, List.setIfInBounds_toArray, List.set_cons_zero, List.set_cons_succ]
                    refine wpAnyK_take (i := 1) (oi := ⟨some 78, _, _, _, _, _⟩) (v := .agg #[.int .i64 tk, .int .i64 tn, .string tz, .slice A0 tl.length (capF tl.length c0)]) rfl (by kernel_rfl) (by kernel_rfl) (by kernel_rfl) (by kernel_rfl) (fun _ _ _ h => h) (.inl ⟨by kernel_rfl, fun W hW => by first | (obtain ⟨z0, z1, z2, z3, z4, z5, z6, z7, z8, z9, z10, z11, z12, z13, z14, z15⟩ := hW; go_simp; done) | (obtain ⟨z0, z1, z2, z3, z4, z5, z6, z7, z8, z9, z10, z11, z12, z13, z14, z15⟩ := hW; go_simp; omega) | (obtain ⟨z0, z1, z2, z3, z4, z5, z6, z7, z8, z9, z10, z11, z12, z13, z14, z15⟩ := hW; go_simp; exact IntWalk.i64_in _ (by omega)) | (obtain ⟨z0, z1, z2, z3, z4, z5, z6, z7, z8, z9, z10, z11, z12, z13, z14, z15⟩ := hW; go_simp; simp [*]; done)⟩) hSs ?_
                    try simp only [Act.put, List.setIfInBounds_toArray, List.set_cons_zero, List.set_cons_succ]
                    refine wpAnyK_take (i := 2) (oi := ⟨some 79, _, _, _, _, _⟩) (v := .int .i64 a) rfl (by kernel_rfl) (by kernel_rfl) (by kernel_rfl) (by kernel_rfl) (fun _ _ _ h => h) (.inl ⟨by kernel_rfl, fun W hW => by kernel_rfl⟩) hSs ?_
                    try simp only [Act.put, List.setIfInBounds_toArray, List.set_cons_zero, List.set_cons_succ]
                    refine wpAnyK_take (i := 3) (oi := ⟨some 80, _, _, _, _, _⟩) (v := .int .i64 b) rfl (by kernel_rfl) (by kernel_rfl) (by kernel_rfl) (by kernel_rfl) (fun _ _ _ h => h) (.inl ⟨by kernel_rfl, fun W hW => by kernel_rfl⟩) hSs ?_
                    try simp only [Act.put, List.setIfInBounds_toArray, List.set_cons_zero, List.set_cons_succ]
                    refine wpAnyK_take (i := 4) (oi := ⟨some 81, _, _, _, _, _⟩) (v := .int .i64 (a + b)) rfl (by kernel_rfl) (by kernel_rfl) (by kernel_rfl) (by kernel_rfl) (fun _ _ _ h => h) (.inl ⟨by kernel_rfl, fun W hW => by first | (obtain ⟨z0, z1, z2, z3, z4, z5, z6, z7, z8, z9, z10, z11, z12, z13, z14, z15⟩ := hW; go_simp; done) | (obtain ⟨z0, z1, z2, z3, z4, z5, z6, z7, z8, z9, z10, z11, z12, z13, z14, z15⟩ := hW; go_simp; omega) | (obtain ⟨z0, z1, z2, z3, z4, z5, z6, z7, z8, z9, z10, z11, z12, z13, z14, z15⟩ := hW; go_simp; exact IntWalk.i64_in _ (by omega)) | (obtain ⟨z0, z1, z2, z3, z4, z5, z6, z7, z8, z9, z10, z11, z12, z13, z14, z15⟩ := hW; go_simp; simp [*]; done)⟩) hSs ?_
                    try simp only [Act.put, List.setIfInBounds_toArray, List.set_cons_zero, List.set_cons_succ]
                    refine wpAnyK_take (i := 5) (oi := ⟨some 82, _, _, _, _, _⟩) (v := .int .i64 f) rfl (by kernel_rfl) (by kernel_rfl) (by kernel_rfl) (by kernel_rfl) (fun _ _ _ h => h) (.inl ⟨by kernel_rfl, fun W hW => by kernel_rfl⟩) hSs ?_
                    try simp only [Act.put, List.setIfInBounds_toArray, List.set_cons_zero, List.set_cons_succ]
                    refine wpAnyK_one (i := 6) rfl rfl (by kernel_rfl) (fun K hK => ?_)
                    go_simp
                    refine (HUP.out _ (hb_1.drew) A0 c0 (EIn.below _ ht0 (Below.refl _ _).drew (Nat.le_refl _))).mono ?_
                    rintro e u_2 ⟨A_2, c_2, rfl, hT_2, hq_2⟩
                    have hb_2 := (hb_1.drew).trans (hq_2.mono (hb_1.drew).size)
                    have ht0_2 := EIn.below _ (EIn.below _ ht0 (Below.refl _ _).drew (Nat.le_refl _)) hq_2 (Nat.le_refl _)
                    have htu_2 := EIn.below _ (EIn.below _ htu (Below.refl _ _).drew (Nat.le_refl _)) hq_2 (Nat.le_refl _)
                    have htv_2 := EIn.below _ (EIn.below _ htv (Below.refl _ _).drew (Nat.le_refl _)) hq_2 (Nat.le_refl _)
                    have htw_2 := EIn.below _ (EIn.below _ htw (Below.refl _ _).drew (Nat.le_refl _)) hq_2 (Nat.le_refl _)
                    clear ht0 htu htv htw
                    refine hK.out _ _ (fun _ => HSS.out _ hb_2) (fun hS9 => ?_)
                    have hS_2 := hS9 (by decide)
                    clear hK K hS9
                    try simp only [Act.put, List.setIfInBounds_toArray, List.set_cons_zero, List.set_cons_succ]
                    refine wpAnyK_one (i := 7) rfl rfl (by kernel_rfl) (fun K hK => ?_)
                    go_simp
                    refine (HSX.out _ hb_2 Ax cx htu_2 A_2 c_2 hT_2).mono ?_
                    rintro e u_3 ⟨rfl, hq_3⟩
                    have hb_3 := hb_2.trans (hq_3.mono hb_2.size)
                    have ht0_2_3 := EIn.below _ ht0_2 hq_3 (Nat.le_refl _)
                    have htu_2_3 := EIn.below _ htu_2 hq_3 (Nat.le_refl _)
                    have htv_2_3 := EIn.below _ htv_2 hq_3 (Nat.le_refl _)
                    have htw_2_3 := EIn.below _ htw_2 hq_3 (Nat.le_refl _)
                    have hT_2_3 := EIn.below _ hT_2 hq_3 (Nat.le_refl _)
                    clear ht0_2 htu_2 htv_2 htw_2 hT_2
                    refine hK.out _ _ (fun _ => HSS.out _ hb_3) (fun hS9 => ?_)
                    have hS_3 := hS9 (by decide)
                    clear hK K hS9
                    try simp only [Act.put, List.setIfInBounds_toArray, List.set_cons_zero, List.set_cons_succ]
                    refine wpAnyK_take (i := 8) (oi := ⟨some 85, _, _, _, _, _⟩) (v := .bool true) rfl (by kernel_rfl) (by kernel_rfl) (by kernel_rfl) (by kernel_rfl) (fun _ _ _ h => h) (.inl ⟨by kernel_rfl, fun W hW => by kernel_rfl⟩) hS_3 ?_
                    try simp only [Act.put, List.setIfInBounds_toArray, List.set_cons_zero, List.set_cons_succ]
                    refine wpAnyK_take (i := 9) (oi := ⟨some 86, _, _, _, _, _⟩) (v := .agg #[.int .i64 yk, .int .i64 yn, .string yz, .slice Ay yl.length (capF yl.length cy)]) rfl (by kernel_rfl) (by kernel_rfl) (by kernel_rfl) (by kernel_rfl) (fun _ _ _ h => h) (.inl ⟨by kernel_rfl, fun W hW => by first | (obtain ⟨z0, z1, z2, z3, z4, z5, z6, z7, z8, z9, z10, z11, z12, z13, z14, z15⟩ := hW; go_simp; done) | (obtain ⟨z0, z1, z2, z3, z4, z5, z6, z7, z8, z9, z10, z11, z12, z13, z14, z15⟩ := hW; go_simp; omega) | (obtain ⟨z0, z1, z2, z3, z4, z5, z6, z7, z8, z9, z10, z11, z12, z13, z14, z15⟩ := hW; go_simp; exact IntWalk.i64_in _ (by omega)) | (obtain ⟨z0, z1, z2, z3, z4, z5, z6, z7, z8, z9, z10, z11, z12, z13, z14, z15⟩ := hW; go_simp; simp [*]; done)⟩) hS_3 ?_
                    try simp only [Act.put, List.setIfInBounds_toArray, List.set_cons_zero, List.set_cons_succ]
                    refine wpAnyK_take (i := 10) (oi := ⟨some 87, _, _, _, _, _⟩) (v := .agg #[.int .i64 yk, .int .i64 yn, .string yz, .slice Aq yl.length (capF yl.length cq)]) rfl (by kernel_rfl) (by kernel_rfl) (by kernel_rfl) (by kernel_rfl) (fun _ _ _ h => h) (.inl ⟨by kernel_rfl, fun W hW => by first | (obtain ⟨z0, z1, z2, z3, z4, z5, z6, z7, z8, z9, z10, z11, z12, z13, z14, z15⟩ := hW; go_simp; done) | (obtain ⟨z0, z1, z2, z3, z4, z5, z6, z7, z8, z9, z10, z11, z12, z13, z14, z15⟩ := hW; go_simp; omega) | (obtain ⟨z0, z1, z2, z3, z4, z5, z6, z7, z8, z9, z10, z11, z12, z13, z14, z15⟩ := hW; go_simp; exact IntWalk.i64_in _ (by omega)) | (obtain ⟨z0, z1, z2, z3, z4, z5, z6, z7, z8, z9, z10, z11, z12, z13, z14, z15⟩ := hW; go_simp; simp [*]; done)⟩) hS_3 ?_
                    try simp only [Act.put, List.setIfInBounds_toArray, List.set_cons_zero, List.set_cons_succ]
                    refine wpAnyK_oneW (i := 11) rfl (by kernel_rfl) (by kernel_rfl) (fun K hK => ?_)
                    go_simp
                    refine (HSY.out _ hb_3 Ay cy htv_2_3 Aq cq htw_2_3).mono ?_
                    rintro e u_4 ⟨rfl, hq_4⟩
                    have hb_4 := hb_3.trans (hq_4.mono hb_3.size)
                    have ht0_2_3_4 := EIn.below _ ht0_2_3 hq_4 (Nat.le_refl _)
                    have htu_2_3_4 := EIn.below _ htu_2_3 hq_4 (Nat.le_refl _)
                    have htv_2_3_4 := EIn.below _ htv_2_3 hq_4 (Nat.le_refl _)
                    have htw_2_3_4 := EIn.below _ htw_2_3 hq_4 (Nat.le_refl _)
                    have hT_2_3_4 := EIn.below _ hT_2_3 hq_4 (Nat.le_refl _)
                    clear ht0_2_3 htu_2_3 htv_2_3 htw_2_3 hT_2_3
                    refine hK.out _ _ (fun _ => HSS.out _ hb_4) (fun hS9 => ?_)
                    have hS_4 := hS9 (by decide)
                    clear hK K hS9
                    try simp only [Act.put, List.setIfInBounds_toArray, List.set_cons_zero, List.set_cons_succ]
                    refine wpAnyK_take (i := 12) (oi := ⟨some 89, _, _, _, _, _⟩) (v := .bool true) rfl (by kernel_rfl) (by kernel_rfl) (by kernel_rfl) (by kernel_rfl) (fun _ _ _ h => h) (.inl ⟨by kernel_rfl, fun W hW => by kernel_rfl⟩) hS_4 ?_
                    try simp only [Act.put, List.setIfInBounds_toArray, List.set_cons_zero, List.set_cons_succ]
                    refine wpAnyK_take (i := 13) (oi := ⟨some 90, _, _, _, _, _⟩) (v := .bool true) rfl (by kernel_rfl) (by kernel_rfl) (by kernel_rfl) (by kernel_rfl) (fun _ _ _ h => h) (.inl ⟨by kernel_rfl, fun W hW => by kernel_rfl⟩) hS_4 ?_
                    try simp only [Act.put, List.setIfInBounds_toArray, List.set_cons_zero, List.set_cons_succ]
                    refine wpAnyK_take (i := 14) (oi := ⟨some 91, _, _, _, _, _⟩) (v := .int .i64 f) rfl (by kernel_rfl) (by kernel_rfl) (by kernel_rfl) (by kernel_rfl) (fun _ _ _ h => h) (.inl ⟨by kernel_rfl, fun W hW => by kernel_rfl⟩) hS_4 ?_
                    try simp only [Act.put, List.setIfInBounds_toArray, List.set_cons_zero, List.set_cons_succ]
                    refine wpAnyK_take (i := 15) (oi := ⟨some 92, _, _, _, _, _⟩) (v := .bool true) rfl (by kernel_rfl) (by kernel_rfl) (by kernel_rfl) (by kernel_rfl) (fun _ _ _ h => h) (.inl ⟨by kernel_rfl, fun W hW => by first | (obtain ⟨z0, z1, z2, z3, z4, z5, z6, z7, z8, z9, z10, z11, z12, z13, z14, z15⟩ := hW; go_simp; done) | (obtain ⟨z0, z1, z2, z3, z4, z5, z6, z7, z8, z9, z10, z11, z12, z13, z14, z15⟩ := hW; go_simp; omega) | (obtain ⟨z0, z1, z2, z3, z4, z5, z6, z7, z8, z9, z10, z11, z12, z13, z14, z15⟩ := hW; go_simp; exact IntWalk.i64_in _ (by omega)) | (obtain ⟨z0, z1, z2, z3, z4, z5, z6, z7, z8, z9, z10, z11, z12, z13, z14, z15⟩ := hW; go_simp; simp [*]; done)⟩) hS_4 ?_
                    try simp only [Act.put, List.setIfInBounds_toArray, List.set_cons_zero, List.set_cons_succ]
                    refine wpAnyK_take (i := 16) (oi := ⟨some 93, _, _, _, _, _⟩) (v := .bool true) rfl (by kernel_rfl) (by kernel_rfl) (by kernel_rfl) (by kernel_rfl) (fun _ _ _ h => h) (.inl ⟨by kernel_rfl, fun W hW => by kernel_rfl⟩) hS_4 ?_
                    try simp only [Act.put, List.setIfInBounds_toArray, List.set_cons_zero, List.set_cons_succ]
                    refine wpAnyK_take (i := 17) (oi := ⟨some 94, _, _, _, _, _⟩) (v := undef) rfl (by kernel_rfl) (by kernel_rfl) (by kernel_rfl) (by kernel_rfl) (fun _ _ _ h => h) (.inr ⟨by kernel_rfl, rfl⟩) hS_4 ?_
                    try simp only [Act.put, List.setIfInBounds_toArray, List.set_cons_zero, List.set_cons_succ]
                    refine wpAnyK_take (i := 18) (oi := ⟨some 95, _, _, _, _, _⟩) (v := undef) rfl (by kernel_rfl) (by kernel_rfl) (by kernel_rfl) (by kernel_rfl) (fun _ _ _ h => h) (.inr ⟨by kernel_rfl, rfl⟩) hS_4 ?_
                    try simp only [Act.put, List.setIfInBounds_toArray, List.set_cons_zero, List.set_cons_succ]
                    refine wpAnyK_take (i := 19) (oi := ⟨some 96, _, _, _, _, _⟩) (v := undef) rfl (by kernel_rfl) (by kernel_rfl) (by kernel_rfl) (by kernel_rfl) (fun _ _ _ h => h) (.inr ⟨by kernel_rfl, rfl⟩) hS_4 ?_
                    try simp only [Act.put, List.setIfInBounds_toArray, List.set_cons_zero, List.set_cons_succ]
                    refine wpAnyK_take (i := 20) (oi := ⟨some 97, _, _, _, _, _⟩) (v := undef) rfl (by kernel_rfl) (by kernel_rfl) (by kernel_rfl) (by kernel_rfl) (fun _ _ _ h => h) (.inr ⟨by kernel_rfl, rfl⟩) hS_4 ?_
                    try simp only [Act.put, List.setIfInBounds_toArray, List.set_cons_zero, List.set_cons_succ]
                    refine wpAnyK_take (i := 21) (oi := ⟨some 98, _, _, _, _, _⟩) (v := undef) rfl (by kernel_rfl) (by kernel_rfl) (by kernel_rfl) (by kernel_rfl) (fun _ _ _ h => h) (.inr ⟨by kernel_rfl, rfl⟩) hS_4 ?_
                    try simp only [Act.put, List.setIfInBounds_toArray, List.set_cons_zero, List.set_cons_succ]
                    refine wpAnyK_take (i := 22) (oi := ⟨some 99, _, _, _, _, _⟩) (v := undef) rfl (by kernel_rfl) (by kernel_rfl) (by kernel_rfl) (by kernel_rfl) (fun _ _ _ h => h) (.inr ⟨by kernel_rfl, rfl⟩) hS_4 ?_
                    try simp only [Act.put, List.setIfInBounds_toArray, List.set_cons_zero, List.set_cons_succ]
                    refine wpAnyK_take (i := 23) (oi := ⟨some 100, _, _, _, _, _⟩) (v := .bool true) rfl (by kernel_rfl) (by kernel_rfl) (by kernel_rfl) (by kernel_rfl) (fun _ _ _ h => h) (.inl ⟨by kernel_rfl, fun W hW => by kernel_rfl⟩) hS_4 ?_
                    try simp only [Act.put, List.setIfInBounds_toArray, List.set_cons_zero, List.set_cons_succ]
                    refine wpAnyK_take (i := 24) (oi := ⟨some 101, _, _, _, _, _⟩) (v := .bool true) rfl (by kernel_rfl) (by kernel_rfl) (by kernel_rfl) (by kernel_rfl) (fun _ _ _ h => h) (.inl ⟨by kernel_rfl, fun W hW => by kernel_rfl⟩) hS_4 ?_
                    try simp only [Act.put, List.setIfInBounds_toArray, List.set_cons_zero, List.set_cons_succ]
                    refine wpAnyK_take (i := 25) (oi := ⟨some 102, _, _, _, _, _⟩) (v := .bool true) rfl (by kernel_rfl) (by kernel_rfl) (by kernel_rfl) (by kernel_rfl) (fun _ _ _ h => h) (.inl ⟨by kernel_rfl, fun W hW => by kernel_rfl⟩) hS_4 ?_
                    try simp only [Act.put, List.setIfInBounds_toArray, List.set_cons_zero, List.set_cons_succ]
                    refine wpAnyK_take (i := 26) (oi := ⟨some 103, _, _, _, _, _⟩) (v := .agg #[.int .i64 xk, .int .i64 xn, .string xz, .slice Ax xl.length (capF xl.length cx)]) rfl (by kernel_rfl) (by kernel_rfl) (by kernel_rfl) (by kernel_rfl) (fun _ _ _ h => h) (.inl ⟨by kernel_rfl, fun W hW => by first | (obtain ⟨z0, z1, z2, z3, z4, z5, z6, z7, z8, z9, z10, z11, z12, z13, z14, z15⟩ := hW; go_simp; done) | (obtain ⟨z0, z1, z2, z3, z4, z5, z6, z7, z8, z9, z10, z11, z12, z13, z14, z15⟩ := hW; go_simp; omega) | (obtain ⟨z0, z1, z2, z3, z4, z5, z6, z7, z8, z9, z10, z11, z12, z13, z14, z15⟩ := hW; go_simp; exact IntWalk.i64_in _ (by omega)) | (obtain ⟨z0, z1, z2, z3, z4, z5, z6, z7, z8, z9, z10, z11, z12, z13, z14, z15⟩ := hW; go_simp; simp [*]; done)⟩) hS_4 ?_
                    try simp only [Act.put, List.setIfInBounds_toArray, List.set_cons_zero, List.set_cons_succ]
                    refine wpAnyK_take (i := 28) (oi := ⟨some 105, _, _, _, _, _⟩) (v := .agg #[.int .i64 tk, .int .i64 tn, .string tz, .slice A0 tl.length (capF tl.length c0)]) rfl (by kernel_rfl) (by kernel_rfl) (by kernel_rfl) (by kernel_rfl) (fun _ _ _ h => h) (.inl ⟨by kernel_rfl, fun W hW => by first | (obtain ⟨z0, z1, z2, z3, z4, z5, z6, z7, z8, z9, z10, z11, z12, z13, z14, z15⟩ := hW; go_simp; done) | (obtain ⟨z0, z1, z2, z3, z4, z5, z6, z7, z8, z9, z10, z11, z12, z13, z14, z15⟩ := hW; go_simp; omega) | (obtain ⟨z0, z1, z2, z3, z4, z5, z6, z7, z8, z9, z10, z11, z12, z13, z14, z15⟩ := hW; go_simp; exact IntWalk.i64_in _ (by omega)) | (obtain ⟨z0, z1, z2, z3, z4, z5, z6, z7, z8, z9, z10, z11, z12, z13, z14, z15⟩ := hW; go_simp; simp [*]; done)⟩) hS_4 ?_
                    try simp only [Act.put, List.setIfInBounds_toArray, List.set_cons_zero, List.set_cons_succ]
                    refine wpAnyK_oneW (i := 27) rfl (by kernel_rfl) (by kernel_rfl) (fun K hK => ?_)
                    go_simp
                    refine (HZX.out _ hb_4 Ax cx htu_2_3_4).mono ?_
                    rintro e u_5 ⟨rfl, hq_5⟩
                    have hb_5 := hb_4.trans (hq_5.mono hb_4.size)
                    have ht0_2_3_4_5 := EIn.below _ ht0_2_3_4 hq_5 (Nat.le_refl _)
                    have htu_2_3_4_5 := EIn.below _ htu_2_3_4 hq_5 (Nat.le_refl _)
                    have htv_2_3_4_5 := EIn.below _ htv_2_3_4 hq_5 (Nat.le_refl _)
                    have htw_2_3_4_5 := EIn.below _ htw_2_3_4 hq_5 (Nat.le_refl _)
                    have hT_2_3_4_5 := EIn.below _ hT_2_3_4 hq_5 (Nat.le_refl _)
                    clear ht0_2_3_4 htu_2_3_4 htv_2_3_4 htw_2_3_4 hT_2_3_4
                    refine hK.out _ _ (fun _ => HSS.out _ hb_5) (fun hS9 => ?_)
                    have hS_5 := hS9 (by decide)
                    clear hK K hS9
                    try simp only [Act.put, List.setIfInBounds_toArray, List.set_cons_zero, List.set_cons_succ]
                    refine wpAnyK_oneW (i := 29) rfl (by kernel_rfl) (by kernel_rfl) (fun K hK => ?_)
                    go_simp
                    refine (HZT.out _ hb_5 A0 c0 ht0_2_3_4_5).mono ?_
                    rintro e u_6 ⟨rfl, hq_6⟩
                    have hb_6 := hb_5.trans (hq_6.mono hb_5.size)
                    have ht0_2_3_4_5_6 := EIn.below _ ht0_2_3_4_5 hq_6 (Nat.le_refl _)
                    have htu_2_3_4_5_6 := EIn.below _ htu_2_3_4_5 hq_6 (Nat.le_refl _)
                    have htv_2_3_4_5_6 := EIn.below _ htv_2_3_4_5 hq_6 (Nat.le_refl _)
                    have htw_2_3_4_5_6 := EIn.below _ htw_2_3_4_5 hq_6 (Nat.le_refl _)
                    have hT_2_3_4_5_6 := EIn.below _ hT_2_3_4_5 hq_6 (Nat.le_refl _)
                    clear ht0_2_3_4_5 htu_2_3_4_5 htv_2_3_4_5 htw_2_3_4_5 hT_2_3_4_5
                    refine hK.out _ _ (fun _ => HSS.out _ hb_6) (fun hS9 => ?_)
                    have hS_6 := hS9 (by decide)
                    clear hK K hS9
                    try simp only [Act.put, List.setIfInBounds_toArray, List.set_cons_zero, List.set_cons_succ]
                    refine wpAnyK_take (i := 30) (oi := ⟨some 107, _, _, _, _, _⟩) (v := .bool true) rfl (by kernel_rfl) (by kernel_rfl) (by kernel_rfl) (by kernel_rfl) (fun _ _ _ h => h) (.inl ⟨by kernel_rfl, fun W hW => by first | (obtain ⟨z0, z1, z2, z3, z4, z5, z6, z7, z8, z9, z10, z11, z12, z13, z14, z15⟩ := hW; go_simp; done) | (obtain ⟨z0, z1, z2, z3, z4, z5, z6, z7, z8, z9, z10, z11, z12, z13, z14, z15⟩ := hW; go_simp; omega) | (obtain ⟨z0, z1, z2, z3, z4, z5, z6, z7, z8, z9, z10, z11, z12, z13, z14, z15⟩ := hW; go_simp; exact IntWalk.i64_in _ (by omega)) | (obtain ⟨z0, z1, z2, z3, z4, z5, z6, z7, z8, z9, z10, z11, z12, z13, z14, z15⟩ := hW; go_simp; simp [*]; done)⟩) hS_6 ?_
                    try simp only [Act.put, List.setIfInBounds_toArray, List.set_cons_zero, List.set_cons_succ]
                    refine wpAnyK_take (i := 31) (oi := ⟨some 108, _, _, _, _, _⟩) (v := .bool true) rfl (by kernel_rfl) (by kernel_rfl) (by kernel_rfl) (by kernel_rfl) (fun _ _ _ h => h) (.inl ⟨by kernel_rfl, fun W hW => by kernel_rfl⟩) hS_6 ?_
                    try simp only [Act.put, List.setIfInBounds_toArray, List.set_cons_zero, List.set_cons_succ]
                    refine wpAnyK_one (i := 32) rfl rfl (by kernel_rfl) (fun K hK => ?_)
                    go_simp
                    refine hK.out _ _ (fun h => absurd rfl h) (fun _ => ?_)
                    clear hK K
                    try simp only [Act.put, List.setIfInBounds_toArray, List.set_cons_zero, List.set_cons_succ]
                    refine wpAnyK_done (by kernel_rfl) ?_ _
                    go_wp2_with fail
                    go_ret
                    exact ⟨rfl, HB.out.trans (hb_6.mono HB.out.size)⟩
                  · have HSE : sameE (.node mk mn mz ml) (.node tk tn tz tl) = true := by rw [HMf.out (by omega)]; exact sameE_refl _
                    have HST : Hid (∀ X, Below V.heap.size V X → ∀ (A : Option Addr) (c : Nat) (hA : EIn X Any (.node mk mn mz ml) A) (B : Option Addr) (d : Nat) (hB : EIn X Any (.node tk tn tz tl) B), Calls Try.prog 12 #[.agg #[.int .i64 mk, .int .i64 mn, .string mz, .slice A ml.length (capF ml.length c)], .agg #[.int .i64 tk, .int .i64 tn, .string tz, .slice B tl.length (capF tl.length d)]] X fun e w' => e = .returned (.bool true) ∧ Below X.heap.size X w') := Lib.hid fun X hX A c hA B d hB => by
                      have h := rsame6_any (depthE (.node mk mn mz ml)) (.node mk mn mz ml) (.node tk tn tz tl) A B c d X (Nat.le_refl _) hA hB
                      rw [HSE] at h
                      exact h
                    clear HSE
                    have hb_1 : Below V.heap.size V V := Below.refl _ _
                    refine wp_region_K (S := (fun V' : World => (V'.cell? ⟨g0, 0, none⟩ = some (.int .i64 tk) ∧ V'.cell? ⟨g0, 1, none⟩ = some (.int .i64 tn) ∧ V'.cell? ⟨g0, 2, none⟩ = some (.string tz) ∧ V'.cell? ⟨g0, 3, none⟩ = some (.slice A0 tl.length (capF tl.length c0)) ∧ V'.cell? ⟨gu, 0, none⟩ = some (.int .i64 xk) ∧ V'.cell? ⟨gu, 1, none⟩ = some (.int .i64 xn) ∧ V'.cell? ⟨gu, 2, none⟩ = some (.string xz) ∧ V'.cell? ⟨gu, 3, none⟩ = some (.slice Ax xl.length (capF xl.length cx)) ∧ V'.cell? ⟨gv, 0, none⟩ = some (.int .i64 yk) ∧ V'.cell? ⟨gv, 1, none⟩ = some (.int .i64 yn) ∧ V'.cell? ⟨gv, 2, none⟩ = some (.string yz) ∧ V'.cell? ⟨gv, 3, none⟩ = some (.slice Ay yl.length (capF yl.length cy)) ∧ V'.cell? ⟨gq, 0, none⟩ = some (.int .i64 yk) ∧ V'.cell? ⟨gq, 1, none⟩ = some (.int .i64 yn) ∧ V'.cell? ⟨gq, 2, none⟩ = some (.string yz) ∧ V'.cell? ⟨gq, 3, none⟩ = some (.slice Aq yl.length (capF yl.length cq))))) 32 rfl (HSS.out _ hb_1.drew) (fun hSs => ?_)
                    change wpAnyK _ _ _ _ _ _ 33 (Array.replicate 33 false) _ _
                    refine wpAnyK_take (i := 0) (oi := ⟨some 77, _, _, _, _, _⟩) (v := .agg #[.int .i64 xk, .int .i64 xn, .string xz, .slice Ax xl.length (capF xl.length cx)]) rfl (by kernel_rfl) (by kernel_rfl) (by kernel_rfl) (by kernel_rfl) (fun _ _ _ h => h) (.inl ⟨by kernel_rfl, fun W hW => by first | (obtain ⟨z0, z1, z2, z3, z4, z5, z6, z7, z8, z9, z10, z11, z12, z13, z14, z15⟩ := hW; go_simp; done) | (obtain ⟨z0, z1, z2, z3, z4, z5, z6, z7, z8, z9, z10, z11, z12, z13, z14, z15⟩ := hW; go_simp; omega) | (obtain ⟨z0, z1, z2, z3, z4, z5, z6, z7, z8, z9, z10, z11, z12, z13, z14, z15⟩ := hW; go_simp; exact IntWalk.i64_in _ (by omega)) | (obtain ⟨z0, z1, z2, z3, z4, z5, z6, z7, z8, z9, z10, z11, z12, z13, z14, z15⟩ := hW; go_simp; simp [*]; done)⟩) hSs ?_
                    try simp only [Act.put, List.setIfInBounds_toArray, List.set_cons_zero, List.set_cons_succ]
                    refine wpAnyK_take (i := 1) (oi := ⟨some 78, _, _, _, _, _⟩) (v := .agg #[.int .i64 tk, .int .i64 tn, .string tz, .slice A0 tl.length (capF tl.length c0)]) rfl (by kernel_rfl) (by kernel_rfl) (by kernel_rfl) (by kernel_rfl) (fun _ _ _ h => h) (.inl ⟨by kernel_rfl, fun W hW => by first | (obtain ⟨z0, z1, z2, z3, z4, z5, z6, z7, z8, z9, z10, z11, z12, z13, z14, z15⟩ := hW; go_simp; done) | (obtain ⟨z0, z1, z2, z3, z4, z5, z6, z7, z8, z9, z10, z11, z12, z13, z14, z15⟩ := hW; go_simp; omega) | (obtain ⟨z0, z1, z2, z3, z4, z5, z6, z7, z8, z9, z10, z11, z12, z13, z14, z15⟩ := hW; go_simp; exact IntWalk.i64_in _ (by omega)) | (obtain ⟨z0, z1, z2, z3, z4, z5, z6, z7, z8, z9, z10, z11, z12, z13, z14, z15⟩ := hW; go_simp; simp [*]; done)⟩) hSs ?_
                    try simp only [Act.put, List.setIfInBounds_toArray, List.set_cons_zero, List.set_cons_succ]
                    refine wpAnyK_take (i := 2) (oi := ⟨some 79, _, _, _, _, _⟩) (v := .int .i64 a) rfl (by kernel_rfl) (by kernel_rfl) (by kernel_rfl) (by kernel_rfl) (fun _ _ _ h => h) (.inl ⟨by kernel_rfl, fun W hW => by kernel_rfl⟩) hSs ?_
                    try simp only [Act.put, List.setIfInBounds_toArray, List.set_cons_zero, List.set_cons_succ]
                    refine wpAnyK_take (i := 3) (oi := ⟨some 80, _, _, _, _, _⟩) (v := .int .i64 b) rfl (by kernel_rfl) (by kernel_rfl) (by kernel_rfl) (by kernel_rfl) (fun _ _ _ h => h) (.inl ⟨by kernel_rfl, fun W hW => by kernel_rfl⟩) hSs ?_
                    try simp only [Act.put, List.setIfInBounds_toArray, List.set_cons_zero, List.set_cons_succ]
                    refine wpAnyK_take (i := 4) (oi := ⟨some 81, _, _, _, _, _⟩) (v := .int .i64 (a + b)) rfl (by kernel_rfl) (by kernel_rfl) (by kernel_rfl) (by kernel_rfl) (fun _ _ _ h => h) (.inl ⟨by kernel_rfl, fun W hW => by first | (obtain ⟨z0, z1, z2, z3, z4, z5, z6, z7, z8, z9, z10, z11, z12, z13, z14, z15⟩ := hW; go_simp; done) | (obtain ⟨z0, z1, z2, z3, z4, z5, z6, z7, z8, z9, z10, z11, z12, z13, z14, z15⟩ := hW; go_simp; omega) | (obtain ⟨z0, z1, z2, z3, z4, z5, z6, z7, z8, z9, z10, z11, z12, z13, z14, z15⟩ := hW; go_simp; exact IntWalk.i64_in _ (by omega)) | (obtain ⟨z0, z1, z2, z3, z4, z5, z6, z7, z8, z9, z10, z11, z12, z13, z14, z15⟩ := hW; go_simp; simp [*]; done)⟩) hSs ?_
                    try simp only [Act.put, List.setIfInBounds_toArray, List.set_cons_zero, List.set_cons_succ]
                    refine wpAnyK_take (i := 5) (oi := ⟨some 82, _, _, _, _, _⟩) (v := .int .i64 f) rfl (by kernel_rfl) (by kernel_rfl) (by kernel_rfl) (by kernel_rfl) (fun _ _ _ h => h) (.inl ⟨by kernel_rfl, fun W hW => by kernel_rfl⟩) hSs ?_
                    try simp only [Act.put, List.setIfInBounds_toArray, List.set_cons_zero, List.set_cons_succ]
                    refine wpAnyK_one (i := 6) rfl rfl (by kernel_rfl) (fun K hK => ?_)
                    go_simp
                    refine (HUP.out _ (hb_1.drew) A0 c0 (EIn.below _ ht0 (Below.refl _ _).drew (Nat.le_refl _))).mono ?_
                    rintro e u_2 ⟨A_2, c_2, rfl, hT_2, hq_2⟩
                    have hb_2 := (hb_1.drew).trans (hq_2.mono (hb_1.drew).size)
                    have ht0_2 := EIn.below _ (EIn.below _ ht0 (Below.refl _ _).drew (Nat.le_refl _)) hq_2 (Nat.le_refl _)
                    have htu_2 := EIn.below _ (EIn.below _ htu (Below.refl _ _).drew (Nat.le_refl _)) hq_2 (Nat.le_refl _)
                    have htv_2 := EIn.below _ (EIn.below _ htv (Below.refl _ _).drew (Nat.le_refl _)) hq_2 (Nat.le_refl _)
                    have htw_2 := EIn.below _ (EIn.below _ htw (Below.refl _ _).drew (Nat.le_refl _)) hq_2 (Nat.le_refl _)
                    clear ht0 htu htv htw
                    refine hK.out _ _ (fun _ => HSS.out _ hb_2) (fun hS9 => ?_)
                    have hS_2 := hS9 (by decide)
                    clear hK K hS9
                    try simp only [Act.put, List.setIfInBounds_toArray, List.set_cons_zero, List.set_cons_succ]
                    refine wpAnyK_one (i := 7) rfl rfl (by kernel_rfl) (fun K hK => ?_)
                    go_simp
                    refine (HSX.out _ hb_2 Ax cx htu_2 A_2 c_2 hT_2).mono ?_
                    rintro e u_3 ⟨rfl, hq_3⟩
                    have hb_3 := hb_2.trans (hq_3.mono hb_2.size)
                    have ht0_2_3 := EIn.below _ ht0_2 hq_3 (Nat.le_refl _)
                    have htu_2_3 := EIn.below _ htu_2 hq_3 (Nat.le_refl _)
                    have htv_2_3 := EIn.below _ htv_2 hq_3 (Nat.le_refl _)
                    have htw_2_3 := EIn.below _ htw_2 hq_3 (Nat.le_refl _)
                    have hT_2_3 := EIn.below _ hT_2 hq_3 (Nat.le_refl _)
                    clear ht0_2 htu_2 htv_2 htw_2 hT_2
                    refine hK.out _ _ (fun _ => HSS.out _ hb_3) (fun hS9 => ?_)
                    have hS_3 := hS9 (by decide)
                    clear hK K hS9
                    try simp only [Act.put, List.setIfInBounds_toArray, List.set_cons_zero, List.set_cons_succ]
                    refine wpAnyK_take (i := 8) (oi := ⟨some 85, _, _, _, _, _⟩) (v := .bool true) rfl (by kernel_rfl) (by kernel_rfl) (by kernel_rfl) (by kernel_rfl) (fun _ _ _ h => h) (.inl ⟨by kernel_rfl, fun W hW => by kernel_rfl⟩) hS_3 ?_
                    try simp only [Act.put, List.setIfInBounds_toArray, List.set_cons_zero, List.set_cons_succ]
                    refine wpAnyK_take (i := 9) (oi := ⟨some 86, _, _, _, _, _⟩) (v := .agg #[.int .i64 yk, .int .i64 yn, .string yz, .slice Ay yl.length (capF yl.length cy)]) rfl (by kernel_rfl) (by kernel_rfl) (by kernel_rfl) (by kernel_rfl) (fun _ _ _ h => h) (.inl ⟨by kernel_rfl, fun W hW => by first | (obtain ⟨z0, z1, z2, z3, z4, z5, z6, z7, z8, z9, z10, z11, z12, z13, z14, z15⟩ := hW; go_simp; done) | (obtain ⟨z0, z1, z2, z3, z4, z5, z6, z7, z8, z9, z10, z11, z12, z13, z14, z15⟩ := hW; go_simp; omega) | (obtain ⟨z0, z1, z2, z3, z4, z5, z6, z7, z8, z9, z10, z11, z12, z13, z14, z15⟩ := hW; go_simp; exact IntWalk.i64_in _ (by omega)) | (obtain ⟨z0, z1, z2, z3, z4, z5, z6, z7, z8, z9, z10, z11, z12, z13, z14, z15⟩ := hW; go_simp; simp [*]; done)⟩) hS_3 ?_
                    try simp only [Act.put, List.setIfInBounds_toArray, List.set_cons_zero, List.set_cons_succ]
                    refine wpAnyK_take (i := 10) (oi := ⟨some 87, _, _, _, _, _⟩) (v := .agg #[.int .i64 yk, .int .i64 yn, .string yz, .slice Aq yl.length (capF yl.length cq)]) rfl (by kernel_rfl) (by kernel_rfl) (by kernel_rfl) (by kernel_rfl) (fun _ _ _ h => h) (.inl ⟨by kernel_rfl, fun W hW => by first | (obtain ⟨z0, z1, z2, z3, z4, z5, z6, z7, z8, z9, z10, z11, z12, z13, z14, z15⟩ := hW; go_simp; done) | (obtain ⟨z0, z1, z2, z3, z4, z5, z6, z7, z8, z9, z10, z11, z12, z13, z14, z15⟩ := hW; go_simp; omega) | (obtain ⟨z0, z1, z2, z3, z4, z5, z6, z7, z8, z9, z10, z11, z12, z13, z14, z15⟩ := hW; go_simp; exact IntWalk.i64_in _ (by omega)) | (obtain ⟨z0, z1, z2, z3, z4, z5, z6, z7, z8, z9, z10, z11, z12, z13, z14, z15⟩ := hW; go_simp; simp [*]; done)⟩) hS_3 ?_
                    try simp only [Act.put, List.setIfInBounds_toArray, List.set_cons_zero, List.set_cons_succ]
                    refine wpAnyK_oneW (i := 11) rfl (by kernel_rfl) (by kernel_rfl) (fun K hK => ?_)
                    go_simp
                    refine (HSY.out _ hb_3 Ay cy htv_2_3 Aq cq htw_2_3).mono ?_
                    rintro e u_4 ⟨rfl, hq_4⟩
                    have hb_4 := hb_3.trans (hq_4.mono hb_3.size)
                    have ht0_2_3_4 := EIn.below _ ht0_2_3 hq_4 (Nat.le_refl _)
                    have htu_2_3_4 := EIn.below _ htu_2_3 hq_4 (Nat.le_refl _)
                    have htv_2_3_4 := EIn.below _ htv_2_3 hq_4 (Nat.le_refl _)
                    have htw_2_3_4 := EIn.below _ htw_2_3 hq_4 (Nat.le_refl _)
                    have hT_2_3_4 := EIn.below _ hT_2_3 hq_4 (Nat.le_refl _)
                    clear ht0_2_3 htu_2_3 htv_2_3 htw_2_3 hT_2_3
                    refine hK.out _ _ (fun _ => HSS.out _ hb_4) (fun hS9 => ?_)
                    have hS_4 := hS9 (by decide)
                    clear hK K hS9
                    try simp only [Act.put, List.setIfInBounds_toArray, List.set_cons_zero, List.set_cons_succ]
                    refine wpAnyK_take (i := 12) (oi := ⟨some 89, _, _, _, _, _⟩) (v := .bool true) rfl (by kernel_rfl) (by kernel_rfl) (by kernel_rfl) (by kernel_rfl) (fun _ _ _ h => h) (.inl ⟨by kernel_rfl, fun W hW => by kernel_rfl⟩) hS_4 ?_
                    try simp only [Act.put, List.setIfInBounds_toArray, List.set_cons_zero, List.set_cons_succ]
                    refine wpAnyK_take (i := 13) (oi := ⟨some 90, _, _, _, _, _⟩) (v := .bool true) rfl (by kernel_rfl) (by kernel_rfl) (by kernel_rfl) (by kernel_rfl) (fun _ _ _ h => h) (.inl ⟨by kernel_rfl, fun W hW => by kernel_rfl⟩) hS_4 ?_
                    try simp only [Act.put, List.setIfInBounds_toArray, List.set_cons_zero, List.set_cons_succ]
                    refine wpAnyK_take (i := 14) (oi := ⟨some 91, _, _, _, _, _⟩) (v := .int .i64 f) rfl (by kernel_rfl) (by kernel_rfl) (by kernel_rfl) (by kernel_rfl) (fun _ _ _ h => h) (.inl ⟨by kernel_rfl, fun W hW => by kernel_rfl⟩) hS_4 ?_
                    try simp only [Act.put, List.setIfInBounds_toArray, List.set_cons_zero, List.set_cons_succ]
                    refine wpAnyK_take (i := 15) (oi := ⟨some 92, _, _, _, _, _⟩) (v := .bool false) rfl (by kernel_rfl) (by kernel_rfl) (by kernel_rfl) (by kernel_rfl) (fun _ _ _ h => h) (.inl ⟨by kernel_rfl, fun W hW => by first | (obtain ⟨z0, z1, z2, z3, z4, z5, z6, z7, z8, z9, z10, z11, z12, z13, z14, z15⟩ := hW; go_simp; done) | (obtain ⟨z0, z1, z2, z3, z4, z5, z6, z7, z8, z9, z10, z11, z12, z13, z14, z15⟩ := hW; go_simp; omega) | (obtain ⟨z0, z1, z2, z3, z4, z5, z6, z7, z8, z9, z10, z11, z12, z13, z14, z15⟩ := hW; go_simp; exact IntWalk.i64_in _ (by omega)) | (obtain ⟨z0, z1, z2, z3, z4, z5, z6, z7, z8, z9, z10, z11, z12, z13, z14, z15⟩ := hW; go_simp; simp [*]; done)⟩) hS_4 ?_
                    try simp only [Act.put, List.setIfInBounds_toArray, List.set_cons_zero, List.set_cons_succ]
                    refine wpAnyK_take (i := 16) (oi := ⟨some 93, _, _, _, _, _⟩) (v := .bool false) rfl (by kernel_rfl) (by kernel_rfl) (by kernel_rfl) (by kernel_rfl) (fun _ _ _ h => h) (.inl ⟨by kernel_rfl, fun W hW => by kernel_rfl⟩) hS_4 ?_
                    try simp only [Act.put, List.setIfInBounds_toArray, List.set_cons_zero, List.set_cons_succ]
                    refine wpAnyK_take (i := 17) (oi := ⟨some 94, _, _, _, _, _⟩) (v := .agg #[.int .i64 tk, .int .i64 tn, .string tz, .slice A0 tl.length (capF tl.length c0)]) rfl (by kernel_rfl) (by kernel_rfl) (by kernel_rfl) (by kernel_rfl) (fun _ _ _ h => h) (.inl ⟨by kernel_rfl, fun W hW => by first | (obtain ⟨z0, z1, z2, z3, z4, z5, z6, z7, z8, z9, z10, z11, z12, z13, z14, z15⟩ := hW; go_simp; done) | (obtain ⟨z0, z1, z2, z3, z4, z5, z6, z7, z8, z9, z10, z11, z12, z13, z14, z15⟩ := hW; go_simp; omega) | (obtain ⟨z0, z1, z2, z3, z4, z5, z6, z7, z8, z9, z10, z11, z12, z13, z14, z15⟩ := hW; go_simp; exact IntWalk.i64_in _ (by omega)) | (obtain ⟨z0, z1, z2, z3, z4, z5, z6, z7, z8, z9, z10, z11, z12, z13, z14, z15⟩ := hW; go_simp; simp [*]; done)⟩) hS_4 ?_
                    try simp only [Act.put, List.setIfInBounds_toArray, List.set_cons_zero, List.set_cons_succ]
                    refine wpAnyK_take (i := 18) (oi := ⟨some 95, _, _, _, _, _⟩) (v := .int .i64 a) rfl (by kernel_rfl) (by kernel_rfl) (by kernel_rfl) (by kernel_rfl) (fun _ _ _ h => h) (.inl ⟨by kernel_rfl, fun W hW => by kernel_rfl⟩) hS_4 ?_
                    try simp only [Act.put, List.setIfInBounds_toArray, List.set_cons_zero, List.set_cons_succ]
                    refine wpAnyK_take (i := 19) (oi := ⟨some 96, _, _, _, _, _⟩) (v := .int .i64 f) rfl (by kernel_rfl) (by kernel_rfl) (by kernel_rfl) (by kernel_rfl) (fun _ _ _ h => h) (.inl ⟨by kernel_rfl, fun W hW => by kernel_rfl⟩) hS_4 ?_
                    try simp only [Act.put, List.setIfInBounds_toArray, List.set_cons_zero, List.set_cons_succ]
                    refine wpAnyK_take (i := 21) (oi := ⟨some 98, _, _, _, _, _⟩) (v := .agg #[.int .i64 tk, .int .i64 tn, .string tz, .slice A0 tl.length (capF tl.length c0)]) rfl (by kernel_rfl) (by kernel_rfl) (by kernel_rfl) (by kernel_rfl) (fun _ _ _ h => h) (.inl ⟨by kernel_rfl, fun W hW => by first | (obtain ⟨z0, z1, z2, z3, z4, z5, z6, z7, z8, z9, z10, z11, z12, z13, z14, z15⟩ := hW; go_simp; done) | (obtain ⟨z0, z1, z2, z3, z4, z5, z6, z7, z8, z9, z10, z11, z12, z13, z14, z15⟩ := hW; go_simp; omega) | (obtain ⟨z0, z1, z2, z3, z4, z5, z6, z7, z8, z9, z10, z11, z12, z13, z14, z15⟩ := hW; go_simp; exact IntWalk.i64_in _ (by omega)) | (obtain ⟨z0, z1, z2, z3, z4, z5, z6, z7, z8, z9, z10, z11, z12, z13, z14, z15⟩ := hW; go_simp; simp [*]; done)⟩) hS_4 ?_
                    try simp only [Act.put, List.setIfInBounds_toArray, List.set_cons_zero, List.set_cons_succ]
                    refine wpAnyK_oneW (i := 20) rfl (by kernel_rfl) (by kernel_rfl) (fun K hK => ?_)
                    go_simp
                    refine (HUM.out _ hb_4 A0 c0 ht0_2_3_4).mono ?_
                    rintro e u_5 ⟨A_5, c_5, rfl, hT_5, hq_5⟩
                    have hb_5 := hb_4.trans (hq_5.mono hb_4.size)
                    have ht0_2_3_4_5 := EIn.below _ ht0_2_3_4 hq_5 (Nat.le_refl _)
                    have htu_2_3_4_5 := EIn.below _ htu_2_3_4 hq_5 (Nat.le_refl _)
                    have htv_2_3_4_5 := EIn.below _ htv_2_3_4 hq_5 (Nat.le_refl _)
                    have htw_2_3_4_5 := EIn.below _ htw_2_3_4 hq_5 (Nat.le_refl _)
                    have hT_2_3_4_5 := EIn.below _ hT_2_3_4 hq_5 (Nat.le_refl _)
                    clear ht0_2_3_4 htu_2_3_4 htv_2_3_4 htw_2_3_4 hT_2_3_4
                    refine hK.out _ _ (fun _ => HSS.out _ hb_5) (fun hS9 => ?_)
                    have hS_5 := hS9 (by decide)
                    clear hK K hS9
                    try simp only [Act.put, List.setIfInBounds_toArray, List.set_cons_zero, List.set_cons_succ]
                    refine wpAnyK_oneW (i := 22) rfl (by kernel_rfl) (by kernel_rfl) (fun K hK => ?_)
                    go_simp
                    refine (HST.out _ hb_5 A_5 c_5 hT_5 A0 c0 ht0_2_3_4_5).mono ?_
                    rintro e u_6 ⟨rfl, hq_6⟩
                    have hb_6 := hb_5.trans (hq_6.mono hb_5.size)
                    have ht0_2_3_4_5_6 := EIn.below _ ht0_2_3_4_5 hq_6 (Nat.le_refl _)
                    have htu_2_3_4_5_6 := EIn.below _ htu_2_3_4_5 hq_6 (Nat.le_refl _)
                    have htv_2_3_4_5_6 := EIn.below _ htv_2_3_4_5 hq_6 (Nat.le_refl _)
                    have htw_2_3_4_5_6 := EIn.below _ htw_2_3_4_5 hq_6 (Nat.le_refl _)
                    have hT_2_3_4_5_6 := EIn.below _ hT_2_3_4_5 hq_6 (Nat.le_refl _)
                    have hT_5_6 := EIn.below _ hT_5 hq_6 (Nat.le_refl _)
                    clear ht0_2_3_4_5 htu_2_3_4_5 htv_2_3_4_5 htw_2_3_4_5 hT_2_3_4_5 hT_5
                    refine hK.out _ _ (fun _ => HSS.out _ hb_6) (fun hS9 => ?_)
                    have hS_6 := hS9 (by decide)
                    clear hK K hS9
                    try simp only [Act.put, List.setIfInBounds_toArray, List.set_cons_zero, List.set_cons_succ]
                    refine wpAnyK_take (i := 23) (oi := ⟨some 100, _, _, _, _, _⟩) (v := .bool true) rfl (by kernel_rfl) (by kernel_rfl) (by kernel_rfl) (by kernel_rfl) (fun _ _ _ h => h) (.inl ⟨by kernel_rfl, fun W hW => by kernel_rfl⟩) hS_6 ?_
                    try simp only [Act.put, List.setIfInBounds_toArray, List.set_cons_zero, List.set_cons_succ]
                    refine wpAnyK_take (i := 24) (oi := ⟨some 101, _, _, _, _, _⟩) (v := .bool true) rfl (by kernel_rfl) (by kernel_rfl) (by kernel_rfl) (by kernel_rfl) (fun _ _ _ h => h) (.inl ⟨by kernel_rfl, fun W hW => by kernel_rfl⟩) hS_6 ?_
                    try simp only [Act.put, List.setIfInBounds_toArray, List.set_cons_zero, List.set_cons_succ]
                    refine wpAnyK_take (i := 25) (oi := ⟨some 102, _, _, _, _, _⟩) (v := .bool true) rfl (by kernel_rfl) (by kernel_rfl) (by kernel_rfl) (by kernel_rfl) (fun _ _ _ h => h) (.inl ⟨by kernel_rfl, fun W hW => by kernel_rfl⟩) hS_6 ?_
                    try simp only [Act.put, List.setIfInBounds_toArray, List.set_cons_zero, List.set_cons_succ]
                    refine wpAnyK_take (i := 26) (oi := ⟨some 103, _, _, _, _, _⟩) (v := .agg #[.int .i64 xk, .int .i64 xn, .string xz, .slice Ax xl.length (capF xl.length cx)]) rfl (by kernel_rfl) (by kernel_rfl) (by kernel_rfl) (by kernel_rfl) (fun _ _ _ h => h) (.inl ⟨by kernel_rfl, fun W hW => by first | (obtain ⟨z0, z1, z2, z3, z4, z5, z6, z7, z8, z9, z10, z11, z12, z13, z14, z15⟩ := hW; go_simp; done) | (obtain ⟨z0, z1, z2, z3, z4, z5, z6, z7, z8, z9, z10, z11, z12, z13, z14, z15⟩ := hW; go_simp; omega) | (obtain ⟨z0, z1, z2, z3, z4, z5, z6, z7, z8, z9, z10, z11, z12, z13, z14, z15⟩ := hW; go_simp; exact IntWalk.i64_in _ (by omega)) | (obtain ⟨z0, z1, z2, z3, z4, z5, z6, z7, z8, z9, z10, z11, z12, z13, z14, z15⟩ := hW; go_simp; simp [*]; done)⟩) hS_6 ?_
                    try simp only [Act.put, List.setIfInBounds_toArray, List.set_cons_zero, List.set_cons_succ]
                    refine wpAnyK_take (i := 28) (oi := ⟨some 105, _, _, _, _, _⟩) (v := .agg #[.int .i64 tk, .int .i64 tn, .string tz, .slice A0 tl.length (capF tl.length c0)]) rfl (by kernel_rfl) (by kernel_rfl) (by kernel_rfl) (by kernel_rfl) (fun _ _ _ h => h) (.inl ⟨by kernel_rfl, fun W hW => by first | (obtain ⟨z0, z1, z2, z3, z4, z5, z6, z7, z8, z9, z10, z11, z12, z13, z14, z15⟩ := hW; go_simp; done) | (obtain ⟨z0, z1, z2, z3, z4, z5, z6, z7, z8, z9, z10, z11, z12, z13, z14, z15⟩ := hW; go_simp; omega) | (obtain ⟨z0, z1, z2, z3, z4, z5, z6, z7, z8, z9, z10, z11, z12, z13, z14, z15⟩ := hW; go_simp; exact IntWalk.i64_in _ (by omega)) | (obtain ⟨z0, z1, z2, z3, z4, z5, z6, z7, z8, z9, z10, z11, z12, z13, z14, z15⟩ := hW; go_simp; simp [*]; done)⟩) hS_6 ?_
                    try simp only [Act.put, List.setIfInBounds_toArray, List.set_cons_zero, List.set_cons_succ]
                    refine wpAnyK_oneW (i := 27) rfl (by kernel_rfl) (by kernel_rfl) (fun K hK => ?_)
                    go_simp
                    refine (HZX.out _ hb_6 Ax cx htu_2_3_4_5_6).mono ?_
                    rintro e u_7 ⟨rfl, hq_7⟩
                    have hb_7 := hb_6.trans (hq_7.mono hb_6.size)
                    have ht0_2_3_4_5_6_7 := EIn.below _ ht0_2_3_4_5_6 hq_7 (Nat.le_refl _)
                    have htu_2_3_4_5_6_7 := EIn.below _ htu_2_3_4_5_6 hq_7 (Nat.le_refl _)
                    have htv_2_3_4_5_6_7 := EIn.below _ htv_2_3_4_5_6 hq_7 (Nat.le_refl _)
                    have htw_2_3_4_5_6_7 := EIn.below _ htw_2_3_4_5_6 hq_7 (Nat.le_refl _)
                    have hT_2_3_4_5_6_7 := EIn.below _ hT_2_3_4_5_6 hq_7 (Nat.le_refl _)
                    have hT_5_6_7 := EIn.below _ hT_5_6 hq_7 (Nat.le_refl _)
                    clear ht0_2_3_4_5_6 htu_2_3_4_5_6 htv_2_3_4_5_6 htw_2_3_4_5_6 hT_2_3_4_5_6 hT_5_6
                    refine hK.out _ _ (fun _ => HSS.out _ hb_7) (fun hS9 => ?_)
                    have hS_7 := hS9 (by decide)
                    clear hK K hS9
                    try simp only [Act.put, List.setIfInBounds_toArray, List.set_cons_zero, List.set_cons_succ]
                    refine wpAnyK_oneW (i := 29) rfl (by kernel_rfl) (by kernel_rfl) (fun K hK => ?_)
                    go_simp
                    refine (HZT.out _ hb_7 A0 c0 ht0_2_3_4_5_6_7).mono ?_
                    rintro e u_8 ⟨rfl, hq_8⟩
                    have hb_8 := hb_7.trans (hq_8.mono hb_7.size)
                    have ht0_2_3_4_5_6_7_8 := EIn.below _ ht0_2_3_4_5_6_7 hq_8 (Nat.le_refl _)
                    have htu_2_3_4_5_6_7_8 := EIn.below _ htu_2_3_4_5_6_7 hq_8 (Nat.le_refl _)
                    have htv_2_3_4_5_6_7_8 := EIn.below _ htv_2_3_4_5_6_7 hq_8 (Nat.le_refl _)
                    have htw_2_3_4_5_6_7_8 := EIn.below _ htw_2_3_4_5_6_7 hq_8 (Nat.le_refl _)
                    have hT_2_3_4_5_6_7_8 := EIn.below _ hT_2_3_4_5_6_7 hq_8 (Nat.le_refl _)
                    have hT_5_6_7_8 := EIn.below _ hT_5_6_7 hq_8 (Nat.le_refl _)
                    clear ht0_2_3_4_5_6_7 htu_2_3_4_5_6_7 htv_2_3_4_5_6_7 htw_2_3_4_5_6_7 hT_2_3_4_5_6_7 hT_5_6_7
                    refine hK.out _ _ (fun _ => HSS.out _ hb_8) (fun hS9 => ?_)
                    have hS_8 := hS9 (by decide)
                    clear hK K hS9
                    try simp only [Act.put, List.setIfInBounds_toArray, List.set_cons_zero, List.set_cons_succ]
                    refine wpAnyK_take (i := 30) (oi := ⟨some 107, _, _, _, _, _⟩) (v := .bool true) rfl (by kernel_rfl) (by kernel_rfl) (by kernel_rfl) (by kernel_rfl) (fun _ _ _ h => h) (.inl ⟨by kernel_rfl, fun W hW => by first | (obtain ⟨z0, z1, z2, z3, z4, z5, z6, z7, z8, z9, z10, z11, z12, z13, z14, z15⟩ := hW; go_simp; done) | (obtain ⟨z0, z1, z2, z3, z4, z5, z6, z7, z8, z9, z10, z11, z12, z13, z14, z15⟩ := hW; go_simp; omega) | (obtain ⟨z0, z1, z2, z3, z4, z5, z6, z7, z8, z9, z10, z11, z12, z13, z14, z15⟩ := hW; go_simp; exact IntWalk.i64_in _ (by omega)) | (obtain ⟨z0, z1, z2, z3, z4, z5, z6, z7, z8, z9, z10, z11, z12, z13, z14, z15⟩ := hW; go_simp; simp [*]; done)⟩) hS_8 ?_
                    try simp only [Act.put, List.setIfInBounds_toArray, List.set_cons_zero, List.set_cons_succ]
                    refine wpAnyK_take (i := 31) (oi := ⟨some 108, _, _, _, _, _⟩) (v := .bool true) rfl (by kernel_rfl) (by kernel_rfl) (by kernel_rfl) (by kernel_rfl) (fun _ _ _ h => h) (.inl ⟨by kernel_rfl, fun W hW => by kernel_rfl⟩) hS_8 ?_
                    try simp only [Act.put, List.setIfInBounds_toArray, List.set_cons_zero, List.set_cons_succ]
                    refine wpAnyK_one (i := 32) rfl rfl (by kernel_rfl) (fun K hK => ?_)
                    go_simp
                    refine hK.out _ _ (fun h => absurd rfl h) (fun _ => ?_)
                    clear hK K
                    try simp only [Act.put, List.setIfInBounds_toArray, List.set_cons_zero, List.set_cons_succ]
                    refine wpAnyK_done (by kernel_rfl) ?_ _
                    go_wp2_with fail
                    go_ret
                    exact ⟨rfl, HB.out.trans (hb_8.mono HB.out.size)⟩
end Lx
end Go.Proofs.Ytcgiloccmehbeaa
