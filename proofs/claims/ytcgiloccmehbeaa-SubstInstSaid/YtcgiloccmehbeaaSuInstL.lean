/-
  The law SubstInst, walked.
-/
import Derived.Test.YtcgiloccmehbeaaY9
import Derived.Test.YtcgiloccmehbeaaK9
import Derived.Test.YtcgiloccmehbeaaYB
namespace Go.Proofs.Ytcgiloccmehbeaa
open Go.RowKit
namespace Lx
set_option maxRecDepth 100000
def FineB (u : Te) : Prop := sizeE u ≤ 100 ∧ depthE u ≤ 600 ∧ tameE 1099511627776 1099511627776 u
set_option maxHeartbeats 32000000 in
theorem inst8_any (t : Te) (A0 : Option Addr) (c0 : Nat) (l : List Te) (Al : Option Addr) (cl : Nat) (w : World) (hI : EIn w Any t A0) (hlen : l.length ≤ 140737488351232) (hL : ELIn w Any l Al 0) :
    Calls Try.prog 4 #[ev t A0 c0, .slice Al l.length cl] w fun e w' => e = .returned (.bool true) ∧ Below w.heap.size w w' := by
  obtain ⟨tk, tn, tz, tl⟩ := t
  obtain ⟨m, hm⟩ : ∃ m, m = l.length := ⟨_, rfl⟩
  rw [← hm] at hlen ⊢
  have HMM := Lib.hid hm
  have hm1 : m ≤ l.length := by omega
  have hm2 : l.length ≤ m := by omega
  have HLI := Lib.hid hL
  clear hm hL
  show Calls Try.prog 4 #[.agg #[.int .i64 tk, .int .i64 tn, .string tz, .slice A0 tl.length (capF tl.length c0)], .slice Al m cl] w _
  have HX0 := Lib.hid (Bx8.new (c := c0) hI (Below.refl _ w) rfl)
  clear hI
  go_enter Try.func4, Try.ntmps4
  obtain ⟨d0, d1, d2, d3⟩ := HX0.out.four
  have HG := Lib.hid (HX0.out.small 100 (by omega) (by omega))
  cases hv : decide (0 ≤ fewE (.node tk tn tz tl) 100 600)
  · rw [hv] at HG
    clear hv
    go_wp2_with fail
    refine HG.out.mono ?_
    rintro e w2 ⟨rfl, hb2⟩
    clear HG d0 d1 d2 d3
    replace HX0 := Lib.hid (HX0.out.step hb2)
    clear hb2
    go_wp2_with fail
    refine (fixed8_any w2).mono ?_
    rintro e w3 ⟨rfl, hb3⟩
    have hbw := HX0.out.bw.trans (hb3.mono HX0.out.bw.size)
    go_wp2_with fail
    go_ret
    exact ⟨rfl, hbw⟩
  · rw [hv] at HG
    have hm0 := small8 hv (by omega)
    clear hv
    go_wp2_with fail
    refine HG.out.mono ?_
    rintro e w2 ⟨rfl, hb2⟩
    clear HG d0 d1 d2 d3
    replace HX0 := Lib.hid (HX0.out.step hb2)
    clear hb2
    obtain ⟨d0, d1, d2, d3⟩ := HX0.out.four
    have HG := Lib.hid (HX0.out.tame)
    cases hv : tameB (.node tk tn tz tl)
    · rw [hv] at HG
      clear hv
      go_wp2_with fail
      refine HG.out.mono ?_
      rintro e w4 ⟨rfl, hb4⟩
      clear HG d0 d1 d2 d3
      replace HX0 := Lib.hid (HX0.out.step hb4)
      clear hb4
      go_wp2_with fail
      refine (fixed8_any w4).mono ?_
      rintro e w5 ⟨rfl, hb5⟩
      have hbw := HX0.out.bw.trans (hb5.mono HX0.out.bw.size)
      go_wp2_with fail
      go_ret
      exact ⟨rfl, hbw⟩
    · rw [hv] at HG
      have htt := tameB_spec _ hv
      clear hv
      go_wp2_with fail
      refine HG.out.mono ?_
      rintro e w4 ⟨rfl, hb4⟩
      clear HG d0 d1 d2 d3
      replace HX0 := Lib.hid (HX0.out.step hb4)
      clear hb4
      by_cases hc : (5 : Int) < (m : Int)
      · go_wp2_with fail
        refine (fixed8_any w4).mono ?_
        rintro e w6 ⟨rfl, hb6⟩
        have hbw := HX0.out.bw.trans (hb6.mono HX0.out.bw.size)
        go_wp2_with fail
        go_ret
        exact ⟨rfl, hbw⟩
      · have hm5 : m ≤ 5 := by omega
        go_wp2_with fail
        go_loopw [5] (fun x wr => ∃ i : Nat, i ≤ m ∧ x = .int .i64 i ∧ Hid (∀ u ∈ l.take i, FineB u) ∧ Bx8 w wr w.heap.size tk tn tz tl A0 c0) (fun x _ => m - (intOf x).toNat)
        case atStart => exact ⟨0, by omega, rfl, Lib.hid (by simp), HX0.out⟩
        case round =>
          clear HX0
          obtain ⟨i, hi, rfl, HFI, hx0⟩ := hrel
          have HX0 := Lib.hid hx0
          have hbs := hx0.bw.size
          by_cases hlt : i < m
          · have hia : i < l.length := by omega
            obtain ⟨g, o, B, b, ⟨hA, _⟩, d0, d1, d2, d3, hIn⟩ := ELIn.at_ l (ELIn.keep _ HLI.out fun g j _ hlt => ⟨(hx0.bw).cell (p := ⟨g, j, none⟩) hlt, trivial⟩) i hia
            clear hx0
            subst hA
            simp only [Nat.zero_add] at d0 d1 d2 d3
            have HTK : Hid (l.take (i + 1) = l.take i ++ [l[i]'hia]) := Lib.hid (List.take_succ_eq_append_getElem hia)
            obtain ⟨tr, hu⟩ : ∃ tr, tr = l[i]'hia := ⟨_, rfl⟩
            rw [← hu] at d0 d1 d2 d3 hIn HTK
            clear hu
            obtain ⟨vk, vn, vz, vl⟩ := tr
            simp only [Te.kind, Te.n, Te.name, Te.parts] at d0 d1 d2 d3
            have hgl := cell_lt d0
            have HG := Lib.hid (esmall_any (.node vk vn vz vl) B b 100 wr hIn (by omega) (by omega))
            have HIN := Lib.hid hIn
            clear hIn
            cases hv : decide (0 ≤ fewE (.node vk vn vz vl) 100 600)
            · rw [hv] at HG
              clear hv
              go_wp2_with fail
              refine HG.out.mono ?_
              rintro e w20 ⟨rfl, hb20⟩
              replace HX0 := Lib.hid (HX0.out.step hb20)
              go_wp2_with fail
              refine (fixed8_any w20).mono ?_
              rintro e w7 ⟨rfl, hb7⟩
              have hbw := HX0.out.bw.trans (hb7.mono HX0.out.bw.size)
              go_wp2_with fail
              go_ret
              exact ⟨rfl, hbw⟩
            · rw [hv] at HG
              have hsv := small8 hv (by omega)
              clear hv
              go_wp2_with fail
              refine HG.out.mono ?_
              rintro e w21 ⟨rfl, hb21⟩
              replace HX0 := Lib.hid (HX0.out.step hb21)
              have f0 := (hb21.cell (p := ⟨g, _, none⟩) hgl).trans d0
              have f1 := (hb21.cell (p := ⟨g, _, none⟩) hgl).trans d1
              have f2 := (hb21.cell (p := ⟨g, _, none⟩) hgl).trans d2
              have f3 := (hb21.cell (p := ⟨g, _, none⟩) hgl).trans d3
              clear d0 d1 d2 d3 HG
              have HG := Lib.hid (rtame_any (depthE (.node vk vn vz vl)) (.node vk vn vz vl) B b w21 (Nat.le_refl _) (EIn.below _ HIN.out hb21 (Nat.le_refl _)))
              clear hb21
              cases hv : tameB (.node vk vn vz vl)
              · rw [hv] at HG
                clear hv
                go_wp2_with fail
                refine HG.out.mono ?_
                rintro e w22 ⟨rfl, hb22⟩
                replace HX0 := Lib.hid (HX0.out.step hb22)
                go_wp2_with fail
                refine (fixed8_any w22).mono ?_
                rintro e w8 ⟨rfl, hb8⟩
                have hbw := HX0.out.bw.trans (hb8.mono HX0.out.bw.size)
                go_wp2_with fail
                go_ret
                exact ⟨rfl, hbw⟩
              · rw [hv] at HG
                have htv := tameB_spec _ hv
                clear hv
                go_wp2_with fail
                refine HG.out.mono ?_
                rintro e w23 ⟨rfl, hb23⟩
                replace HX0 := Lib.hid (HX0.out.step hb23)
                go_wp2_with fail
                go_roundw
                case rel =>
                  refine ⟨i + 1, by omega, by go_num, Lib.hid fun u hu => ?_, HX0.out⟩
                  rw [HTK.out] at hu
                  rcases List.mem_append.1 hu with hu | hu
                  · exact HFI.out u hu
                  · obtain rfl : u = (.node vk vn vz vl) := by simpa using hu
                    exact ⟨by omega, by omega, htv⟩
                case measure => simp [intOf]; omega
          · have HFL : Hid (∀ u ∈ l, FineB u) := Lib.hid fun u hu => HFI.out u (by rw [List.take_of_length_le (by omega)]; exact hu)
            clear HFI hx0
            obtain rfl : i = m := by omega
            obtain ⟨X, hX⟩ : ∃ X, X = instE (.node tk tn tz tl) l := ⟨_, rfl⟩
            obtain ⟨xk, xn, xz, xl⟩ := X
            have HX := Lib.hid hX
            clear hX
            obtain ⟨e00, e01, e02, e03⟩ := HX0.out.four
            have HG : Hid (Calls Try.prog 19 #[.agg #[.int .i64 tk, .int .i64 tn, .string tz, .slice A0 tl.length (capF tl.length c0)], .slice Al i cl] wr (GivesL xk xn xz xl.length (.node xk xn xz xl) wr)) := Lib.hid (by
              have h := inst_any (.node tk tn tz tl) l A0 Al c0 cl _ HX0.out.tin (by omega) (by omega) htt (ELIn.keep _ HLI.out fun g j _ hlt => ⟨(HX0.out.bw).cell (p := ⟨g, j, none⟩) hlt, trivial⟩) (fun u hu => ⟨by have := (HFL.out u hu).2.1; omega, by have := (HFL.out u hu).1; omega, (HFL.out u hu).2.2⟩) (by omega)
              rw [← HMM.out, ← HX.out] at h
              exact h.mono fun e w' h => h.any.lit)
            go_wp2_with fail
            refine HG.out.mono ?_
            rintro e w9 ⟨Ax, cx, rfl, hTx, hb9⟩
            replace HX0 := Lib.hid (HX0.out.step hb9)
            clear e00 e01 e02 e03
            clear HG
            have HXu : Hid (Bx8 w (w9.alloc (.cells #[.int .i64 xk, .int .i64 xn, .string xz, .slice Ax xl.length (capF xl.length cx)] 24)) w9.heap.size xk xn xz xl Ax cx) := Lib.hid ⟨Lies.new _ _ _, EIn.below _ hTx ((Below.refl _ w9).alloc (Nat.le_refl _) _) (Nat.le_refl _), HX0.out.bw.alloc HX0.out.bw.size _⟩
            replace HX0 := Lib.hid (HX0.out.old (.cells #[.int .i64 xk, .int .i64 xn, .string xz, .slice Ax xl.length (capF xl.length cx)] 24))
            clear hTx hb9
            go_upto_region 9 with fail
            have hx0 := HX0.out
            have hxu := HXu.out
            obtain ⟨g0, hg0⟩ : ∃ g, g = w.heap.size := ⟨_, rfl⟩
            obtain ⟨gu, hgu⟩ : ∃ g, g = w9.heap.size := ⟨_, rfl⟩
            rw [← hg0] at hx0
            rw [← hgu] at hxu
            rw [← hgu, ← hg0]
            clear hg0 hgu HX0 HXu
            generalize (w9.alloc (.cells #[.int .i64 xk, .int .i64 xn, .string xz, .slice Ax xl.length (capF xl.length cx)] 24)) = V at hx0 hxu ⊢
            cases hmt : mayQ (.node tk tn tz tl) 5 false
            · have ht0 := hx0.tin
              have htu := hxu.tin
              have HLV : Hid (ELIn V Any l Al 0) := Lib.hid (ELIn.keep _ HLI.out fun g j _ hlt => ⟨(hx0.bw).cell (p := ⟨g, j, none⟩) hlt, trivial⟩)
              have HSS : Hid (∀ V', Below V.heap.size V V' → (fun V' : World => (V'.cell? ⟨g0, 0, none⟩ = some (.int .i64 tk) ∧ V'.cell? ⟨g0, 1, none⟩ = some (.int .i64 tn) ∧ V'.cell? ⟨g0, 2, none⟩ = some (.string tz) ∧ V'.cell? ⟨g0, 3, none⟩ = some (.slice A0 tl.length (capF tl.length c0)) ∧ V'.cell? ⟨gu, 0, none⟩ = some (.int .i64 xk) ∧ V'.cell? ⟨gu, 1, none⟩ = some (.int .i64 xn) ∧ V'.cell? ⟨gu, 2, none⟩ = some (.string xz) ∧ V'.cell? ⟨gu, 3, none⟩ = some (.slice Ax xl.length (capF xl.length cx)))) V') := Lib.hid fun V' h =>
                ⟨(h.cell (p := ⟨g0, 0, none⟩) hx0.box.lt).trans (hx0.box.cell 0), (h.cell (p := ⟨g0, 1, none⟩) hx0.box.lt).trans (hx0.box.cell 1), (h.cell (p := ⟨g0, 2, none⟩) hx0.box.lt).trans (hx0.box.cell 2), (h.cell (p := ⟨g0, 3, none⟩) hx0.box.lt).trans (hx0.box.cell 3), (h.cell (p := ⟨gu, 0, none⟩) hxu.box.lt).trans (hxu.box.cell 0), (h.cell (p := ⟨gu, 1, none⟩) hxu.box.lt).trans (hxu.box.cell 1), (h.cell (p := ⟨gu, 2, none⟩) hxu.box.lt).trans (hxu.box.cell 2), (h.cell (p := ⟨gu, 3, none⟩) hxu.box.lt).trans (hxu.box.cell 3)⟩
              have HX0 := Lib.hid hx0
              have HXu := Lib.hid hxu
              clear hx0 hxu
              have HRI : Hid (∀ X, Below V.heap.size V X → ∀ (A : Option Addr) (c : Nat) (hA : EIn X Any (.node tk tn tz tl) A), Calls Try.prog 20 #[.agg #[.int .i64 tk, .int .i64 tn, .string tz, .slice A tl.length (capF tl.length c)], .slice Al i cl] X fun e w' => ∃ A c, e = .returned (.agg #[.int .i64 xk, .int .i64 xn, .string xz, .slice A xl.length (capF xl.length c)]) ∧ EIn w' Any (.node xk xn xz xl) A ∧ Below X.heap.size X w') := Lib.hid fun X hX A c hA => by
                have h := rinst_any (.node tk tn tz tl) l A Al c cl X hA (by omega) (by omega) htt (ELIn.keep _ HLV.out fun g j _ hlt => ⟨hX.cell (p := ⟨g, j, none⟩) hlt, trivial⟩) (fun u hu => ⟨by have := (HFL.out u hu).2.1; omega, by have := (HFL.out u hu).1; omega, (HFL.out u hu).2.2⟩) (by omega)
                rw [← HMM.out, ← HX.out] at h
                exact h.mono fun e w' h => h.any
              have HSX : Hid (∀ X, Below V.heap.size V X → ∀ (A : Option Addr) (c : Nat) (hA : EIn X Any (.node xk xn xz xl) A) (B : Option Addr) (d : Nat) (hB : EIn X Any (.node xk xn xz xl) B), Calls Try.prog 12 #[.agg #[.int .i64 xk, .int .i64 xn, .string xz, .slice A xl.length (capF xl.length c)], .agg #[.int .i64 xk, .int .i64 xn, .string xz, .slice B xl.length (capF xl.length d)]] X fun e w' => e = .returned (.bool true) ∧ Below X.heap.size X w') := Lib.hid fun X hX A c hA B d hB => by
                have h := rsame6_any (depthE (.node xk xn xz xl)) (.node xk xn xz xl) (.node xk xn xz xl) A B c d X (Nat.le_refl _) hA hB
                rw [sameE_refl] at h
                exact h
              have HMY : Hid (∀ X, Below V.heap.size V X → ∀ (A : Option Addr) (c : Nat) (hA : EIn X Any (.node tk tn tz tl) A), Calls Try.prog 21 #[.agg #[.int .i64 tk, .int .i64 tn, .string tz, .slice A tl.length (capF tl.length c)], .int .i64 5] X fun e w' => e = .returned (.bool false) ∧ Below X.heap.size X w') := Lib.hid fun X hX A c hA => by
                have h := rMay6_any (.node tk tn tz tl) A c 5 X hA (by omega) (by omega) (by omega)
                rw [hmt] at h
                exact h
              have hb_1 : Below V.heap.size V V := Below.refl _ _
              refine wp_region_held_drew (S := (fun V' : World => (V'.cell? ⟨g0, 0, none⟩ = some (.int .i64 tk) ∧ V'.cell? ⟨g0, 1, none⟩ = some (.int .i64 tn) ∧ V'.cell? ⟨g0, 2, none⟩ = some (.string tz) ∧ V'.cell? ⟨g0, 3, none⟩ = some (.slice A0 tl.length (capF tl.length c0)) ∧ V'.cell? ⟨gu, 0, none⟩ = some (.int .i64 xk) ∧ V'.cell? ⟨gu, 1, none⟩ = some (.int .i64 xn) ∧ V'.cell? ⟨gu, 2, none⟩ = some (.string xz) ∧ V'.cell? ⟨gu, 3, none⟩ = some (.slice Ax xl.length (capF xl.length cx))))) rfl (HSS.out _ hb_1.drew) (fun hSs => ?_)
              change wpAnyH _ _ _ _ _ 11 (Array.replicate 11 false) _ _
              refine wpAnyH_take (i := 0) (oi := ⟨some 47, _, _, _, _, _⟩) (v := .agg #[.int .i64 xk, .int .i64 xn, .string xz, .slice Ax xl.length (capF xl.length cx)]) rfl (by kernel_rfl) (by kernel_rfl) (by kernel_rfl) (fun _ _ _ h => h) (.inl ⟨by kernel_rfl, fun W hW => by first | (obtain ⟨z0, z1, z2, z3, z4, z5, z6, z7⟩ := hW; go_simp; done) | (obtain ⟨z0, z1, z2, z3, z4, z5, z6, z7⟩ := hW; go_simp; omega) | (obtain ⟨z0, z1, z2, z3, z4, z5, z6, z7⟩ := hW; go_simp; exact IntWalk.i64_in _ (by omega)) | (obtain ⟨z0, z1, z2, z3, z4, z5, z6, z7⟩ := hW; go_simp; simp [*]; done)⟩) hSs ?_
              try simp only [Act.put, List.setIfInBounds_toArray, List.set_cons_zero, List.set_cons_succ]
              refine wpAnyH_take (i := 1) (oi := ⟨some 48, _, _, _, _, _⟩) (v := .agg #[.int .i64 tk, .int .i64 tn, .string tz, .slice A0 tl.length (capF tl.length c0)]) rfl (by kernel_rfl) (by kernel_rfl) (by kernel_rfl) (fun _ _ _ h => h) (.inl ⟨by kernel_rfl, fun W hW => by first | (obtain ⟨z0, z1, z2, z3, z4, z5, z6, z7⟩ := hW; go_simp; done) | (obtain ⟨z0, z1, z2, z3, z4, z5, z6, z7⟩ := hW; go_simp; omega) | (obtain ⟨z0, z1, z2, z3, z4, z5, z6, z7⟩ := hW; go_simp; exact IntWalk.i64_in _ (by omega)) | (obtain ⟨z0, z1, z2, z3, z4, z5, z6, z7⟩ := hW; go_simp; simp [*]; done)⟩) hSs ?_
              try simp only [Act.put, List.setIfInBounds_toArray, List.set_cons_zero, List.set_cons_succ]
              refine wpAnyH_take (i := 2) (oi := ⟨some 49, _, _, _, _, _⟩) (v := .slice Al i cl) rfl (by kernel_rfl) (by kernel_rfl) (by kernel_rfl) (fun _ _ _ h => h) (.inl ⟨by kernel_rfl, fun W hW => by kernel_rfl⟩) hSs ?_
              try simp only [Act.put, List.setIfInBounds_toArray, List.set_cons_zero, List.set_cons_succ]
              refine wpAnyH_ready (rs := [3]) (by kernel_rfl) (by simp) (AllReadyH.cons rfl (fun K hK => ?_) AllReadyH.nil)
              go_simp
              refine (HRI.out _ (hb_1.drew) A0 c0 (EIn.below _ ht0 (Below.refl _ _).drew (Nat.le_refl _))).mono ?_
              rintro e u_2 ⟨A_2, c_2, rfl, hT_2, hq_2⟩
              have hb_2 := (hb_1.drew).trans (hq_2.mono (hb_1.drew).size)
              have ht0_2 := EIn.below _ (EIn.below _ ht0 (Below.refl _ _).drew (Nat.le_refl _)) hq_2 (Nat.le_refl _)
              have htu_2 := EIn.below _ (EIn.below _ htu (Below.refl _ _).drew (Nat.le_refl _)) hq_2 (Nat.le_refl _)
              clear ht0 htu
              refine hK.out _ _ (HSS.out _ hb_2) (fun hS_2 => ?_)
              clear hK K
              try simp only [Act.put, List.setIfInBounds_toArray, List.set_cons_zero, List.set_cons_succ]
              refine wpAnyH_ready (rs := [4]) (by kernel_rfl) (by simp) (AllReadyH.cons rfl (fun K hK => ?_) AllReadyH.nil)
              go_simp
              refine (HSX.out _ hb_2 Ax cx htu_2 A_2 c_2 hT_2).mono ?_
              rintro e u_3 ⟨rfl, hq_3⟩
              have hb_3 := hb_2.trans (hq_3.mono hb_2.size)
              have ht0_2_3 := EIn.below _ ht0_2 hq_3 (Nat.le_refl _)
              have htu_2_3 := EIn.below _ htu_2 hq_3 (Nat.le_refl _)
              have hT_2_3 := EIn.below _ hT_2 hq_3 (Nat.le_refl _)
              clear ht0_2 htu_2 hT_2
              refine hK.out _ _ (HSS.out _ hb_3) (fun hS_3 => ?_)
              clear hK K
              try simp only [Act.put, List.setIfInBounds_toArray, List.set_cons_zero, List.set_cons_succ]
              refine wpAnyH_take (i := 5) (oi := ⟨some 52, _, _, _, _, _⟩) (v := .bool false) rfl (by kernel_rfl) (by kernel_rfl) (by kernel_rfl) (fun _ _ _ h => h) (.inl ⟨by kernel_rfl, fun W hW => by kernel_rfl⟩) hS_3 ?_
              try simp only [Act.put, List.setIfInBounds_toArray, List.set_cons_zero, List.set_cons_succ]
              refine wpAnyH_take (i := 6) (oi := ⟨some 53, _, _, _, _, _⟩) (v := .bool false) rfl (by kernel_rfl) (by kernel_rfl) (by kernel_rfl) (fun _ _ _ h => h) (.inl ⟨by kernel_rfl, fun W hW => by kernel_rfl⟩) hS_3 ?_
              try simp only [Act.put, List.setIfInBounds_toArray, List.set_cons_zero, List.set_cons_succ]
              refine wpAnyH_take (i := 7) (oi := ⟨some 54, _, _, _, _, _⟩) (v := .agg #[.int .i64 tk, .int .i64 tn, .string tz, .slice A0 tl.length (capF tl.length c0)]) rfl (by kernel_rfl) (by kernel_rfl) (by kernel_rfl) (fun _ _ _ h => h) (.inl ⟨by kernel_rfl, fun W hW => by first | (obtain ⟨z0, z1, z2, z3, z4, z5, z6, z7⟩ := hW; go_simp; done) | (obtain ⟨z0, z1, z2, z3, z4, z5, z6, z7⟩ := hW; go_simp; omega) | (obtain ⟨z0, z1, z2, z3, z4, z5, z6, z7⟩ := hW; go_simp; exact IntWalk.i64_in _ (by omega)) | (obtain ⟨z0, z1, z2, z3, z4, z5, z6, z7⟩ := hW; go_simp; simp [*]; done)⟩) hS_3 ?_
              try simp only [Act.put, List.setIfInBounds_toArray, List.set_cons_zero, List.set_cons_succ]
              refine wpAnyH_ready (rs := [8]) (by kernel_rfl) (by simp) (AllReadyH.cons rfl (fun K hK => ?_) AllReadyH.nil)
              rw [if_pos (by kernel_rfl)]
              go_simp
              refine (HMY.out _ hb_3 A0 c0 ht0_2_3).mono ?_
              rintro e u_4 ⟨rfl, hq_4⟩
              have hb_4 := hb_3.trans (hq_4.mono hb_3.size)
              have ht0_2_3_4 := EIn.below _ ht0_2_3 hq_4 (Nat.le_refl _)
              have htu_2_3_4 := EIn.below _ htu_2_3 hq_4 (Nat.le_refl _)
              have hT_2_3_4 := EIn.below _ hT_2_3 hq_4 (Nat.le_refl _)
              clear ht0_2_3 htu_2_3 hT_2_3
              refine hK.out _ _ (HSS.out _ hb_4) (fun hS_4 => ?_)
              clear hK K
              try simp only [Act.put, List.setIfInBounds_toArray, List.set_cons_zero, List.set_cons_succ]
              refine wpAnyH_take (i := 9) (oi := ⟨some 56, _, _, _, _, _⟩) (v := .bool true) rfl (by kernel_rfl) (by kernel_rfl) (by kernel_rfl) (fun _ _ _ h => h) (.inl ⟨by kernel_rfl, fun W hW => by kernel_rfl⟩) hS_4 ?_
              try simp only [Act.put, List.setIfInBounds_toArray, List.set_cons_zero, List.set_cons_succ]
              refine wpAnyH_take (i := 10) (oi := ⟨some 57, _, _, _, _, _⟩) (v := .bool true) rfl (by kernel_rfl) (by kernel_rfl) (by kernel_rfl) (fun _ _ _ h => h) (.inl ⟨by kernel_rfl, fun W hW => by kernel_rfl⟩) hS_4 ?_
              try simp only [Act.put, List.setIfInBounds_toArray, List.set_cons_zero, List.set_cons_succ]
              refine wpAnyH_done (by kernel_rfl) ?_ _
              have hbx := hb_4
              have hx0 := HX0.out.step hbx
              have hxu := HXu.out.step hbx
              clear HSS hbx HX0 HXu HRI HSX HMY HLV ht0_2_3_4 htu_2_3_4 hT_2_3_4
              generalize u_4 = V2 at hx0 hxu ⊢
              go_upto_region 10 with fail
              have ht0 := hx0.tin
              have htu := hxu.tin
              have HLV : Hid (ELIn V2 Any l Al 0) := Lib.hid (ELIn.keep _ HLI.out fun g j _ hlt => ⟨(hx0.bw).cell (p := ⟨g, j, none⟩) hlt, trivial⟩)
              have HSS : Hid (∀ V', Below V2.heap.size V2 V' → (fun V' : World => (V'.cell? ⟨g0, 0, none⟩ = some (.int .i64 tk) ∧ V'.cell? ⟨g0, 1, none⟩ = some (.int .i64 tn) ∧ V'.cell? ⟨g0, 2, none⟩ = some (.string tz) ∧ V'.cell? ⟨g0, 3, none⟩ = some (.slice A0 tl.length (capF tl.length c0)) ∧ V'.cell? ⟨gu, 0, none⟩ = some (.int .i64 xk) ∧ V'.cell? ⟨gu, 1, none⟩ = some (.int .i64 xn) ∧ V'.cell? ⟨gu, 2, none⟩ = some (.string xz) ∧ V'.cell? ⟨gu, 3, none⟩ = some (.slice Ax xl.length (capF xl.length cx)))) V') := Lib.hid fun V' h =>
                ⟨(h.cell (p := ⟨g0, 0, none⟩) hx0.box.lt).trans (hx0.box.cell 0), (h.cell (p := ⟨g0, 1, none⟩) hx0.box.lt).trans (hx0.box.cell 1), (h.cell (p := ⟨g0, 2, none⟩) hx0.box.lt).trans (hx0.box.cell 2), (h.cell (p := ⟨g0, 3, none⟩) hx0.box.lt).trans (hx0.box.cell 3), (h.cell (p := ⟨gu, 0, none⟩) hxu.box.lt).trans (hxu.box.cell 0), (h.cell (p := ⟨gu, 1, none⟩) hxu.box.lt).trans (hxu.box.cell 1), (h.cell (p := ⟨gu, 2, none⟩) hxu.box.lt).trans (hxu.box.cell 2), (h.cell (p := ⟨gu, 3, none⟩) hxu.box.lt).trans (hxu.box.cell 3)⟩
              have HX0 := Lib.hid hx0
              have HXu := Lib.hid hxu
              clear hx0 hxu
              have HRI : Hid (∀ X, Below V2.heap.size V2 X → ∀ (A : Option Addr) (c : Nat) (hA : EIn X Any (.node tk tn tz tl) A), Calls Try.prog 20 #[.agg #[.int .i64 tk, .int .i64 tn, .string tz, .slice A tl.length (capF tl.length c)], .slice Al i cl] X fun e w' => ∃ A c, e = .returned (.agg #[.int .i64 xk, .int .i64 xn, .string xz, .slice A xl.length (capF xl.length c)]) ∧ EIn w' Any (.node xk xn xz xl) A ∧ Below X.heap.size X w') := Lib.hid fun X hX A c hA => by
                have h := rinst_any (.node tk tn tz tl) l A Al c cl X hA (by omega) (by omega) htt (ELIn.keep _ HLV.out fun g j _ hlt => ⟨hX.cell (p := ⟨g, j, none⟩) hlt, trivial⟩) (fun u hu => ⟨by have := (HFL.out u hu).2.1; omega, by have := (HFL.out u hu).1; omega, (HFL.out u hu).2.2⟩) (by omega)
                rw [← HMM.out, ← HX.out] at h
                exact h.mono fun e w' h => h.any
              have HSX : Hid (∀ X, Below V2.heap.size V2 X → ∀ (A : Option Addr) (c : Nat) (hA : EIn X Any (.node xk xn xz xl) A) (B : Option Addr) (d : Nat) (hB : EIn X Any (.node xk xn xz xl) B), Calls Try.prog 12 #[.agg #[.int .i64 xk, .int .i64 xn, .string xz, .slice A xl.length (capF xl.length c)], .agg #[.int .i64 xk, .int .i64 xn, .string xz, .slice B xl.length (capF xl.length d)]] X fun e w' => e = .returned (.bool true) ∧ Below X.heap.size X w') := Lib.hid fun X hX A c hA B d hB => by
                have h := rsame6_any (depthE (.node xk xn xz xl)) (.node xk xn xz xl) (.node xk xn xz xl) A B c d X (Nat.le_refl _) hA hB
                rw [sameE_refl] at h
                exact h
              have HFX : Hid (∀ X, Below V2.heap.size V2 X → Calls Try.prog 11 #[] X fun e w' => e = .returned (.bool true) ∧ Below X.heap.size X w') := Lib.hid fun X hX => fixed8_any X
              have hb_1 : Below V2.heap.size V2 V2 := Below.refl _ _
              refine wp_region_K (S := (fun V' : World => (V'.cell? ⟨g0, 0, none⟩ = some (.int .i64 tk) ∧ V'.cell? ⟨g0, 1, none⟩ = some (.int .i64 tn) ∧ V'.cell? ⟨g0, 2, none⟩ = some (.string tz) ∧ V'.cell? ⟨g0, 3, none⟩ = some (.slice A0 tl.length (capF tl.length c0)) ∧ V'.cell? ⟨gu, 0, none⟩ = some (.int .i64 xk) ∧ V'.cell? ⟨gu, 1, none⟩ = some (.int .i64 xn) ∧ V'.cell? ⟨gu, 2, none⟩ = some (.string xz) ∧ V'.cell? ⟨gu, 3, none⟩ = some (.slice Ax xl.length (capF xl.length cx))))) 8 rfl (HSS.out _ hb_1.drew) (fun hSs => ?_)
              change wpAnyK _ _ _ _ _ _ 9 (Array.replicate 9 false) _ _
              refine wpAnyK_one (i := 0) rfl rfl (by kernel_rfl) (fun K hK => ?_)
              go_simp
              refine (HFX.out _ (hb_1.drew)).mono ?_
              rintro e u_2 ⟨rfl, hq_2⟩
              have hb_2 := (hb_1.drew).trans (hq_2.mono (hb_1.drew).size)
              have ht0_2 := EIn.below _ (EIn.below _ ht0 (Below.refl _ _).drew (Nat.le_refl _)) hq_2 (Nat.le_refl _)
              have htu_2 := EIn.below _ (EIn.below _ htu (Below.refl _ _).drew (Nat.le_refl _)) hq_2 (Nat.le_refl _)
              clear ht0 htu
              refine hK.out _ _ (fun _ => HSS.out _ hb_2) (fun hS9 => ?_)
              have hS_2 := hS9 (by decide)
              clear hK K hS9
              try simp only [Act.put, List.setIfInBounds_toArray, List.set_cons_zero, List.set_cons_succ]
              refine wpAnyK_take (i := 1) (oi := ⟨some 59, _, _, _, _, _⟩) (v := .bool true) rfl (by kernel_rfl) (by kernel_rfl) (by kernel_rfl) (by kernel_rfl) (fun _ _ _ h => h) (.inl ⟨by kernel_rfl, fun W hW => by kernel_rfl⟩) hS_2 ?_
              try simp only [Act.put, List.setIfInBounds_toArray, List.set_cons_zero, List.set_cons_succ]
              refine wpAnyK_take (i := 2) (oi := ⟨some 60, _, _, _, _, _⟩) (v := .agg #[.int .i64 xk, .int .i64 xn, .string xz, .slice Ax xl.length (capF xl.length cx)]) rfl (by kernel_rfl) (by kernel_rfl) (by kernel_rfl) (by kernel_rfl) (fun _ _ _ h => h) (.inl ⟨by kernel_rfl, fun W hW => by first | (obtain ⟨z0, z1, z2, z3, z4, z5, z6, z7⟩ := hW; go_simp; done) | (obtain ⟨z0, z1, z2, z3, z4, z5, z6, z7⟩ := hW; go_simp; omega) | (obtain ⟨z0, z1, z2, z3, z4, z5, z6, z7⟩ := hW; go_simp; exact IntWalk.i64_in _ (by omega)) | (obtain ⟨z0, z1, z2, z3, z4, z5, z6, z7⟩ := hW; go_simp; exact IntWalk.i64_in _ (by omega)) | (obtain ⟨z0, z1, z2, z3, z4, z5, z6, z7⟩ := hW; go_simp; simp [*]; done)⟩) hS_2 ?_
              try simp only [Act.put, List.setIfInBounds_toArray, List.set_cons_zero, List.set_cons_succ]
              refine wpAnyK_take (i := 3) (oi := ⟨some 61, _, _, _, _, _⟩) (v := .agg #[.int .i64 tk, .int .i64 tn, .string tz, .slice A0 tl.length (capF tl.length c0)]) rfl (by kernel_rfl) (by kernel_rfl) (by kernel_rfl) (by kernel_rfl) (fun _ _ _ h => h) (.inl ⟨by kernel_rfl, fun W hW => by first | (obtain ⟨z0, z1, z2, z3, z4, z5, z6, z7⟩ := hW; go_simp; done) | (obtain ⟨z0, z1, z2, z3, z4, z5, z6, z7⟩ := hW; go_simp; omega) | (obtain ⟨z0, z1, z2, z3, z4, z5, z6, z7⟩ := hW; go_simp; exact IntWalk.i64_in _ (by omega)) | (obtain ⟨z0, z1, z2, z3, z4, z5, z6, z7⟩ := hW; go_simp; exact IntWalk.i64_in _ (by omega)) | (obtain ⟨z0, z1, z2, z3, z4, z5, z6, z7⟩ := hW; go_simp; simp [*]; done)⟩) hS_2 ?_
              try simp only [Act.put, List.setIfInBounds_toArray, List.set_cons_zero, List.set_cons_succ]
              refine wpAnyK_take (i := 4) (oi := ⟨some 62, _, _, _, _, _⟩) (v := .slice Al i cl) rfl (by kernel_rfl) (by kernel_rfl) (by kernel_rfl) (by kernel_rfl) (fun _ _ _ h => h) (.inl ⟨by kernel_rfl, fun W hW => by kernel_rfl⟩) hS_2 ?_
              try simp only [Act.put, List.setIfInBounds_toArray, List.set_cons_zero, List.set_cons_succ]
              refine wpAnyK_oneW (i := 5) rfl (by kernel_rfl) (by kernel_rfl) (fun K hK => ?_)
              go_simp
              refine (HRI.out _ hb_2 A0 c0 ht0_2).mono ?_
              rintro e u_3 ⟨A_3, c_3, rfl, hT_3, hq_3⟩
              have hb_3 := hb_2.trans (hq_3.mono hb_2.size)
              have ht0_2_3 := EIn.below _ ht0_2 hq_3 (Nat.le_refl _)
              have htu_2_3 := EIn.below _ htu_2 hq_3 (Nat.le_refl _)
              clear ht0_2 htu_2
              refine hK.out _ _ (fun _ => HSS.out _ hb_3) (fun hS9 => ?_)
              have hS_3 := hS9 (by decide)
              clear hK K hS9
              try simp only [Act.put, List.setIfInBounds_toArray, List.set_cons_zero, List.set_cons_succ]
              refine wpAnyK_oneW (i := 6) rfl (by kernel_rfl) (by kernel_rfl) (fun K hK => ?_)
              go_simp
              refine (HSX.out _ hb_3 Ax cx htu_2_3 A_3 c_3 hT_3).mono ?_
              rintro e u_4 ⟨rfl, hq_4⟩
              have hb_4 := hb_3.trans (hq_4.mono hb_3.size)
              have ht0_2_3_4 := EIn.below _ ht0_2_3 hq_4 (Nat.le_refl _)
              have htu_2_3_4 := EIn.below _ htu_2_3 hq_4 (Nat.le_refl _)
              have hT_3_4 := EIn.below _ hT_3 hq_4 (Nat.le_refl _)
              clear ht0_2_3 htu_2_3 hT_3
              refine hK.out _ _ (fun _ => HSS.out _ hb_4) (fun hS9 => ?_)
              have hS_4 := hS9 (by decide)
              clear hK K hS9
              try simp only [Act.put, List.setIfInBounds_toArray, List.set_cons_zero, List.set_cons_succ]
              refine wpAnyK_take (i := 7) (oi := ⟨some 65, _, _, _, _, _⟩) (v := .bool true) rfl (by kernel_rfl) (by kernel_rfl) (by kernel_rfl) (by kernel_rfl) (fun _ _ _ h => h) (.inl ⟨by kernel_rfl, fun W hW => by kernel_rfl⟩) hS_4 ?_
              try simp only [Act.put, List.setIfInBounds_toArray, List.set_cons_zero, List.set_cons_succ]
              refine wpAnyK_oneW (i := 8) rfl (by kernel_rfl) (by kernel_rfl) (fun K hK => ?_)
              go_simp
              refine hK.out _ _ (fun h => absurd rfl h) (fun _ => ?_)
              clear hK K
              try simp only [Act.put, List.setIfInBounds_toArray, List.set_cons_zero, List.set_cons_succ]
              refine wpAnyK_done (by kernel_rfl) ?_ _
              have hbx := HX0.out.bw.trans (hb_4.mono HX0.out.bw.size)
              go_wp2_with fail
              go_ret
              exact ⟨rfl, hbx⟩
            · have ht0 := hx0.tin
              have htu := hxu.tin
              have HLV : Hid (ELIn V Any l Al 0) := Lib.hid (ELIn.keep _ HLI.out fun g j _ hlt => ⟨(hx0.bw).cell (p := ⟨g, j, none⟩) hlt, trivial⟩)
              have HSS : Hid (∀ V', Below V.heap.size V V' → (fun V' : World => (V'.cell? ⟨g0, 0, none⟩ = some (.int .i64 tk) ∧ V'.cell? ⟨g0, 1, none⟩ = some (.int .i64 tn) ∧ V'.cell? ⟨g0, 2, none⟩ = some (.string tz) ∧ V'.cell? ⟨g0, 3, none⟩ = some (.slice A0 tl.length (capF tl.length c0)) ∧ V'.cell? ⟨gu, 0, none⟩ = some (.int .i64 xk) ∧ V'.cell? ⟨gu, 1, none⟩ = some (.int .i64 xn) ∧ V'.cell? ⟨gu, 2, none⟩ = some (.string xz) ∧ V'.cell? ⟨gu, 3, none⟩ = some (.slice Ax xl.length (capF xl.length cx)))) V') := Lib.hid fun V' h =>
                ⟨(h.cell (p := ⟨g0, 0, none⟩) hx0.box.lt).trans (hx0.box.cell 0), (h.cell (p := ⟨g0, 1, none⟩) hx0.box.lt).trans (hx0.box.cell 1), (h.cell (p := ⟨g0, 2, none⟩) hx0.box.lt).trans (hx0.box.cell 2), (h.cell (p := ⟨g0, 3, none⟩) hx0.box.lt).trans (hx0.box.cell 3), (h.cell (p := ⟨gu, 0, none⟩) hxu.box.lt).trans (hxu.box.cell 0), (h.cell (p := ⟨gu, 1, none⟩) hxu.box.lt).trans (hxu.box.cell 1), (h.cell (p := ⟨gu, 2, none⟩) hxu.box.lt).trans (hxu.box.cell 2), (h.cell (p := ⟨gu, 3, none⟩) hxu.box.lt).trans (hxu.box.cell 3)⟩
              have HX0 := Lib.hid hx0
              have HXu := Lib.hid hxu
              clear hx0 hxu
              have HRI : Hid (∀ X, Below V.heap.size V X → ∀ (A : Option Addr) (c : Nat) (hA : EIn X Any (.node tk tn tz tl) A), Calls Try.prog 20 #[.agg #[.int .i64 tk, .int .i64 tn, .string tz, .slice A tl.length (capF tl.length c)], .slice Al i cl] X fun e w' => ∃ A c, e = .returned (.agg #[.int .i64 xk, .int .i64 xn, .string xz, .slice A xl.length (capF xl.length c)]) ∧ EIn w' Any (.node xk xn xz xl) A ∧ Below X.heap.size X w') := Lib.hid fun X hX A c hA => by
                have h := rinst_any (.node tk tn tz tl) l A Al c cl X hA (by omega) (by omega) htt (ELIn.keep _ HLV.out fun g j _ hlt => ⟨hX.cell (p := ⟨g, j, none⟩) hlt, trivial⟩) (fun u hu => ⟨by have := (HFL.out u hu).2.1; omega, by have := (HFL.out u hu).1; omega, (HFL.out u hu).2.2⟩) (by omega)
                rw [← HMM.out, ← HX.out] at h
                exact h.mono fun e w' h => h.any
              have HSX : Hid (∀ X, Below V.heap.size V X → ∀ (A : Option Addr) (c : Nat) (hA : EIn X Any (.node xk xn xz xl) A) (B : Option Addr) (d : Nat) (hB : EIn X Any (.node xk xn xz xl) B), Calls Try.prog 12 #[.agg #[.int .i64 xk, .int .i64 xn, .string xz, .slice A xl.length (capF xl.length c)], .agg #[.int .i64 xk, .int .i64 xn, .string xz, .slice B xl.length (capF xl.length d)]] X fun e w' => e = .returned (.bool true) ∧ Below X.heap.size X w') := Lib.hid fun X hX A c hA B d hB => by
                have h := rsame6_any (depthE (.node xk xn xz xl)) (.node xk xn xz xl) (.node xk xn xz xl) A B c d X (Nat.le_refl _) hA hB
                rw [sameE_refl] at h
                exact h
              have HMY : Hid (∀ X, Below V.heap.size V X → ∀ (A : Option Addr) (c : Nat) (hA : EIn X Any (.node tk tn tz tl) A), Calls Try.prog 21 #[.agg #[.int .i64 tk, .int .i64 tn, .string tz, .slice A tl.length (capF tl.length c)], .int .i64 5] X fun e w' => e = .returned (.bool true) ∧ Below X.heap.size X w') := Lib.hid fun X hX A c hA => by
                have h := rMay6_any (.node tk tn tz tl) A c 5 X hA (by omega) (by omega) (by omega)
                rw [hmt] at h
                exact h
              have hb_1 : Below V.heap.size V V := Below.refl _ _
              refine wp_region_held_drew (S := (fun V' : World => (V'.cell? ⟨g0, 0, none⟩ = some (.int .i64 tk) ∧ V'.cell? ⟨g0, 1, none⟩ = some (.int .i64 tn) ∧ V'.cell? ⟨g0, 2, none⟩ = some (.string tz) ∧ V'.cell? ⟨g0, 3, none⟩ = some (.slice A0 tl.length (capF tl.length c0)) ∧ V'.cell? ⟨gu, 0, none⟩ = some (.int .i64 xk) ∧ V'.cell? ⟨gu, 1, none⟩ = some (.int .i64 xn) ∧ V'.cell? ⟨gu, 2, none⟩ = some (.string xz) ∧ V'.cell? ⟨gu, 3, none⟩ = some (.slice Ax xl.length (capF xl.length cx))))) rfl (HSS.out _ hb_1.drew) (fun hSs => ?_)
              change wpAnyH _ _ _ _ _ 11 (Array.replicate 11 false) _ _
              refine wpAnyH_take (i := 0) (oi := ⟨some 47, _, _, _, _, _⟩) (v := .agg #[.int .i64 xk, .int .i64 xn, .string xz, .slice Ax xl.length (capF xl.length cx)]) rfl (by kernel_rfl) (by kernel_rfl) (by kernel_rfl) (fun _ _ _ h => h) (.inl ⟨by kernel_rfl, fun W hW => by first | (obtain ⟨z0, z1, z2, z3, z4, z5, z6, z7⟩ := hW; go_simp; done) | (obtain ⟨z0, z1, z2, z3, z4, z5, z6, z7⟩ := hW; go_simp; omega) | (obtain ⟨z0, z1, z2, z3, z4, z5, z6, z7⟩ := hW; go_simp; exact IntWalk.i64_in _ (by omega)) | (obtain ⟨z0, z1, z2, z3, z4, z5, z6, z7⟩ := hW; go_simp; simp [*]; done)⟩) hSs ?_
              try simp only [Act.put, List.setIfInBounds_toArray, List.set_cons_zero, List.set_cons_succ]
              refine wpAnyH_take (i := 1) (oi := ⟨some 48, _, _, _, _, _⟩) (v := .agg #[.int .i64 tk, .int .i64 tn, .string tz, .slice A0 tl.length (capF tl.length c0)]) rfl (by kernel_rfl) (by kernel_rfl) (by kernel_rfl) (fun _ _ _ h => h) (.inl ⟨by kernel_rfl, fun W hW => by first | (obtain ⟨z0, z1, z2, z3, z4, z5, z6, z7⟩ := hW; go_simp; done) | (obtain ⟨z0, z1, z2, z3, z4, z5, z6, z7⟩ := hW; go_simp; omega) | (obtain ⟨z0, z1, z2, z3, z4, z5, z6, z7⟩ := hW; go_simp; exact IntWalk.i64_in _ (by omega)) | (obtain ⟨z0, z1, z2, z3, z4, z5, z6, z7⟩ := hW; go_simp; simp [*]; done)⟩) hSs ?_
              try simp only [Act.put, List.setIfInBounds_toArray, List.set_cons_zero, List.set_cons_succ]
              refine wpAnyH_take (i := 2) (oi := ⟨some 49, _, _, _, _, _⟩) (v := .slice Al i cl) rfl (by kernel_rfl) (by kernel_rfl) (by kernel_rfl) (fun _ _ _ h => h) (.inl ⟨by kernel_rfl, fun W hW => by kernel_rfl⟩) hSs ?_
              try simp only [Act.put, List.setIfInBounds_toArray, List.set_cons_zero, List.set_cons_succ]
              refine wpAnyH_ready (rs := [3]) (by kernel_rfl) (by simp) (AllReadyH.cons rfl (fun K hK => ?_) AllReadyH.nil)
              go_simp
              refine (HRI.out _ (hb_1.drew) A0 c0 (EIn.below _ ht0 (Below.refl _ _).drew (Nat.le_refl _))).mono ?_
              rintro e u_2 ⟨A_2, c_2, rfl, hT_2, hq_2⟩
              have hb_2 := (hb_1.drew).trans (hq_2.mono (hb_1.drew).size)
              have ht0_2 := EIn.below _ (EIn.below _ ht0 (Below.refl _ _).drew (Nat.le_refl _)) hq_2 (Nat.le_refl _)
              have htu_2 := EIn.below _ (EIn.below _ htu (Below.refl _ _).drew (Nat.le_refl _)) hq_2 (Nat.le_refl _)
              clear ht0 htu
              refine hK.out _ _ (HSS.out _ hb_2) (fun hS_2 => ?_)
              clear hK K
              try simp only [Act.put, List.setIfInBounds_toArray, List.set_cons_zero, List.set_cons_succ]
              refine wpAnyH_ready (rs := [4]) (by kernel_rfl) (by simp) (AllReadyH.cons rfl (fun K hK => ?_) AllReadyH.nil)
              go_simp
              refine (HSX.out _ hb_2 Ax cx htu_2 A_2 c_2 hT_2).mono ?_
              rintro e u_3 ⟨rfl, hq_3⟩
              have hb_3 := hb_2.trans (hq_3.mono hb_2.size)
              have ht0_2_3 := EIn.below _ ht0_2 hq_3 (Nat.le_refl _)
              have htu_2_3 := EIn.below _ htu_2 hq_3 (Nat.le_refl _)
              have hT_2_3 := EIn.below _ hT_2 hq_3 (Nat.le_refl _)
              clear ht0_2 htu_2 hT_2
              refine hK.out _ _ (HSS.out _ hb_3) (fun hS_3 => ?_)
              clear hK K
              try simp only [Act.put, List.setIfInBounds_toArray, List.set_cons_zero, List.set_cons_succ]
              refine wpAnyH_take (i := 5) (oi := ⟨some 52, _, _, _, _, _⟩) (v := .bool false) rfl (by kernel_rfl) (by kernel_rfl) (by kernel_rfl) (fun _ _ _ h => h) (.inl ⟨by kernel_rfl, fun W hW => by kernel_rfl⟩) hS_3 ?_
              try simp only [Act.put, List.setIfInBounds_toArray, List.set_cons_zero, List.set_cons_succ]
              refine wpAnyH_take (i := 6) (oi := ⟨some 53, _, _, _, _, _⟩) (v := .bool false) rfl (by kernel_rfl) (by kernel_rfl) (by kernel_rfl) (fun _ _ _ h => h) (.inl ⟨by kernel_rfl, fun W hW => by kernel_rfl⟩) hS_3 ?_
              try simp only [Act.put, List.setIfInBounds_toArray, List.set_cons_zero, List.set_cons_succ]
              refine wpAnyH_take (i := 7) (oi := ⟨some 54, _, _, _, _, _⟩) (v := .agg #[.int .i64 tk, .int .i64 tn, .string tz, .slice A0 tl.length (capF tl.length c0)]) rfl (by kernel_rfl) (by kernel_rfl) (by kernel_rfl) (fun _ _ _ h => h) (.inl ⟨by kernel_rfl, fun W hW => by first | (obtain ⟨z0, z1, z2, z3, z4, z5, z6, z7⟩ := hW; go_simp; done) | (obtain ⟨z0, z1, z2, z3, z4, z5, z6, z7⟩ := hW; go_simp; omega) | (obtain ⟨z0, z1, z2, z3, z4, z5, z6, z7⟩ := hW; go_simp; exact IntWalk.i64_in _ (by omega)) | (obtain ⟨z0, z1, z2, z3, z4, z5, z6, z7⟩ := hW; go_simp; simp [*]; done)⟩) hS_3 ?_
              try simp only [Act.put, List.setIfInBounds_toArray, List.set_cons_zero, List.set_cons_succ]
              refine wpAnyH_ready (rs := [8]) (by kernel_rfl) (by simp) (AllReadyH.cons rfl (fun K hK => ?_) AllReadyH.nil)
              rw [if_pos (by kernel_rfl)]
              go_simp
              refine (HMY.out _ hb_3 A0 c0 ht0_2_3).mono ?_
              rintro e u_4 ⟨rfl, hq_4⟩
              have hb_4 := hb_3.trans (hq_4.mono hb_3.size)
              have ht0_2_3_4 := EIn.below _ ht0_2_3 hq_4 (Nat.le_refl _)
              have htu_2_3_4 := EIn.below _ htu_2_3 hq_4 (Nat.le_refl _)
              have hT_2_3_4 := EIn.below _ hT_2_3 hq_4 (Nat.le_refl _)
              clear ht0_2_3 htu_2_3 hT_2_3
              refine hK.out _ _ (HSS.out _ hb_4) (fun hS_4 => ?_)
              clear hK K
              try simp only [Act.put, List.setIfInBounds_toArray, List.set_cons_zero, List.set_cons_succ]
              refine wpAnyH_take (i := 9) (oi := ⟨some 56, _, _, _, _, _⟩) (v := .bool false) rfl (by kernel_rfl) (by kernel_rfl) (by kernel_rfl) (fun _ _ _ h => h) (.inl ⟨by kernel_rfl, fun W hW => by kernel_rfl⟩) hS_4 ?_
              try simp only [Act.put, List.setIfInBounds_toArray, List.set_cons_zero, List.set_cons_succ]
              refine wpAnyH_take (i := 10) (oi := ⟨some 57, _, _, _, _, _⟩) (v := .bool false) rfl (by kernel_rfl) (by kernel_rfl) (by kernel_rfl) (fun _ _ _ h => h) (.inl ⟨by kernel_rfl, fun W hW => by kernel_rfl⟩) hS_4 ?_
              try simp only [Act.put, List.setIfInBounds_toArray, List.set_cons_zero, List.set_cons_succ]
              refine wpAnyH_done (by kernel_rfl) ?_ _
              have hbx := hb_4
              have hx0 := HX0.out.step hbx
              have hxu := HXu.out.step hbx
              clear HSS hbx HX0 HXu HRI HSX HMY HLV ht0_2_3_4 htu_2_3_4 hT_2_3_4
              generalize u_4 = V2 at hx0 hxu ⊢
              have hct := may_cl _ _ _ hmt
              have hwt := clE_wf _ _ hct
              have htq : tameE 7000 8 (.node tk tn tz tl) := tameE_mono (by omega) (by omega) _ (clE_tame _ _ hct)
              obtain ⟨e00, e01, e02, e03⟩ := hx0.four
              have hl7 : Lies (V2.alloc (.cells #[.int .i64 tk, .int .i64 tn, .string tz, .slice A0 tl.length (capF tl.length c0)] 24)) V2.heap.size 24 #[.int .i64 tk, .int .i64 tn, .string tz, .slice A0 tl.length (capF tl.length c0)] := Lies.new _ _ _
              have hl0 := hx0.box.old (.cells #[.int .i64 tk, .int .i64 tn, .string tz, .slice A0 tl.length (capF tl.length c0)] 24)
              have hlu := hxu.box.old (.cells #[.int .i64 tk, .int .i64 tn, .string tz, .slice A0 tl.length (capF tl.length c0)] 24)
              have hzt : EIn (V2.alloc (.cells #[.int .i64 tk, .int .i64 tn, .string tz, .slice A0 tl.length (capF tl.length c0)] 24)) (fun g => g ≠ V2.heap.size) (.node tk tn tz tl) A0 := EIn.keep _ hx0.tin fun g j _ hlt => ⟨World.cell?_alloc_lt _ _ _ hlt, Nat.ne_of_lt hlt⟩
              have hzx : EIn (V2.alloc (.cells #[.int .i64 tk, .int .i64 tn, .string tz, .slice A0 tl.length (capF tl.length c0)] 24)) (fun g => g ≠ V2.heap.size) (.node xk xn xz xl) Ax := EIn.keep _ hxu.tin fun g j _ hlt => ⟨World.cell?_alloc_lt _ _ _ hlt, Nat.ne_of_lt hlt⟩
              have hlv : ELIn V2 Any l Al 0 := (ELIn.keep _ HLI.out fun g j _ hlt => ⟨(hx0.bw).cell (p := ⟨g, j, none⟩) hlt, trivial⟩)
              have hzl : ELIn (V2.alloc (.cells #[.int .i64 tk, .int .i64 tn, .string tz, .slice A0 tl.length (capF tl.length c0)] 24)) (fun g => g ≠ V2.heap.size) l Al 0 := ELIn.keep _ hlv fun g j _ hlt => ⟨World.cell?_alloc_lt _ _ _ hlt, Nat.ne_of_lt hlt⟩
              have hbw7 := hx0.bw.alloc hx0.bw.size (.cells #[.int .i64 tk, .int .i64 tn, .string tz, .slice A0 tl.length (capF tl.length c0)] 24)
              have hg7 := hx0.bw.size
              have hn0 : g0 ≠ V2.heap.size := Nat.ne_of_lt hx0.box.lt
              have hnu : gu ≠ V2.heap.size := Nat.ne_of_lt hxu.box.lt
              clear hx0 hxu hlv HLI
              go_wp2_with fail
              obtain ⟨g7, hg7e⟩ : ∃ g, g = V2.heap.size := ⟨_, rfl⟩
              rw [← hg7e] at hl7 hzt hzx hzl hg7 hn0 hnu ⊢
              obtain ⟨W7, hW7⟩ : ∃ W, W = V2.alloc (.cells #[.int .i64 tk, .int .i64 tn, .string tz, .slice A0 tl.length (capF tl.length c0)] 24) := ⟨_, rfl⟩
              rw [← hW7] at hl7 hl0 hlu hzt hzx hzl hbw7 ⊢
              clear hW7 hg7e e00 e01 e02 e03
              have HG7 := Lib.hid hg7
              have HN0 := Lib.hid hn0
              have HNu := Lib.hid hnu
              clear hg7 hn0 hnu
              go_loopw [8] (fun x wr => ∃ (q : Nat) (yk yn : Int) (yz : ByteArray) (yl : List Te) (Ay : Option Addr) (cy : Nat), q ≤ i ∧ x = .int .i64 ((q : Int) - 1) ∧ Hid (instE (.node tk tn tz tl) l = instE (.node yk yn yz yl) (l.take q)) ∧ Hid (wfE (.node yk yn yz yl)) ∧ depthE (.node yk yn yz yl) ≤ 600 * (i - q + 1) ∧ Hid (sizeE (.node yk yn yz yl) ≤ 100 ^ (i - q + 1)) ∧ Hid (tameE (7000 + 40000 * ((i : Int) - q)) 8 (.node yk yn yz yl)) ∧ Hid (∀ u ∈ l.drop q, mayQ u 5 false = true) ∧
                  Lies wr g7 24 #[.int .i64 yk, .int .i64 yn, .string yz, .slice Ay yl.length (capF yl.length cy)] ∧ EIn wr (fun g => g ≠ g7) (.node yk yn yz yl) Ay ∧ Lies wr g0 24 #[.int .i64 tk, .int .i64 tn, .string tz, .slice A0 tl.length (capF tl.length c0)] ∧ Lies wr gu 24 #[.int .i64 xk, .int .i64 xn, .string xz, .slice Ax xl.length (capF xl.length cx)] ∧ EIn wr (fun g => g ≠ g7) (.node tk tn tz tl) A0 ∧ EIn wr (fun g => g ≠ g7) (.node xk xn xz xl) Ax ∧ ELIn wr (fun g => g ≠ g7) l Al 0 ∧ Below w.heap.size w wr) (fun x _ => (intOf x + 1).toNat)
              case atStart =>
                exact ⟨i, tk, tn, tz, tl, A0, c0, by omega, rfl, Lib.hid (by rw [List.take_of_length_le (by omega)]), Lib.hid hwt, by omega, Lib.hid (by rw [Nat.sub_self]; omega), Lib.hid (by simpa using htq), Lib.hid (by rw [List.drop_of_length_le (by omega)]; simp), hl7, hzt, hl0, hlu, hzt, hzx, hzl, hbw7⟩
              case round =>
                clear hl7 hl0 hlu hzt hzx hzl hbw7
                obtain ⟨q, yk, yn, yz, yl, Ay, cy, hq, rfl, HI9, HW9, hd9, HS9, HT9, HMA, l7, hty, l0, lu, hzt, hzx, hzl, hbw⟩ := hrel
                have HBW := Lib.hid hbw
                have HL0 := Lib.hid l0
                have HLu := Lib.hid lu
                have HT0 := Lib.hid hzt
                have HTX := Lib.hid hzx
                have HLL := Lib.hid hzl
                by_cases hq0 : q < 1
                · obtain rfl : q = 0 := by omega
                  clear hq0
                  have hXY : ((.node xk xn xz xl) : Te) = ((.node yk yn yz yl) : Te) := by rw [HX.out, HI9.out, List.take_zero]; exact inst_nil HW9.out
                  have hse : sameE ((.node xk xn xz xl) : Te) ((.node yk yn yz yl) : Te) = true := by rw [hXY]; exact sameE_refl _
                  have HX1 : Hid (∀ (h : i = 1), (putE (.node tk tn tz tl) 0 (l[0]'(by omega) : Te) : Te) = ((.node xk xn xz xl) : Te)) := Lib.hid fun h => by
                    rw [HX.out]
                    obtain ⟨x0, hx0⟩ : ∃ x0, l = [x0] := by
                      match l, (show l.length = 1 by omega) with
                      | [x0], _ => exact ⟨x0, rfl⟩
                    subst hx0
                    exact (inst_one hwt (clE_wf _ _ (may_cl _ _ _ (HMA.out x0 (by simp))))).symm
                  have HSE := Lib.hid hse
                  clear hse hXY HI9 HW9 HS9 HT9 HMA HTX HT0 HLL HL0 HLu
                  by_cases hi1 : (i : Int) = 1
                  · have h0l : 0 < l.length := by omega
                    have hq1 := HX1.out (by omega)
                    obtain ⟨g, o, B, b, ⟨hA, hgn⟩, d0, d1, d2, d3, hIn⟩ := ELIn.at_ l hzl 0 h0l
                    subst hA
                    simp only [Nat.zero_mul, Nat.add_zero] at d0 d1 d2 d3
                    have HFV := Lib.hid (HFL.out _ (List.getElem_mem h0l))
                    obtain ⟨tr, hu⟩ : ∃ tr, tr = l[0]'h0l := ⟨_, rfl⟩
                    rw [← hu] at d0 d1 d2 d3 hIn hq1 HFV
                    clear hu
                    obtain ⟨vk, vn, vz, vl⟩ := tr
                    simp only [Te.kind, Te.n, Te.name, Te.parts] at d0 d1 d2 d3
                    have hvs : sizeE (.node vk vn vz vl) ≤ 100 := HFV.out.1
                    have hvd : depthE (.node vk vn vz vl) ≤ 600 := HFV.out.2.1
                    have hvt := HFV.out.2.2
                    have htv := EIn.any _ hIn
                    have hgl := cell_lt d0
                    have HQ1 := Lib.hid hq1
                    clear hq1 hIn HFV
                    have hbw1 := HBW.out
                    have hi0 : 0 ≤ (i : Int) := by omega
                    have HT1 := Lib.hid (EIn.any _ hzt)
                    have HT2 := Lib.hid (EIn.any _ hzx)
                    have HT3 := Lib.hid (EIn.any _ hty)
                    have htt1 := HT1.out
                    have htx1 := HT2.out
                    have hty1 := HT3.out
                    have HSS : Hid (∀ V', Below wr.heap.size wr V' → (fun V' : World => (V'.cell? ⟨g7, 0, none⟩ = some (.int .i64 yk) ∧ V'.cell? ⟨g7, 1, none⟩ = some (.int .i64 yn) ∧ V'.cell? ⟨g7, 2, none⟩ = some (.string yz) ∧ V'.cell? ⟨g7, 3, none⟩ = some (.slice Ay yl.length (capF yl.length cy)) ∧ V'.cell? ⟨gu, 0, none⟩ = some (.int .i64 xk) ∧ V'.cell? ⟨gu, 1, none⟩ = some (.int .i64 xn) ∧ V'.cell? ⟨gu, 2, none⟩ = some (.string xz) ∧ V'.cell? ⟨gu, 3, none⟩ = some (.slice Ax xl.length (capF xl.length cx)) ∧ V'.cell? ⟨g0, 0, none⟩ = some (.int .i64 tk) ∧ V'.cell? ⟨g0, 1, none⟩ = some (.int .i64 tn) ∧ V'.cell? ⟨g0, 2, none⟩ = some (.string tz) ∧ V'.cell? ⟨g0, 3, none⟩ = some (.slice A0 tl.length (capF tl.length c0)) ∧ V'.cell? ⟨g, o, none⟩ = some (.int .i64 vk) ∧ V'.cell? ⟨g, o + 1, none⟩ = some (.int .i64 vn) ∧ V'.cell? ⟨g, o + 2, none⟩ = some (.string vz) ∧ V'.cell? ⟨g, o + 3, none⟩ = some (.slice B vl.length (capF vl.length b)))) V') := Lib.hid fun V' h =>
                      ⟨(h.cell (p := ⟨g7, 0, none⟩) l7.lt).trans (l7.cell 0), (h.cell (p := ⟨g7, 1, none⟩) l7.lt).trans (l7.cell 1), (h.cell (p := ⟨g7, 2, none⟩) l7.lt).trans (l7.cell 2), (h.cell (p := ⟨g7, 3, none⟩) l7.lt).trans (l7.cell 3), (h.cell (p := ⟨gu, 0, none⟩) lu.lt).trans (lu.cell 0), (h.cell (p := ⟨gu, 1, none⟩) lu.lt).trans (lu.cell 1), (h.cell (p := ⟨gu, 2, none⟩) lu.lt).trans (lu.cell 2), (h.cell (p := ⟨gu, 3, none⟩) lu.lt).trans (lu.cell 3), (h.cell (p := ⟨g0, 0, none⟩) l0.lt).trans (l0.cell 0), (h.cell (p := ⟨g0, 1, none⟩) l0.lt).trans (l0.cell 1), (h.cell (p := ⟨g0, 2, none⟩) l0.lt).trans (l0.cell 2), (h.cell (p := ⟨g0, 3, none⟩) l0.lt).trans (l0.cell 3), (h.cell (p := ⟨g, _, none⟩) hgl).trans d0, (h.cell (p := ⟨g, _, none⟩) hgl).trans d1, (h.cell (p := ⟨g, _, none⟩) hgl).trans d2, (h.cell (p := ⟨g, _, none⟩) hgl).trans d3⟩
                    clear HT1 HT2 HT3
                    have HFX : Hid (∀ X, Below wr.heap.size wr X → Calls Try.prog 11 #[] X fun e w' => e = .returned (.bool true) ∧ Below X.heap.size X w') := Lib.hid fun X hX => fixed8_any X
                    have HSM : Hid (∀ X, Below wr.heap.size wr X → ∀ (A : Option Addr) (c : Nat) (hA : EIn X Any (.node xk xn xz xl) A) (B : Option Addr) (d : Nat) (hB : EIn X Any (.node yk yn yz yl) B), Calls Try.prog 12 #[.agg #[.int .i64 xk, .int .i64 xn, .string xz, .slice A xl.length (capF xl.length c)], .agg #[.int .i64 yk, .int .i64 yn, .string yz, .slice B yl.length (capF yl.length d)]] X fun e w' => e = .returned (.bool true) ∧ Below X.heap.size X w') := Lib.hid fun X hX A c hA B d hB => by
                      have h := rsame6_any (depthE (.node xk xn xz xl)) (.node xk xn xz xl) (.node yk yn yz yl) A B c d X (Nat.le_refl _) hA hB
                      rw [HSE.out] at h
                      exact h
                    have HPT : Hid (∀ X, Below wr.heap.size wr X → ∀ (A : Option Addr) (c : Nat) (hA : EIn X Any (.node tk tn tz tl) A) (B : Option Addr) (d : Nat) (hB : EIn X Any (.node vk vn vz vl) B), Calls Try.prog 15 #[.agg #[.int .i64 tk, .int .i64 tn, .string tz, .slice A tl.length (capF tl.length c)], .int .i64 0, .agg #[.int .i64 vk, .int .i64 vn, .string vz, .slice B vl.length (capF vl.length d)]] X fun e w' => ∃ A c, e = .returned (.agg #[.int .i64 xk, .int .i64 xn, .string xz, .slice A xl.length (capF xl.length c)]) ∧ EIn w' Any (.node xk xn xz xl) A ∧ Below X.heap.size X w') := Lib.hid fun X hX A c hA B d hB => by
                      have h := put_any (.node tk tn tz tl) (.node vk vn vz vl) A B c d 0 X hA (by omega) (by omega) htt hB (by omega) (by omega) hvt (by omega) (by omega)
                      rw [HQ1.out] at h
                      exact h.mono fun e w' h => h.any
                    have HS2 : Hid (∀ X, Below wr.heap.size wr X → ∀ (A : Option Addr) (c : Nat) (hA : EIn X Any (.node xk xn xz xl) A) (B : Option Addr) (d : Nat) (hB : EIn X Any (.node xk xn xz xl) B), Calls Try.prog 12 #[.agg #[.int .i64 xk, .int .i64 xn, .string xz, .slice A xl.length (capF xl.length c)], .agg #[.int .i64 xk, .int .i64 xn, .string xz, .slice B xl.length (capF xl.length d)]] X fun e w' => e = .returned (.bool true) ∧ Below X.heap.size X w') := Lib.hid fun X hX A c hA B d hB => by
                      have h := rsame6_any (depthE (.node xk xn xz xl)) (.node xk xn xz xl) (.node xk xn xz xl) A B c d X (Nat.le_refl _) hA hB
                      rw [sameE_refl] at h
                      exact h
                    clear l7 hty l0 lu hzt hzx hzl hbw d0 d1 d2 d3
                    go_upto_region 18 with fail
                    have hb_1 : Below wr.heap.size wr wr := Below.refl _ _
                    refine wp_region_K (S := (fun V' : World => (V'.cell? ⟨g7, 0, none⟩ = some (.int .i64 yk) ∧ V'.cell? ⟨g7, 1, none⟩ = some (.int .i64 yn) ∧ V'.cell? ⟨g7, 2, none⟩ = some (.string yz) ∧ V'.cell? ⟨g7, 3, none⟩ = some (.slice Ay yl.length (capF yl.length cy)) ∧ V'.cell? ⟨gu, 0, none⟩ = some (.int .i64 xk) ∧ V'.cell? ⟨gu, 1, none⟩ = some (.int .i64 xn) ∧ V'.cell? ⟨gu, 2, none⟩ = some (.string xz) ∧ V'.cell? ⟨gu, 3, none⟩ = some (.slice Ax xl.length (capF xl.length cx)) ∧ V'.cell? ⟨g0, 0, none⟩ = some (.int .i64 tk) ∧ V'.cell? ⟨g0, 1, none⟩ = some (.int .i64 tn) ∧ V'.cell? ⟨g0, 2, none⟩ = some (.string tz) ∧ V'.cell? ⟨g0, 3, none⟩ = some (.slice A0 tl.length (capF tl.length c0)) ∧ V'.cell? ⟨g, o, none⟩ = some (.int .i64 vk) ∧ V'.cell? ⟨g, o + 1, none⟩ = some (.int .i64 vn) ∧ V'.cell? ⟨g, o + 2, none⟩ = some (.string vz) ∧ V'.cell? ⟨g, o + 3, none⟩ = some (.slice B vl.length (capF vl.length b))))) 20 rfl (HSS.out _ hb_1.drew) (fun hSs => ?_)
                    change wpAnyK _ _ _ _ _ _ 21 (Array.replicate 21 false) _ _
                    refine wpAnyK_one (i := 0) rfl rfl (by kernel_rfl) (fun K hK => ?_)
                    go_simp
                    refine (HFX.out _ (hb_1.drew)).mono ?_
                    rintro e u_2 ⟨rfl, hq_2⟩
                    have hb_2 := (hb_1.drew).trans (hq_2.mono (hb_1.drew).size)
                    have htt1_2 := EIn.below _ (EIn.below _ htt1 (Below.refl _ _).drew (Nat.le_refl _)) hq_2 (Nat.le_refl _)
                    have htx1_2 := EIn.below _ (EIn.below _ htx1 (Below.refl _ _).drew (Nat.le_refl _)) hq_2 (Nat.le_refl _)
                    have hty1_2 := EIn.below _ (EIn.below _ hty1 (Below.refl _ _).drew (Nat.le_refl _)) hq_2 (Nat.le_refl _)
                    have htv_2 := EIn.below _ (EIn.below _ htv (Below.refl _ _).drew (Nat.le_refl _)) hq_2 (Nat.le_refl _)
                    clear htt1 htx1 hty1 htv
                    refine hK.out _ _ (fun _ => HSS.out _ hb_2) (fun hS9 => ?_)
                    have hS_2 := hS9 (by decide)
                    clear hK K hS9
                    try simp only [Act.put, List.setIfInBounds_toArray, List.set_cons_zero, List.set_cons_succ]
                    refine wpAnyK_take (i := 1) (oi := ⟨some 90, _, _, _, _, _⟩) (v := .bool true) rfl (by kernel_rfl) (by kernel_rfl) (by kernel_rfl) (by kernel_rfl) (fun _ _ _ h => h) (.inl ⟨by kernel_rfl, fun W hW => by kernel_rfl⟩) hS_2 ?_
                    try simp only [Act.put, List.setIfInBounds_toArray, List.set_cons_zero, List.set_cons_succ]
                    refine wpAnyK_take (i := 2) (oi := ⟨some 91, _, _, _, _, _⟩) (v := .agg #[.int .i64 xk, .int .i64 xn, .string xz, .slice Ax xl.length (capF xl.length cx)]) rfl (by kernel_rfl) (by kernel_rfl) (by kernel_rfl) (by kernel_rfl) (fun _ _ _ h => h) (.inl ⟨by kernel_rfl, fun W hW => by first | (obtain ⟨z0, z1, z2, z3, z4, z5, z6, z7, z8, z9, z10, z11, z12, z13, z14, z15⟩ := hW; go_simp; done) | (obtain ⟨z0, z1, z2, z3, z4, z5, z6, z7, z8, z9, z10, z11, z12, z13, z14, z15⟩ := hW; go_simp; omega) | (obtain ⟨z0, z1, z2, z3, z4, z5, z6, z7, z8, z9, z10, z11, z12, z13, z14, z15⟩ := hW; go_simp; exact IntWalk.i64_in _ (by omega)) | (obtain ⟨z0, z1, z2, z3, z4, z5, z6, z7, z8, z9, z10, z11, z12, z13, z14, z15⟩ := hW; go_simp; simp [*]; done)⟩) hS_2 ?_
                    try simp only [Act.put, List.setIfInBounds_toArray, List.set_cons_zero, List.set_cons_succ]
                    refine wpAnyK_take (i := 3) (oi := ⟨some 92, _, _, _, _, _⟩) (v := .agg #[.int .i64 yk, .int .i64 yn, .string yz, .slice Ay yl.length (capF yl.length cy)]) rfl (by kernel_rfl) (by kernel_rfl) (by kernel_rfl) (by kernel_rfl) (fun _ _ _ h => h) (.inl ⟨by kernel_rfl, fun W hW => by first | (obtain ⟨z0, z1, z2, z3, z4, z5, z6, z7, z8, z9, z10, z11, z12, z13, z14, z15⟩ := hW; go_simp; done) | (obtain ⟨z0, z1, z2, z3, z4, z5, z6, z7, z8, z9, z10, z11, z12, z13, z14, z15⟩ := hW; go_simp; omega) | (obtain ⟨z0, z1, z2, z3, z4, z5, z6, z7, z8, z9, z10, z11, z12, z13, z14, z15⟩ := hW; go_simp; exact IntWalk.i64_in _ (by omega)) | (obtain ⟨z0, z1, z2, z3, z4, z5, z6, z7, z8, z9, z10, z11, z12, z13, z14, z15⟩ := hW; go_simp; simp [*]; done)⟩) hS_2 ?_
                    try simp only [Act.put, List.setIfInBounds_toArray, List.set_cons_zero, List.set_cons_succ]
                    refine wpAnyK_oneW (i := 4) rfl (by kernel_rfl) (by kernel_rfl) (fun K hK => ?_)
                    go_simp
                    refine (HSM.out _ hb_2 Ax cx htx1_2 Ay cy hty1_2).mono ?_
                    rintro e u_3 ⟨rfl, hq_3⟩
                    have hb_3 := hb_2.trans (hq_3.mono hb_2.size)
                    have htt1_2_3 := EIn.below _ htt1_2 hq_3 (Nat.le_refl _)
                    have htx1_2_3 := EIn.below _ htx1_2 hq_3 (Nat.le_refl _)
                    have hty1_2_3 := EIn.below _ hty1_2 hq_3 (Nat.le_refl _)
                    have htv_2_3 := EIn.below _ htv_2 hq_3 (Nat.le_refl _)
                    clear htt1_2 htx1_2 hty1_2 htv_2
                    refine hK.out _ _ (fun _ => HSS.out _ hb_3) (fun hS9 => ?_)
                    have hS_3 := hS9 (by decide)
                    clear hK K hS9
                    try simp only [Act.put, List.setIfInBounds_toArray, List.set_cons_zero, List.set_cons_succ]
                    refine wpAnyK_take (i := 5) (oi := ⟨some 94, _, _, _, _, _⟩) (v := .bool true) rfl (by kernel_rfl) (by kernel_rfl) (by kernel_rfl) (by kernel_rfl) (fun _ _ _ h => h) (.inl ⟨by kernel_rfl, fun W hW => by kernel_rfl⟩) hS_3 ?_
                    try simp only [Act.put, List.setIfInBounds_toArray, List.set_cons_zero, List.set_cons_succ]
                    refine wpAnyK_take (i := 6) (oi := ⟨some 95, _, _, _, _, _⟩) (v := .bool true) rfl (by kernel_rfl) (by kernel_rfl) (by kernel_rfl) (by kernel_rfl) (fun _ _ _ h => h) (.inl ⟨by kernel_rfl, fun W hW => by kernel_rfl⟩) hS_3 ?_
                    try simp only [Act.put, List.setIfInBounds_toArray, List.set_cons_zero, List.set_cons_succ]
                    refine wpAnyK_take (i := 7) (oi := ⟨some 96, _, _, _, _, _⟩) (v := .slice (some ⟨g, o, none⟩) i cl) rfl (by kernel_rfl) (by kernel_rfl) (by kernel_rfl) (by kernel_rfl) (fun _ _ _ h => h) (.inl ⟨by kernel_rfl, fun W hW => by kernel_rfl⟩) hS_3 ?_
                    try simp only [Act.put, List.setIfInBounds_toArray, List.set_cons_zero, List.set_cons_succ]
                    refine wpAnyK_take (i := 8) (oi := ⟨some 97, _, _, _, _, _⟩) (v := .int .i64 i) rfl (by kernel_rfl) (by kernel_rfl) (by kernel_rfl) (by kernel_rfl) (fun _ _ _ h => h) (.inl ⟨by kernel_rfl, fun W hW => by first | (obtain ⟨z0, z1, z2, z3, z4, z5, z6, z7, z8, z9, z10, z11, z12, z13, z14, z15⟩ := hW; go_simp; done) | (obtain ⟨z0, z1, z2, z3, z4, z5, z6, z7, z8, z9, z10, z11, z12, z13, z14, z15⟩ := hW; go_simp; omega) | (obtain ⟨z0, z1, z2, z3, z4, z5, z6, z7, z8, z9, z10, z11, z12, z13, z14, z15⟩ := hW; go_simp; exact IntWalk.i64_in _ (by omega)) | (obtain ⟨z0, z1, z2, z3, z4, z5, z6, z7, z8, z9, z10, z11, z12, z13, z14, z15⟩ := hW; go_simp; simp [*]; done)⟩) hS_3 ?_
                    try simp only [Act.put, List.setIfInBounds_toArray, List.set_cons_zero, List.set_cons_succ]
                    refine wpAnyK_take (i := 9) (oi := ⟨some 98, _, _, _, _, _⟩) (v := .bool false) rfl (by kernel_rfl) (by kernel_rfl) (by kernel_rfl) (by kernel_rfl) (fun _ _ _ h => h) (.inl ⟨by kernel_rfl, fun W hW => by first | (obtain ⟨z0, z1, z2, z3, z4, z5, z6, z7, z8, z9, z10, z11, z12, z13, z14, z15⟩ := hW; go_simp; done) | (obtain ⟨z0, z1, z2, z3, z4, z5, z6, z7, z8, z9, z10, z11, z12, z13, z14, z15⟩ := hW; go_simp; omega) | (obtain ⟨z0, z1, z2, z3, z4, z5, z6, z7, z8, z9, z10, z11, z12, z13, z14, z15⟩ := hW; go_simp; exact IntWalk.i64_in _ (by omega)) | (obtain ⟨z0, z1, z2, z3, z4, z5, z6, z7, z8, z9, z10, z11, z12, z13, z14, z15⟩ := hW; go_simp; simp [*]; done)⟩) hS_3 ?_
                    try simp only [Act.put, List.setIfInBounds_toArray, List.set_cons_zero, List.set_cons_succ]
                    refine wpAnyK_take (i := 10) (oi := ⟨some 99, _, _, _, _, _⟩) (v := .bool false) rfl (by kernel_rfl) (by kernel_rfl) (by kernel_rfl) (by kernel_rfl) (fun _ _ _ h => h) (.inl ⟨by kernel_rfl, fun W hW => by kernel_rfl⟩) hS_3 ?_
                    try simp only [Act.put, List.setIfInBounds_toArray, List.set_cons_zero, List.set_cons_succ]
                    refine wpAnyK_take (i := 11) (oi := ⟨some 100, _, _, _, _, _⟩) (v := .agg #[.int .i64 xk, .int .i64 xn, .string xz, .slice Ax xl.length (capF xl.length cx)]) rfl (by kernel_rfl) (by kernel_rfl) (by kernel_rfl) (by kernel_rfl) (fun _ _ _ h => h) (.inl ⟨by kernel_rfl, fun W hW => by first | (obtain ⟨z0, z1, z2, z3, z4, z5, z6, z7, z8, z9, z10, z11, z12, z13, z14, z15⟩ := hW; go_simp; done) | (obtain ⟨z0, z1, z2, z3, z4, z5, z6, z7, z8, z9, z10, z11, z12, z13, z14, z15⟩ := hW; go_simp; omega) | (obtain ⟨z0, z1, z2, z3, z4, z5, z6, z7, z8, z9, z10, z11, z12, z13, z14, z15⟩ := hW; go_simp; exact IntWalk.i64_in _ (by omega)) | (obtain ⟨z0, z1, z2, z3, z4, z5, z6, z7, z8, z9, z10, z11, z12, z13, z14, z15⟩ := hW; go_simp; simp [*]; done)⟩) hS_3 ?_
                    try simp only [Act.put, List.setIfInBounds_toArray, List.set_cons_zero, List.set_cons_succ]
                    refine wpAnyK_take (i := 12) (oi := ⟨some 101, _, _, _, _, _⟩) (v := .agg #[.int .i64 tk, .int .i64 tn, .string tz, .slice A0 tl.length (capF tl.length c0)]) rfl (by kernel_rfl) (by kernel_rfl) (by kernel_rfl) (by kernel_rfl) (fun _ _ _ h => h) (.inl ⟨by kernel_rfl, fun W hW => by first | (obtain ⟨z0, z1, z2, z3, z4, z5, z6, z7, z8, z9, z10, z11, z12, z13, z14, z15⟩ := hW; go_simp; done) | (obtain ⟨z0, z1, z2, z3, z4, z5, z6, z7, z8, z9, z10, z11, z12, z13, z14, z15⟩ := hW; go_simp; omega) | (obtain ⟨z0, z1, z2, z3, z4, z5, z6, z7, z8, z9, z10, z11, z12, z13, z14, z15⟩ := hW; go_simp; exact IntWalk.i64_in _ (by omega)) | (obtain ⟨z0, z1, z2, z3, z4, z5, z6, z7, z8, z9, z10, z11, z12, z13, z14, z15⟩ := hW; go_simp; simp [*]; done)⟩) hS_3 ?_
                    try simp only [Act.put, List.setIfInBounds_toArray, List.set_cons_zero, List.set_cons_succ]
                    refine wpAnyK_take (i := 13) (oi := ⟨some 102, _, _, _, _, _⟩) (v := .slice (some ⟨g, o, none⟩) i cl) rfl (by kernel_rfl) (by kernel_rfl) (by kernel_rfl) (by kernel_rfl) (fun _ _ _ h => h) (.inl ⟨by kernel_rfl, fun W hW => by kernel_rfl⟩) hS_3 ?_
                    try simp only [Act.put, List.setIfInBounds_toArray, List.set_cons_zero, List.set_cons_succ]
                    refine wpAnyK_take (i := 14) (oi := ⟨some 103, _, _, _, _, _⟩) (v := .pointer (some ⟨g, o, none⟩)) rfl (by kernel_rfl) (by kernel_rfl) (by kernel_rfl) (by kernel_rfl) (fun _ _ _ h => h) (.inl ⟨by kernel_rfl, fun W hW => by first | (obtain ⟨z0, z1, z2, z3, z4, z5, z6, z7, z8, z9, z10, z11, z12, z13, z14, z15⟩ := hW; go_simp; done) | (obtain ⟨z0, z1, z2, z3, z4, z5, z6, z7, z8, z9, z10, z11, z12, z13, z14, z15⟩ := hW; go_simp; omega) | (obtain ⟨z0, z1, z2, z3, z4, z5, z6, z7, z8, z9, z10, z11, z12, z13, z14, z15⟩ := hW; go_simp; exact IntWalk.i64_in _ (by omega)) | (obtain ⟨z0, z1, z2, z3, z4, z5, z6, z7, z8, z9, z10, z11, z12, z13, z14, z15⟩ := hW; go_simp; simp [*]; done)⟩) hS_3 ?_
                    try simp only [Act.put, List.setIfInBounds_toArray, List.set_cons_zero, List.set_cons_succ]
                    refine wpAnyK_take (i := 15) (oi := ⟨some 104, _, _, _, _, _⟩) (v := .agg #[.int .i64 vk, .int .i64 vn, .string vz, .slice B vl.length (capF vl.length b)]) rfl (by kernel_rfl) (by kernel_rfl) (by kernel_rfl) (by kernel_rfl) (fun _ _ _ h => h) (.inl ⟨by kernel_rfl, fun W hW => by first | (obtain ⟨z0, z1, z2, z3, z4, z5, z6, z7, z8, z9, z10, z11, z12, z13, z14, z15⟩ := hW; go_simp; done) | (obtain ⟨z0, z1, z2, z3, z4, z5, z6, z7, z8, z9, z10, z11, z12, z13, z14, z15⟩ := hW; go_simp; omega) | (obtain ⟨z0, z1, z2, z3, z4, z5, z6, z7, z8, z9, z10, z11, z12, z13, z14, z15⟩ := hW; go_simp; exact IntWalk.i64_in _ (by omega)) | (obtain ⟨z0, z1, z2, z3, z4, z5, z6, z7, z8, z9, z10, z11, z12, z13, z14, z15⟩ := hW; go_simp; simp [*]; done)⟩) hS_3 ?_
                    try simp only [Act.put, List.setIfInBounds_toArray, List.set_cons_zero, List.set_cons_succ]
                    refine wpAnyK_oneW (i := 16) rfl (by kernel_rfl) (by kernel_rfl) (fun K hK => ?_)
                    go_simp
                    refine (HPT.out _ hb_3 A0 c0 htt1_2_3 B b htv_2_3).mono ?_
                    rintro e u_4 ⟨A_4, c_4, rfl, hT_4, hq_4⟩
                    have hb_4 := hb_3.trans (hq_4.mono hb_3.size)
                    have htt1_2_3_4 := EIn.below _ htt1_2_3 hq_4 (Nat.le_refl _)
                    have htx1_2_3_4 := EIn.below _ htx1_2_3 hq_4 (Nat.le_refl _)
                    have hty1_2_3_4 := EIn.below _ hty1_2_3 hq_4 (Nat.le_refl _)
                    have htv_2_3_4 := EIn.below _ htv_2_3 hq_4 (Nat.le_refl _)
                    clear htt1_2_3 htx1_2_3 hty1_2_3 htv_2_3
                    refine hK.out _ _ (fun _ => HSS.out _ hb_4) (fun hS9 => ?_)
                    have hS_4 := hS9 (by decide)
                    clear hK K hS9
                    try simp only [Act.put, List.setIfInBounds_toArray, List.set_cons_zero, List.set_cons_succ]
                    refine wpAnyK_oneW (i := 17) rfl (by kernel_rfl) (by kernel_rfl) (fun K hK => ?_)
                    go_simp
                    refine (HS2.out _ hb_4 Ax cx htx1_2_3_4 A_4 c_4 hT_4).mono ?_
                    rintro e u_5 ⟨rfl, hq_5⟩
                    have hb_5 := hb_4.trans (hq_5.mono hb_4.size)
                    have htt1_2_3_4_5 := EIn.below _ htt1_2_3_4 hq_5 (Nat.le_refl _)
                    have htx1_2_3_4_5 := EIn.below _ htx1_2_3_4 hq_5 (Nat.le_refl _)
                    have hty1_2_3_4_5 := EIn.below _ hty1_2_3_4 hq_5 (Nat.le_refl _)
                    have htv_2_3_4_5 := EIn.below _ htv_2_3_4 hq_5 (Nat.le_refl _)
                    have hT_4_5 := EIn.below _ hT_4 hq_5 (Nat.le_refl _)
                    clear htt1_2_3_4 htx1_2_3_4 hty1_2_3_4 htv_2_3_4 hT_4
                    refine hK.out _ _ (fun _ => HSS.out _ hb_5) (fun hS9 => ?_)
                    have hS_5 := hS9 (by decide)
                    clear hK K hS9
                    try simp only [Act.put, List.setIfInBounds_toArray, List.set_cons_zero, List.set_cons_succ]
                    refine wpAnyK_take (i := 18) (oi := ⟨some 107, _, _, _, _, _⟩) (v := .bool true) rfl (by kernel_rfl) (by kernel_rfl) (by kernel_rfl) (by kernel_rfl) (fun _ _ _ h => h) (.inl ⟨by kernel_rfl, fun W hW => by kernel_rfl⟩) hS_5 ?_
                    try simp only [Act.put, List.setIfInBounds_toArray, List.set_cons_zero, List.set_cons_succ]
                    refine wpAnyK_take (i := 19) (oi := ⟨some 108, _, _, _, _, _⟩) (v := .bool true) rfl (by kernel_rfl) (by kernel_rfl) (by kernel_rfl) (by kernel_rfl) (fun _ _ _ h => h) (.inl ⟨by kernel_rfl, fun W hW => by kernel_rfl⟩) hS_5 ?_
                    try simp only [Act.put, List.setIfInBounds_toArray, List.set_cons_zero, List.set_cons_succ]
                    refine wpAnyK_one (i := 20) rfl rfl (by kernel_rfl) (fun K hK => ?_)
                    go_simp
                    refine hK.out _ _ (fun h => absurd rfl h) (fun _ => ?_)
                    clear hK K
                    try simp only [Act.put, List.setIfInBounds_toArray, List.set_cons_zero, List.set_cons_succ]
                    refine wpAnyK_done (by kernel_rfl) ?_ _
                    have hbx := HBW.out.trans (hb_5.mono HBW.out.size)
                    go_wp2_with fail
                    go_ret
                    exact ⟨rfl, hbx⟩
                  · have hbw1 := HBW.out
                    have hi0 : 0 ≤ (i : Int) := by omega
                    have HT1 := Lib.hid (EIn.any _ hzt)
                    have HT2 := Lib.hid (EIn.any _ hzx)
                    have HT3 := Lib.hid (EIn.any _ hty)
                    have htt1 := HT1.out
                    have htx1 := HT2.out
                    have hty1 := HT3.out
                    have HSS : Hid (∀ V', Below wr.heap.size wr V' → (fun V' : World => (V'.cell? ⟨g7, 0, none⟩ = some (.int .i64 yk) ∧ V'.cell? ⟨g7, 1, none⟩ = some (.int .i64 yn) ∧ V'.cell? ⟨g7, 2, none⟩ = some (.string yz) ∧ V'.cell? ⟨g7, 3, none⟩ = some (.slice Ay yl.length (capF yl.length cy)) ∧ V'.cell? ⟨gu, 0, none⟩ = some (.int .i64 xk) ∧ V'.cell? ⟨gu, 1, none⟩ = some (.int .i64 xn) ∧ V'.cell? ⟨gu, 2, none⟩ = some (.string xz) ∧ V'.cell? ⟨gu, 3, none⟩ = some (.slice Ax xl.length (capF xl.length cx)) ∧ V'.cell? ⟨g0, 0, none⟩ = some (.int .i64 tk) ∧ V'.cell? ⟨g0, 1, none⟩ = some (.int .i64 tn) ∧ V'.cell? ⟨g0, 2, none⟩ = some (.string tz) ∧ V'.cell? ⟨g0, 3, none⟩ = some (.slice A0 tl.length (capF tl.length c0)))) V') := Lib.hid fun V' h =>
                      ⟨(h.cell (p := ⟨g7, 0, none⟩) l7.lt).trans (l7.cell 0), (h.cell (p := ⟨g7, 1, none⟩) l7.lt).trans (l7.cell 1), (h.cell (p := ⟨g7, 2, none⟩) l7.lt).trans (l7.cell 2), (h.cell (p := ⟨g7, 3, none⟩) l7.lt).trans (l7.cell 3), (h.cell (p := ⟨gu, 0, none⟩) lu.lt).trans (lu.cell 0), (h.cell (p := ⟨gu, 1, none⟩) lu.lt).trans (lu.cell 1), (h.cell (p := ⟨gu, 2, none⟩) lu.lt).trans (lu.cell 2), (h.cell (p := ⟨gu, 3, none⟩) lu.lt).trans (lu.cell 3), (h.cell (p := ⟨g0, 0, none⟩) l0.lt).trans (l0.cell 0), (h.cell (p := ⟨g0, 1, none⟩) l0.lt).trans (l0.cell 1), (h.cell (p := ⟨g0, 2, none⟩) l0.lt).trans (l0.cell 2), (h.cell (p := ⟨g0, 3, none⟩) l0.lt).trans (l0.cell 3)⟩
                    clear HT1 HT2 HT3
                    have HFX : Hid (∀ X, Below wr.heap.size wr X → Calls Try.prog 11 #[] X fun e w' => e = .returned (.bool true) ∧ Below X.heap.size X w') := Lib.hid fun X hX => fixed8_any X
                    have HSM : Hid (∀ X, Below wr.heap.size wr X → ∀ (A : Option Addr) (c : Nat) (hA : EIn X Any (.node xk xn xz xl) A) (B : Option Addr) (d : Nat) (hB : EIn X Any (.node yk yn yz yl) B), Calls Try.prog 12 #[.agg #[.int .i64 xk, .int .i64 xn, .string xz, .slice A xl.length (capF xl.length c)], .agg #[.int .i64 yk, .int .i64 yn, .string yz, .slice B yl.length (capF yl.length d)]] X fun e w' => e = .returned (.bool true) ∧ Below X.heap.size X w') := Lib.hid fun X hX A c hA B d hB => by
                      have h := rsame6_any (depthE (.node xk xn xz xl)) (.node xk xn xz xl) (.node yk yn yz yl) A B c d X (Nat.le_refl _) hA hB
                      rw [HSE.out] at h
                      exact h
                    clear l7 hty l0 lu hzt hzx hzl hbw
                    go_upto_region 18 with fail
                    have hb_1 : Below wr.heap.size wr wr := Below.refl _ _
                    refine wp_region_K (S := (fun V' : World => (V'.cell? ⟨g7, 0, none⟩ = some (.int .i64 yk) ∧ V'.cell? ⟨g7, 1, none⟩ = some (.int .i64 yn) ∧ V'.cell? ⟨g7, 2, none⟩ = some (.string yz) ∧ V'.cell? ⟨g7, 3, none⟩ = some (.slice Ay yl.length (capF yl.length cy)) ∧ V'.cell? ⟨gu, 0, none⟩ = some (.int .i64 xk) ∧ V'.cell? ⟨gu, 1, none⟩ = some (.int .i64 xn) ∧ V'.cell? ⟨gu, 2, none⟩ = some (.string xz) ∧ V'.cell? ⟨gu, 3, none⟩ = some (.slice Ax xl.length (capF xl.length cx)) ∧ V'.cell? ⟨g0, 0, none⟩ = some (.int .i64 tk) ∧ V'.cell? ⟨g0, 1, none⟩ = some (.int .i64 tn) ∧ V'.cell? ⟨g0, 2, none⟩ = some (.string tz) ∧ V'.cell? ⟨g0, 3, none⟩ = some (.slice A0 tl.length (capF tl.length c0))))) 20 rfl (HSS.out _ hb_1.drew) (fun hSs => ?_)
                    change wpAnyK _ _ _ _ _ _ 21 (Array.replicate 21 false) _ _
                    refine wpAnyK_one (i := 0) rfl rfl (by kernel_rfl) (fun K hK => ?_)
                    go_simp
                    refine (HFX.out _ (hb_1.drew)).mono ?_
                    rintro e u_2 ⟨rfl, hq_2⟩
                    have hb_2 := (hb_1.drew).trans (hq_2.mono (hb_1.drew).size)
                    have htt1_2 := EIn.below _ (EIn.below _ htt1 (Below.refl _ _).drew (Nat.le_refl _)) hq_2 (Nat.le_refl _)
                    have htx1_2 := EIn.below _ (EIn.below _ htx1 (Below.refl _ _).drew (Nat.le_refl _)) hq_2 (Nat.le_refl _)
                    have hty1_2 := EIn.below _ (EIn.below _ hty1 (Below.refl _ _).drew (Nat.le_refl _)) hq_2 (Nat.le_refl _)
                    clear htt1 htx1 hty1
                    refine hK.out _ _ (fun _ => HSS.out _ hb_2) (fun hS9 => ?_)
                    have hS_2 := hS9 (by decide)
                    clear hK K hS9
                    try simp only [Act.put, List.setIfInBounds_toArray, List.set_cons_zero, List.set_cons_succ]
                    refine wpAnyK_take (i := 1) (oi := ⟨some 90, _, _, _, _, _⟩) (v := .bool true) rfl (by kernel_rfl) (by kernel_rfl) (by kernel_rfl) (by kernel_rfl) (fun _ _ _ h => h) (.inl ⟨by kernel_rfl, fun W hW => by kernel_rfl⟩) hS_2 ?_
                    try simp only [Act.put, List.setIfInBounds_toArray, List.set_cons_zero, List.set_cons_succ]
                    refine wpAnyK_take (i := 2) (oi := ⟨some 91, _, _, _, _, _⟩) (v := .agg #[.int .i64 xk, .int .i64 xn, .string xz, .slice Ax xl.length (capF xl.length cx)]) rfl (by kernel_rfl) (by kernel_rfl) (by kernel_rfl) (by kernel_rfl) (fun _ _ _ h => h) (.inl ⟨by kernel_rfl, fun W hW => by first | (obtain ⟨z0, z1, z2, z3, z4, z5, z6, z7, z8, z9, z10, z11⟩ := hW; go_simp; done) | (obtain ⟨z0, z1, z2, z3, z4, z5, z6, z7, z8, z9, z10, z11⟩ := hW; go_simp; omega) | (obtain ⟨z0, z1, z2, z3, z4, z5, z6, z7, z8, z9, z10, z11⟩ := hW; go_simp; exact IntWalk.i64_in _ (by omega)) | (obtain ⟨z0, z1, z2, z3, z4, z5, z6, z7, z8, z9, z10, z11⟩ := hW; go_simp; simp [*]; done)⟩) hS_2 ?_
                    try simp only [Act.put, List.setIfInBounds_toArray, List.set_cons_zero, List.set_cons_succ]
                    refine wpAnyK_take (i := 3) (oi := ⟨some 92, _, _, _, _, _⟩) (v := .agg #[.int .i64 yk, .int .i64 yn, .string yz, .slice Ay yl.length (capF yl.length cy)]) rfl (by kernel_rfl) (by kernel_rfl) (by kernel_rfl) (by kernel_rfl) (fun _ _ _ h => h) (.inl ⟨by kernel_rfl, fun W hW => by first | (obtain ⟨z0, z1, z2, z3, z4, z5, z6, z7, z8, z9, z10, z11⟩ := hW; go_simp; done) | (obtain ⟨z0, z1, z2, z3, z4, z5, z6, z7, z8, z9, z10, z11⟩ := hW; go_simp; omega) | (obtain ⟨z0, z1, z2, z3, z4, z5, z6, z7, z8, z9, z10, z11⟩ := hW; go_simp; exact IntWalk.i64_in _ (by omega)) | (obtain ⟨z0, z1, z2, z3, z4, z5, z6, z7, z8, z9, z10, z11⟩ := hW; go_simp; simp [*]; done)⟩) hS_2 ?_
                    try simp only [Act.put, List.setIfInBounds_toArray, List.set_cons_zero, List.set_cons_succ]
                    refine wpAnyK_oneW (i := 4) rfl (by kernel_rfl) (by kernel_rfl) (fun K hK => ?_)
                    go_simp
                    refine (HSM.out _ hb_2 Ax cx htx1_2 Ay cy hty1_2).mono ?_
                    rintro e u_3 ⟨rfl, hq_3⟩
                    have hb_3 := hb_2.trans (hq_3.mono hb_2.size)
                    have htt1_2_3 := EIn.below _ htt1_2 hq_3 (Nat.le_refl _)
                    have htx1_2_3 := EIn.below _ htx1_2 hq_3 (Nat.le_refl _)
                    have hty1_2_3 := EIn.below _ hty1_2 hq_3 (Nat.le_refl _)
                    clear htt1_2 htx1_2 hty1_2
                    refine hK.out _ _ (fun _ => HSS.out _ hb_3) (fun hS9 => ?_)
                    have hS_3 := hS9 (by decide)
                    clear hK K hS9
                    try simp only [Act.put, List.setIfInBounds_toArray, List.set_cons_zero, List.set_cons_succ]
                    refine wpAnyK_take (i := 5) (oi := ⟨some 94, _, _, _, _, _⟩) (v := .bool true) rfl (by kernel_rfl) (by kernel_rfl) (by kernel_rfl) (by kernel_rfl) (fun _ _ _ h => h) (.inl ⟨by kernel_rfl, fun W hW => by kernel_rfl⟩) hS_3 ?_
                    try simp only [Act.put, List.setIfInBounds_toArray, List.set_cons_zero, List.set_cons_succ]
                    refine wpAnyK_take (i := 6) (oi := ⟨some 95, _, _, _, _, _⟩) (v := .bool true) rfl (by kernel_rfl) (by kernel_rfl) (by kernel_rfl) (by kernel_rfl) (fun _ _ _ h => h) (.inl ⟨by kernel_rfl, fun W hW => by kernel_rfl⟩) hS_3 ?_
                    try simp only [Act.put, List.setIfInBounds_toArray, List.set_cons_zero, List.set_cons_succ]
                    refine wpAnyK_take (i := 7) (oi := ⟨some 96, _, _, _, _, _⟩) (v := .slice Al i cl) rfl (by kernel_rfl) (by kernel_rfl) (by kernel_rfl) (by kernel_rfl) (fun _ _ _ h => h) (.inl ⟨by kernel_rfl, fun W hW => by kernel_rfl⟩) hS_3 ?_
                    try simp only [Act.put, List.setIfInBounds_toArray, List.set_cons_zero, List.set_cons_succ]
                    refine wpAnyK_take (i := 8) (oi := ⟨some 97, _, _, _, _, _⟩) (v := .int .i64 i) rfl (by kernel_rfl) (by kernel_rfl) (by kernel_rfl) (by kernel_rfl) (fun _ _ _ h => h) (.inl ⟨by kernel_rfl, fun W hW => by first | (obtain ⟨z0, z1, z2, z3, z4, z5, z6, z7, z8, z9, z10, z11⟩ := hW; go_simp; done) | (obtain ⟨z0, z1, z2, z3, z4, z5, z6, z7, z8, z9, z10, z11⟩ := hW; go_simp; omega) | (obtain ⟨z0, z1, z2, z3, z4, z5, z6, z7, z8, z9, z10, z11⟩ := hW; go_simp; exact IntWalk.i64_in _ (by omega)) | (obtain ⟨z0, z1, z2, z3, z4, z5, z6, z7, z8, z9, z10, z11⟩ := hW; go_simp; simp [*]; done)⟩) hS_3 ?_
                    try simp only [Act.put, List.setIfInBounds_toArray, List.set_cons_zero, List.set_cons_succ]
                    refine wpAnyK_take (i := 9) (oi := ⟨some 98, _, _, _, _, _⟩) (v := .bool true) rfl (by kernel_rfl) (by kernel_rfl) (by kernel_rfl) (by kernel_rfl) (fun _ _ _ h => h) (.inl ⟨by kernel_rfl, fun W hW => by first | (obtain ⟨z0, z1, z2, z3, z4, z5, z6, z7, z8, z9, z10, z11⟩ := hW; go_simp; done) | (obtain ⟨z0, z1, z2, z3, z4, z5, z6, z7, z8, z9, z10, z11⟩ := hW; go_simp; omega) | (obtain ⟨z0, z1, z2, z3, z4, z5, z6, z7, z8, z9, z10, z11⟩ := hW; go_simp; exact IntWalk.i64_in _ (by omega)) | (obtain ⟨z0, z1, z2, z3, z4, z5, z6, z7, z8, z9, z10, z11⟩ := hW; go_simp; simp [*]; done)⟩) hS_3 ?_
                    try simp only [Act.put, List.setIfInBounds_toArray, List.set_cons_zero, List.set_cons_succ]
                    refine wpAnyK_take (i := 10) (oi := ⟨some 99, _, _, _, _, _⟩) (v := .bool true) rfl (by kernel_rfl) (by kernel_rfl) (by kernel_rfl) (by kernel_rfl) (fun _ _ _ h => h) (.inl ⟨by kernel_rfl, fun W hW => by kernel_rfl⟩) hS_3 ?_
                    try simp only [Act.put, List.setIfInBounds_toArray, List.set_cons_zero, List.set_cons_succ]
                    refine wpAnyK_take (i := 11) (oi := ⟨some 100, _, _, _, _, _⟩) (v := undef) rfl (by kernel_rfl) (by kernel_rfl) (by kernel_rfl) (by kernel_rfl) (fun _ _ _ h => h) (.inr ⟨by kernel_rfl, rfl⟩) hS_3 ?_
                    try simp only [Act.put, List.setIfInBounds_toArray, List.set_cons_zero, List.set_cons_succ]
                    refine wpAnyK_take (i := 12) (oi := ⟨some 101, _, _, _, _, _⟩) (v := undef) rfl (by kernel_rfl) (by kernel_rfl) (by kernel_rfl) (by kernel_rfl) (fun _ _ _ h => h) (.inr ⟨by kernel_rfl, rfl⟩) hS_3 ?_
                    try simp only [Act.put, List.setIfInBounds_toArray, List.set_cons_zero, List.set_cons_succ]
                    refine wpAnyK_take (i := 13) (oi := ⟨some 102, _, _, _, _, _⟩) (v := undef) rfl (by kernel_rfl) (by kernel_rfl) (by kernel_rfl) (by kernel_rfl) (fun _ _ _ h => h) (.inr ⟨by kernel_rfl, rfl⟩) hS_3 ?_
                    try simp only [Act.put, List.setIfInBounds_toArray, List.set_cons_zero, List.set_cons_succ]
                    refine wpAnyK_take (i := 14) (oi := ⟨some 103, _, _, _, _, _⟩) (v := undef) rfl (by kernel_rfl) (by kernel_rfl) (by kernel_rfl) (by kernel_rfl) (fun _ _ _ h => h) (.inr ⟨by kernel_rfl, rfl⟩) hS_3 ?_
                    try simp only [Act.put, List.setIfInBounds_toArray, List.set_cons_zero, List.set_cons_succ]
                    refine wpAnyK_take (i := 15) (oi := ⟨some 104, _, _, _, _, _⟩) (v := undef) rfl (by kernel_rfl) (by kernel_rfl) (by kernel_rfl) (by kernel_rfl) (fun _ _ _ h => h) (.inr ⟨by kernel_rfl, rfl⟩) hS_3 ?_
                    try simp only [Act.put, List.setIfInBounds_toArray, List.set_cons_zero, List.set_cons_succ]
                    refine wpAnyK_take (i := 16) (oi := ⟨some 105, _, _, _, _, _⟩) (v := undef) rfl (by kernel_rfl) (by kernel_rfl) (by kernel_rfl) (by kernel_rfl) (fun _ _ _ h => h) (.inr ⟨by kernel_rfl, rfl⟩) hS_3 ?_
                    try simp only [Act.put, List.setIfInBounds_toArray, List.set_cons_zero, List.set_cons_succ]
                    refine wpAnyK_take (i := 17) (oi := ⟨some 106, _, _, _, _, _⟩) (v := undef) rfl (by kernel_rfl) (by kernel_rfl) (by kernel_rfl) (by kernel_rfl) (fun _ _ _ h => h) (.inr ⟨by kernel_rfl, rfl⟩) hS_3 ?_
                    try simp only [Act.put, List.setIfInBounds_toArray, List.set_cons_zero, List.set_cons_succ]
                    refine wpAnyK_take (i := 18) (oi := ⟨some 107, _, _, _, _, _⟩) (v := .bool true) rfl (by kernel_rfl) (by kernel_rfl) (by kernel_rfl) (by kernel_rfl) (fun _ _ _ h => h) (.inl ⟨by kernel_rfl, fun W hW => by kernel_rfl⟩) hS_3 ?_
                    try simp only [Act.put, List.setIfInBounds_toArray, List.set_cons_zero, List.set_cons_succ]
                    refine wpAnyK_take (i := 19) (oi := ⟨some 108, _, _, _, _, _⟩) (v := .bool true) rfl (by kernel_rfl) (by kernel_rfl) (by kernel_rfl) (by kernel_rfl) (fun _ _ _ h => h) (.inl ⟨by kernel_rfl, fun W hW => by kernel_rfl⟩) hS_3 ?_
                    try simp only [Act.put, List.setIfInBounds_toArray, List.set_cons_zero, List.set_cons_succ]
                    refine wpAnyK_one (i := 20) rfl rfl (by kernel_rfl) (fun K hK => ?_)
                    go_simp
                    refine hK.out _ _ (fun h => absurd rfl h) (fun _ => ?_)
                    clear hK K
                    try simp only [Act.put, List.setIfInBounds_toArray, List.set_cons_zero, List.set_cons_succ]
                    refine wpAnyK_done (by kernel_rfl) ?_ _
                    have hbx := HBW.out.trans (hb_3.mono HBW.out.size)
                    go_wp2_with fail
                    go_ret
                    exact ⟨rfl, hbx⟩
                · obtain ⟨j, rfl⟩ : ∃ j, q = j + 1 := ⟨q - 1, by omega⟩
                  clear hq0
                  have hja : j < l.length := by omega
                  obtain ⟨g, o, B, b, ⟨hA, hgn⟩, d0, d1, d2, d3, hIn⟩ := ELIn.at_ l hzl j hja
                  subst hA
                  simp only [Nat.zero_add] at d0 d1 d2 d3
                  have HTK : Hid (l.take (j + 1) = l.take j ++ [l[j]'hja]) := Lib.hid (List.take_succ_eq_append_getElem hja)
                  have HDR : Hid (l.drop j = l[j]'hja :: l.drop (j + 1)) := Lib.hid (List.drop_eq_getElem_cons hja)
                  have HFV := Lib.hid (HFL.out _ (List.getElem_mem hja))
                  obtain ⟨tr, hu⟩ : ∃ tr, tr = l[j]'hja := ⟨_, rfl⟩
                  rw [← hu] at d0 d1 d2 d3 hIn HTK HDR HFV
                  clear hu
                  obtain ⟨vk, vn, vz, vl⟩ := tr
                  simp only [Te.kind, Te.n, Te.name, Te.parts] at d0 d1 d2 d3
                  have hvs : sizeE (.node vk vn vz vl) ≤ 100 := HFV.out.1
                  have hvd : depthE (.node vk vn vz vl) ≤ 600 := HFV.out.2.1
                  have hvt := HFV.out.2.2
                  have HIN := Lib.hid hIn
                  have HG := Lib.hid (rMay6_any (.node vk vn vz vl) B b 5 wr (EIn.any _ hIn) (by omega) (by omega) (by omega))
                  have hgl := cell_lt d0
                  have HL7 := Lib.hid l7
                  have HTY := Lib.hid hty
                  clear hIn l7 hty l0 lu hzt hzx hzl hbw
                  have hjj : ((j + 1 : Nat) : Int) - 1 = j := by omega
                  rw [hjj]
                  cases hmv : mayQ (.node vk vn vz vl) 5 false
                  · rw [hmv] at HG
                    go_wp2_with fail
                    refine HG.out.mono ?_
                    rintro e w20 ⟨rfl, hb20⟩
                    go_wp2_with fail
                    refine (fixed8_any w20).mono ?_
                    rintro e w21 ⟨rfl, hb21⟩
                    have hbw := HBW.out.trans ((hb20.trans (hb21.mono hb20.size)).mono HBW.out.size)
                    go_wp2_with fail
                    go_ret
                    exact ⟨rfl, hbw⟩
                  · rw [hmv] at HG
                    go_wp2_with fail
                    refine HG.out.mono ?_
                    rintro e w22 ⟨rfl, hb22⟩
                    clear HG
                    have hcv := may_cl _ _ _ hmv
                    have hwv := clE_wf _ _ hcv
                    have hvq : tameE 7000 8 (.node vk vn vz vl) := tameE_mono (by omega) (by omega) _ (clE_tame _ _ hcv)
                    obtain ⟨U, hU⟩ : ∃ U, U = upE (.node vk vn vz vl) j 0 := ⟨_, rfl⟩
                    obtain ⟨P, hP⟩ : ∃ P, P = putE (.node yk yn yz yl) 0 U := ⟨_, rfl⟩
                    have huq : tameE 7100 8 U := by rw [hU]; exact tameE_mono (by omega) (by omega) _ (upE_tame (U := 5) (by omega) hvq j 0 (by omega) (by omega) (by omega))
                    have hud := upE_depth (.node vk vn vz vl) j 0
                    have hus := upE_size (.node vk vn vz vl) j 0
                    rw [← hU] at hud hus
                    have hKY : tameE (7100 + 40000 * ((i : Int) - ((j + 1 : Nat) : Int))) 8 (.node yk yn yz yl) := tameE_mono (by omega) (by omega) _ HT9.out
                    have hpq : tameE (7000 + 40000 * ((i : Int) - j)) 8 P := by rw [hP]; exact tameE_mono (by omega) (by omega) _ (putE_tame (by omega) hKY (tameE_mono (by omega) (by omega) _ huq) 0)
                    have hpd := putE_depth (.node yk yn yz yl) 0 U
                    rw [← hP] at hpd
                    have hps : sizeE P ≤ 100 ^ (i - j + 1) := by
                      have h1 := putE_size (.node yk yn yz yl) 0 U
                      rw [← hP] at h1
                      rw [show i - j + 1 = (i - (j + 1) + 1) + 1 by omega, Nat.pow_succ]
                      exact Nat.le_trans h1 (Nat.mul_le_mul HS9.out (by omega))
                    have hpw : wfE P := by rw [hP, hU]; exact wf_put _ _ _ _ (wf_up _ _ _ hwv) HW9.out
                    have hpi : instE (.node tk tn tz tl) l = instE P (l.take j) := by rw [HI9.out, HTK.out, inst_step HW9.out hwv, hP, hU, List.length_take, Nat.min_eq_left (by omega)]
                    have hys : sizeE (.node yk yn yz yl) ≤ 1000000000000 := Nat.le_trans HS9.out (Nat.le_trans (Nat.pow_le_pow_right (by omega) (show i - (j + 1) + 1 ≤ 6 by omega)) (by decide))
                    have hyt : tameE 1099511627776 1099511627776 (.node yk yn yz yl) := tameE_mono (by omega) (by omega) _ hKY
                    have hut : tameE 1099511627776 1099511627776 U := tameE_mono (by omega) (by omega) _ huq
                    have hvb : tameE 1099511627776 1099511627776 (.node vk vn vz vl) := tameE_mono (by omega) (by omega) _ hvq
                    obtain ⟨uk, un, uz, ul⟩ := U
                    obtain ⟨pk, pn, pz, pl⟩ := P
                    have HU := Lib.hid hU
                    have HP := Lib.hid hP
                    have HPW := Lib.hid hpw
                    have HPI := Lib.hid hpi
                    have HPS := Lib.hid hps
                    have HPT := Lib.hid hpq
                    clear hU hP hpw hpi hps hpq hKY hvq huq hcv HI9 HW9 HS9 HT9 HTK
                    have hbw := HBW.out.trans (hb22.mono HBW.out.size)
                    have l7 := HL7.out.below hb22 HL7.out.lt
                    have hty := EIn.below _ HTY.out hb22 (Nat.le_refl _)
                    have htv := EIn.below _ HIN.out hb22 (Nat.le_refl _)
                    have hg22 : g < w22.heap.size := Nat.lt_of_lt_of_le hgl hb22.size
                    replace HBW := Lib.hid hbw
                    replace HL0 := Lib.hid (HL0.out.below hb22 HL0.out.lt)
                    replace HLu := Lib.hid (HLu.out.below hb22 HLu.out.lt)
                    replace HT0 := Lib.hid (EIn.below _ HT0.out hb22 (Nat.le_refl _))
                    replace HTX := Lib.hid (EIn.below _ HTX.out hb22 (Nat.le_refl _))
                    replace HLL := Lib.hid (ELIn.keep _ HLL.out fun g j hX hlt => ⟨hb22.cell (p := ⟨g, j, none⟩) hlt, hX⟩)
                    have f0 := (hb22.cell (p := ⟨g, _, none⟩) hgl).trans d0
                    have f1 := (hb22.cell (p := ⟨g, _, none⟩) hgl).trans d1
                    have f2 := (hb22.cell (p := ⟨g, _, none⟩) hgl).trans d2
                    have f3 := (hb22.cell (p := ⟨g, _, none⟩) hgl).trans d3
                    clear d0 d1 d2 d3 hb22 HL7 HTY HIN hbw
                    have hji : j < i := by omega
                    go_upto_region 17 with fail
                    have HSS : Hid (∀ V', Below w22.heap.size w22 V' → (fun V' : World => (V'.cell? ⟨g7, 0, none⟩ = some (.int .i64 yk) ∧ V'.cell? ⟨g7, 1, none⟩ = some (.int .i64 yn) ∧ V'.cell? ⟨g7, 2, none⟩ = some (.string yz) ∧ V'.cell? ⟨g7, 3, none⟩ = some (.slice Ay yl.length (capF yl.length cy)) ∧ V'.cell? ⟨g, o + j * 4, none⟩ = some (.int .i64 vk) ∧ V'.cell? ⟨g, o + j * 4 + 1, none⟩ = some (.int .i64 vn) ∧ V'.cell? ⟨g, o + j * 4 + 2, none⟩ = some (.string vz) ∧ V'.cell? ⟨g, o + j * 4 + 3, none⟩ = some (.slice B vl.length (capF vl.length b)))) V') := Lib.hid fun V' h =>
                      ⟨(h.cell (p := ⟨g7, 0, none⟩) l7.lt).trans (l7.cell 0), (h.cell (p := ⟨g7, 1, none⟩) l7.lt).trans (l7.cell 1), (h.cell (p := ⟨g7, 2, none⟩) l7.lt).trans (l7.cell 2), (h.cell (p := ⟨g7, 3, none⟩) l7.lt).trans (l7.cell 3), (h.cell (p := ⟨g, _, none⟩) hg22).trans f0, (h.cell (p := ⟨g, _, none⟩) hg22).trans f1, (h.cell (p := ⟨g, _, none⟩) hg22).trans f2, (h.cell (p := ⟨g, _, none⟩) hg22).trans f3⟩
                    have HUP : Hid (∀ X, Below w22.heap.size w22 X → ∀ (Z : Nat → Prop) (hZ : ∀ g, X.heap.size ≤ g → Z g) (A : Option Addr) (c : Nat) (hA : EIn X Z (.node vk vn vz vl) A), Calls Try.prog 13 #[.agg #[.int .i64 vk, .int .i64 vn, .string vz, .slice A vl.length (capF vl.length c)], .int .i64 (j : Int), .int .i64 0] X fun e w' => ∃ A c, e = .returned (.agg #[.int .i64 uk, .int .i64 un, .string uz, .slice A ul.length (capF ul.length c)]) ∧ EIn w' Z (.node uk un uz ul) A ∧ Below X.heap.size X w') := Lib.hid fun X hX Z hZ A c hA => by
                      have h := up_any (.node vk vn vz vl) A c j 0 X (EIn.any _ hA) (by omega) (by omega) hvb (by omega) (by omega) (by omega) (by omega)
                      rw [← HU.out] at h
                      exact h.mono fun e w' ⟨A2, c2, h1, h2, h3⟩ => ⟨A2, c2, h1, EIn.wide _ h2 (fun g hg _ => hZ g hg), h3⟩
                    have HPU : Hid (∀ X, Below w22.heap.size w22 X → ∀ (Z : Nat → Prop) (hZ : ∀ g, X.heap.size ≤ g → Z g) (A : Option Addr) (c : Nat) (hA : EIn X Z (.node yk yn yz yl) A) (B : Option Addr) (d : Nat) (hB : EIn X Z (.node uk un uz ul) B), Calls Try.prog 15 #[.agg #[.int .i64 yk, .int .i64 yn, .string yz, .slice A yl.length (capF yl.length c)], .int .i64 0, .agg #[.int .i64 uk, .int .i64 un, .string uz, .slice B ul.length (capF ul.length d)]] X fun e w' => ∃ A c, e = .returned (.agg #[.int .i64 pk, .int .i64 pn, .string pz, .slice A pl.length (capF pl.length c)]) ∧ EIn w' Z (.node pk pn pz pl) A ∧ Below X.heap.size X w') := Lib.hid fun X hX Z hZ A c hA B d hB => by
                      have h := put_any (.node yk yn yz yl) (.node uk un uz ul) A B c d 0 X (EIn.any _ hA) (by omega) (by omega) hyt (EIn.any _ hB) (by omega) (by omega) hut (by omega) (by omega)
                      rw [← HP.out] at h
                      exact h.mono fun e w' ⟨A2, c2, h1, h2, h3⟩ => ⟨A2, c2, h1, EIn.wide _ h2 (fun g hg _ => hZ g hg), h3⟩
                    clear f0 f1 f2 f3
                    have hb_1 : Below w22.heap.size w22 w22 := Below.refl _ _
                    refine wp_region_K (S := (fun V' : World => (V'.cell? ⟨g7, 0, none⟩ = some (.int .i64 yk) ∧ V'.cell? ⟨g7, 1, none⟩ = some (.int .i64 yn) ∧ V'.cell? ⟨g7, 2, none⟩ = some (.string yz) ∧ V'.cell? ⟨g7, 3, none⟩ = some (.slice Ay yl.length (capF yl.length cy)) ∧ V'.cell? ⟨g, o + j * 4, none⟩ = some (.int .i64 vk) ∧ V'.cell? ⟨g, o + j * 4 + 1, none⟩ = some (.int .i64 vn) ∧ V'.cell? ⟨g, o + j * 4 + 2, none⟩ = some (.string vz) ∧ V'.cell? ⟨g, o + j * 4 + 3, none⟩ = some (.slice B vl.length (capF vl.length b))))) 8 rfl (HSS.out _ hb_1.drew) (fun hSs => ?_)
                    change wpAnyK _ _ _ _ _ _ 9 (Array.replicate 9 false) _ _
                    refine wpAnyK_take (i := 0) (oi := ⟨some 81, _, _, _, _, _⟩) (v := .agg #[.int .i64 yk, .int .i64 yn, .string yz, .slice Ay yl.length (capF yl.length cy)]) rfl (by kernel_rfl) (by kernel_rfl) (by kernel_rfl) (by kernel_rfl) (fun _ _ _ h => h) (.inl ⟨by kernel_rfl, fun W hW => by first | (obtain ⟨z0, z1, z2, z3, z4, z5, z6, z7⟩ := hW; go_simp; done) | (obtain ⟨z0, z1, z2, z3, z4, z5, z6, z7⟩ := hW; go_simp; omega) | (obtain ⟨z0, z1, z2, z3, z4, z5, z6, z7⟩ := hW; go_simp; exact IntWalk.i64_in _ (by omega)) | (obtain ⟨z0, z1, z2, z3, z4, z5, z6, z7⟩ := hW; go_simp; simp [*]; done)⟩) hSs ?_
                    try simp only [Act.put, List.setIfInBounds_toArray, List.set_cons_zero, List.set_cons_succ]
                    refine wpAnyK_take (i := 1) (oi := ⟨some 82, _, _, _, _, _⟩) (v := .slice (some ⟨g, o, none⟩) i cl) rfl (by kernel_rfl) (by kernel_rfl) (by kernel_rfl) (by kernel_rfl) (fun _ _ _ h => h) (.inl ⟨by kernel_rfl, fun W hW => by kernel_rfl⟩) hSs ?_
                    try simp only [Act.put, List.setIfInBounds_toArray, List.set_cons_zero, List.set_cons_succ]
                    refine wpAnyK_take (i := 2) (oi := ⟨some 83, _, _, _, _, _⟩) (v := .int .i64 (j : Int)) rfl (by kernel_rfl) (by kernel_rfl) (by kernel_rfl) (by kernel_rfl) (fun _ _ _ h => h) (.inl ⟨by kernel_rfl, fun W hW => by kernel_rfl⟩) hSs ?_
                    try simp only [Act.put, List.setIfInBounds_toArray, List.set_cons_zero, List.set_cons_succ]
                    refine wpAnyK_take (i := 3) (oi := ⟨some 84, _, _, _, _, _⟩) (v := .pointer (some ⟨g, o + j * 4, none⟩)) rfl (by kernel_rfl) (by kernel_rfl) (by kernel_rfl) (by kernel_rfl) (fun _ _ _ h => h) (.inl ⟨by kernel_rfl, fun W hW => by first | (obtain ⟨z0, z1, z2, z3, z4, z5, z6, z7⟩ := hW; go_simp; done) | (obtain ⟨z0, z1, z2, z3, z4, z5, z6, z7⟩ := hW; go_simp; omega) | (obtain ⟨z0, z1, z2, z3, z4, z5, z6, z7⟩ := hW; go_simp; exact IntWalk.i64_in _ (by omega)) | (obtain ⟨z0, z1, z2, z3, z4, z5, z6, z7⟩ := hW; go_simp; simp [*]; done)⟩) hSs ?_
                    try simp only [Act.put, List.setIfInBounds_toArray, List.set_cons_zero, List.set_cons_succ]
                    refine wpAnyK_take (i := 4) (oi := ⟨some 85, _, _, _, _, _⟩) (v := .agg #[.int .i64 vk, .int .i64 vn, .string vz, .slice B vl.length (capF vl.length b)]) rfl (by kernel_rfl) (by kernel_rfl) (by kernel_rfl) (by kernel_rfl) (fun _ _ _ h => h) (.inl ⟨by kernel_rfl, fun W hW => by first | (obtain ⟨z0, z1, z2, z3, z4, z5, z6, z7⟩ := hW; go_simp; done) | (obtain ⟨z0, z1, z2, z3, z4, z5, z6, z7⟩ := hW; go_simp; omega) | (obtain ⟨z0, z1, z2, z3, z4, z5, z6, z7⟩ := hW; go_simp; exact IntWalk.i64_in _ (by omega)) | (obtain ⟨z0, z1, z2, z3, z4, z5, z6, z7⟩ := hW; go_simp; simp [*]; done)⟩) hSs ?_
                    try simp only [Act.put, List.setIfInBounds_toArray, List.set_cons_zero, List.set_cons_succ]
                    refine wpAnyK_take (i := 5) (oi := ⟨some 86, _, _, _, _, _⟩) (v := .int .i64 (j : Int)) rfl (by kernel_rfl) (by kernel_rfl) (by kernel_rfl) (by kernel_rfl) (fun _ _ _ h => h) (.inl ⟨by kernel_rfl, fun W hW => by kernel_rfl⟩) hSs ?_
                    try simp only [Act.put, List.setIfInBounds_toArray, List.set_cons_zero, List.set_cons_succ]
                    refine wpAnyK_one (i := 6) rfl rfl (by kernel_rfl) (fun K hK => ?_)
                    go_simp
                    refine (HUP.out _ (hb_1.drew) (fun g => g ≠ g7) (fun g h => Nat.ne_of_gt (Nat.lt_of_lt_of_le l7.lt h)) B b (EIn.below _ htv (Below.refl _ _).drew (Nat.le_refl _))).mono ?_
                    rintro e u_2 ⟨A_2, c_2, rfl, hT_2, hq_2⟩
                    have hb_2 := (hb_1.drew).trans (hq_2.mono (hb_1.drew).size)
                    have l7_2 := (l7.drew).below hq_2 l7.lt
                    have hty_2 := EIn.below _ (EIn.below _ hty (Below.refl _ _).drew (Nat.le_refl _)) hq_2 (Nat.le_refl _)
                    have htv_2 := EIn.below _ (EIn.below _ htv (Below.refl _ _).drew (Nat.le_refl _)) hq_2 (Nat.le_refl _)
                    refine hK.out _ _ (fun _ => HSS.out _ hb_2) (fun hS9 => ?_)
                    have hS_2 := hS9 (by decide)
                    clear hK K hS9
                    try simp only [Act.put, List.setIfInBounds_toArray, List.set_cons_zero, List.set_cons_succ]
                    refine wpAnyK_one (i := 7) rfl rfl (by kernel_rfl) (fun K hK => ?_)
                    go_simp
                    refine (HPU.out _ hb_2 (fun g => g ≠ g7) (fun g h => Nat.ne_of_gt (Nat.lt_of_lt_of_le l7_2.lt h)) Ay cy hty_2 A_2 c_2 hT_2).mono ?_
                    rintro e u_3 ⟨A_3, c_3, rfl, hT_3, hq_3⟩
                    have hb_3 := hb_2.trans (hq_3.mono hb_2.size)
                    have l7_2_3 := l7_2.below hq_3 l7_2.lt
                    have hty_2_3 := EIn.below _ hty_2 hq_3 (Nat.le_refl _)
                    have htv_2_3 := EIn.below _ htv_2 hq_3 (Nat.le_refl _)
                    have hT_2_3 := EIn.below _ hT_2 hq_3 (Nat.le_refl _)
                    refine hK.out _ _ (fun _ => HSS.out _ hb_3) (fun hS9 => ?_)
                    have hS_3 := hS9 (by decide)
                    clear hK K hS9
                    try simp only [Act.put, List.setIfInBounds_toArray, List.set_cons_zero, List.set_cons_succ]
                    refine wpAnyK_one (i := 8) rfl rfl (by kernel_rfl) (fun K hK => ?_)
                    have hdd := hb_3
                    refine wp_store_as (F := fun W9 => Below w.heap.size w W9 ∧ Lies W9 g7 24 #[.int .i64 pk, .int .i64 pn, .string pz, .slice A_3 pl.length (capF pl.length c_3)] ∧ EIn W9 (fun g => g ≠ g7) (.node pk pn pz pl) A_3 ∧ Lies W9 g0 24 #[.int .i64 tk, .int .i64 tn, .string tz, .slice A0 tl.length (capF tl.length c0)] ∧ Lies W9 gu 24 #[.int .i64 xk, .int .i64 xn, .string xz, .slice Ax xl.length (capF xl.length cx)] ∧ EIn W9 (fun g => g ≠ g7) (.node tk tn tz tl) A0 ∧ EIn W9 (fun g => g ≠ g7) (.node xk xn xz xl) Ax ∧ ELIn W9 (fun g => g ≠ g7) l (some ⟨g, o, none⟩) 0) _ _ _ rfl g7 0 #[.int .i64 pk, .int .i64 pn, .string pz, .slice A_3 pl.length (capF pl.length c_3)] rfl rfl (lies_is l7_2_3 rfl) (by kernel_rfl) (by simp [Value.oneCell']) ⟨below_cells (HBW.out.trans (hdd.mono HBW.out.size)) HG7.out _ _, lies_set4 l7_2_3 _ _ _ _, ein_offs _ hT_3 (fun h => h rfl) _ _, lies_offs (HL0.out.below hdd HL0.out.lt) HN0.out _ _, lies_offs (HLu.out.below hdd HLu.out.lt) HNu.out _ _, ein_offs _ (EIn.below _ HT0.out hdd (Nat.le_refl _)) (fun h => h rfl) _ _, ein_offs _ (EIn.below _ HTX.out hdd (Nat.le_refl _)) (fun h => h rfl) _ _, elin_offs _ (ELIn.keep _ HLL.out fun g j hX hlt => ⟨hdd.cell (p := ⟨g, j, none⟩) hlt, hX⟩) (fun h => h rfl) _ _⟩ (fun W_4 hF_4 => ?_)
                    refine hK.out _ _ (fun h => absurd rfl h) (fun _ => ?_)
                    clear hK K
                    try simp only [Act.put, List.setIfInBounds_toArray]
                    refine wpAnyK_done (by kernel_rfl) ?_ _
                    obtain ⟨e1, e2, e3, e4, e5, e6, e7, e8⟩ := hF_4
                    clear HSS HUP HPU
                    go_wp2_with fail
                    go_roundw
                    case rel =>
                      exact ⟨j, pk, pn, pz, pl, A_3, c_3, by omega, by go_num, HPI, HPW, by omega, HPS, HPT, Lib.hid fun u hu => by
                        rw [HDR.out] at hu
                        rcases List.mem_cons.1 hu with rfl | hu
                        · exact hmv
                        · exact HMA.out u hu, e2, e3, e4, e5, e6, e7, e8, e1⟩
                    case measure => simp [intOf]
end Lx
end Go.Proofs.Ytcgiloccmehbeaa
