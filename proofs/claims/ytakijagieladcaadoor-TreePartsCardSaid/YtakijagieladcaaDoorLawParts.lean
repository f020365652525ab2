/-
  Walk of the law TreeParts.
-/
import Derived.Test.YtakijagieladcaaDoorBox
import Derived.Test.YtakijagieladcaaDoorHeldK
namespace Go.Proofs.YtakijagieladcaaDoor
open Go.RowKit
namespace Lx
theorem mayL_mem (k n : Int) : ∀ (l : List Tr) (i : Nat), mayL k n i l = true → ∀ t ∈ l, mayT t = true
  | [], _, _, t, h => by cases h
  | a :: r, i, h, t, ht => by
    rw [mayL] at h
    simp only [Bool.and_eq_true] at h
    rcases List.mem_cons.1 ht with rfl | ht
    · exact h.2.1
    · exact mayL_mem k n r (i + 1) h.2.2 t ht
theorem may_part {k n a : Int} {s : ByteArray} {l : List Tr} (h : mayV (.node k s n a l) = true) (t : Tr) (ht : t ∈ l) : mayV t = decide (t.kind ≠ 8) := by
  unfold mayV at h ⊢
  simp only [Bool.and_eq_true] at h
  have h2 := h.2
  rw [mayT] at h2
  have : mayT t = true := by
    split at h2
    · simp only [Bool.and_eq_true] at h2
      exact mayL_mem k n l 0 h2.2 t ht
    · cases h2
  rw [this, Bool.and_true]
set_option maxHeartbeats 8000000 in
theorem tparts_any (t : Tr) (A : Option Addr) (c : Nat) (w : World) (hI : TIn w Any t A) (hg : Signs w) :
    Calls Tryd.prog 6 #[tv t A c] w fun e w' => e = .returned (.bool true) ∧ Below w.heap.size w w' := by
  obtain ⟨k, s, n, a, l⟩ := t
  show Calls Tryd.prog 6 #[.agg #[.int .i64 k, .string s, .int .i64 n, .int .i64 a, .slice A l.length c]] w _
  have hB0 := Bx.new (c := c) hI hg
  have HB0 := Lib.hid hB0
  have HS := Lib.hid (fun W (h : Bx w W w.heap.size k s n a l A c) => h.small 500 (by omega) (by omega))
  clear hI hB0
  cases hsm : decide (0 ≤ fewT (.node k s n a l) 500 200) with
  | false =>
    rw [hsm] at HS
    clear hsm
    go_enter Tryd.func6, Tryd.ntmps6
    go_wp2_with fail
    refine (fixT_any _ HB0.out.sg).mono ?_
    rintro e w1 ⟨rfl, hb1⟩
    have hB1 := HB0.out.step hb1
    obtain ⟨c0, c1, c2, c3, c4⟩ := hB1.five
    go_wp2_with fail
    refine (HS.out _ hB1).mono ?_
    rintro e w2 ⟨rfl, hb2⟩
    have hB2 := hB1.step hb2
    go_wp2_with fail
    refine (fixT_any _ hB2.sg).mono ?_
    rintro e w3 ⟨rfl, hb3⟩
    go_wp2_with fail
    go_ret
    exact ⟨rfl, (hB2.step hb3).bw⟩
  | true =>
    have hz := (small_size hsm (by omega)).1
    rw [hsm] at HS
    clear hsm
    have hsL : sizeL l ≤ 1000 := by rw [sizeT] at hz; omega
    have hlen := sizeL_len l
    have hdl := depthL_le_size l
    have HP := Lib.hid (fun h => may_part (k := k) (s := s) (n := n) (a := a) (l := l) h)
    have HED : Hid (depthT (.node k s n a l) = depthL l + 1) := by rw [depthT]; exact rfl
    have HES : Hid (sizeT (.node k s n a l) = sizeL l + 1) := by rw [sizeT]; exact rfl
    obtain ⟨b, hbm⟩ : ∃ b, b = mayV (.node k s n a l) := ⟨_, rfl⟩
    have M0 := fun W (h : Bx w W w.heap.size k s n a l A c) => h.may
    have M2 := fun W (h : Bx w W w.heap.size k s n a l A c) => h.depth (by omega)
    have M4 := fun W (h : Bx w W w.heap.size k s n a l A c) => h.size (by omega)
    rw [← hbm] at M0 HP
    have HM0 := Lib.hid M0
    have HM2 := Lib.hid M2
    have HM4 := Lib.hid M4
    clear M0 M2 M4 hbm hz
    go_enter Tryd.func6, Tryd.ntmps6
    go_wp2_with fail
    refine (fixT_any _ HB0.out.sg).mono ?_
    rintro e w1 ⟨rfl, hb1⟩
    have hB1 := HB0.out.step hb1
    have h5 := hB1.five
    obtain ⟨c0, c1, c2, c3, c4⟩ := h5
    go_wp2_with fail
    refine (HS.out _ hB1).mono ?_
    rintro e w2 ⟨rfl, hb2⟩
    have hB2 := hB1.step hb2
    clear c0 c1 c2 c3 c4 hB1 HB0 hb1 hb2 HS
    go_wp2_with fail
    obtain ⟨g, hgg⟩ : ∃ g, g = w.heap.size := ⟨_, rfl⟩
    rw [← hgg] at hB2 HM0 HM2 HM4 ⊢
    have HB2 := Lib.hid hB2
    clear hB2 hgg
    go_loopw [3, 4, 5] (fun v u x wr => ∃ i : Nat, i ≤ l.length ∧ x = .int .i64 i ∧ v = .int .i64 (depthL (l.take i)) ∧ u = .int .i64 (sizeL (l.take i)) ∧ Bx w wr g k s n a l A c) (fun _ _ x _ => l.length - (intOf x).toNat)
    case atStart => exact ⟨0, by omega, rfl, by simp [depthL], by simp [sizeL], HB2.out⟩
    case round =>
      obtain ⟨i, hi, rfl, rfl, rfl, hB⟩ := hrel
      have hdt := depthL_take l i
      have hst := sizeL_take l i
      obtain ⟨c0, c1, c2, c3, c4⟩ := hB.five
      by_cases hlt : i < l.length
      · obtain ⟨g', o, A', c', ⟨hA, _⟩, d0, d1, d2, d3, d4, hIn⟩ := TIn.part hB.tin i hlt
        subst hA
        have hm3 := depthL_mem l (l[i]'hlt) (List.getElem_mem hlt)
        have hm4 := sizeL_mem l (l[i]'hlt) (List.getElem_mem hlt)
        have HD : Hid (depthL (l.take (i + 1)) = max (depthL (l.take i)) (depthT (l[i]'hlt))) := by
          rw [List.take_succ_eq_append_getElem hlt]; exact depthL_snoc _ _
        have HZ : Hid (sizeL (l.take (i + 1)) = sizeL (l.take i) + sizeT (l[i]'hlt)) := by
          rw [List.take_succ_eq_append_getElem hlt]; exact sizeL_snoc _ _
        have HPi := Lib.hid (fun h => HP.out h (l[i]'hlt) (List.getElem_mem hlt))
        have hdi := depth_le_size (l[i]'hlt)
        simp only [Tr.parts] at d0 d1 d2 d3 d4 hIn
        obtain ⟨tr, hu⟩ : ∃ tr, tr = l[i]'hlt := ⟨_, rfl⟩
        rw [← hu] at d0 d1 d2 d3 d4 hIn hm3 hm4 HD HZ HPi hdi
        clear hu HP
        obtain ⟨tk, ts, tn, ta, tl⟩ := tr
        simp only [Tr.kind, Tr.name, Tr.n, Tr.place] at d0 d1 d2 d3 d4 HPi
        have HX := Lib.hid (Bx.new (c := c') hIn hB.sg)
        have hBa := fun o' => hB.step ((Below.refl _ wr).alloc (Nat.le_refl _) o')
        go_wp2_with fail
        refine (HX.out.depth (by omega)).mono ?_
        rintro e w3 ⟨rfl, hb3⟩
        have hX3 := HX.out.step hb3
        have hB3 := (hBa _).step hb3
        clear c0 c1 c2 c3 c4 d0 d1 d2 d3 d4
        obtain ⟨c0, c1, c2, c3, c4⟩ := hB3.five
        obtain ⟨x0, x1, x2, x3, x4⟩ := hX3.five
        go_wp2_with fail
        refine (hX3.size (by omega)).mono ?_
        rintro e w4 ⟨rfl, hb4⟩
        have hX4 := hX3.step hb4
        have hB4 := hB3.step hb4
        clear c0 c1 c2 c3 c4 x0 x1 x2 x3 x4 hX3 hB3 HX hBa hb3 hb4
        obtain ⟨g2, hg2⟩ : ∃ g2, g2 = wr.heap.size := ⟨_, rfl⟩
        rw [← hg2] at hX4 ⊢
        clear hg2
        obtain ⟨c0, c1, c2, c3, c4⟩ := hB4.five
        obtain ⟨x0, x1, x2, x3, x4⟩ := hX4.five
        clear c0 c1 c2 c3 c4 x0 x1 x2 x3 x4
        have hS : ∀ V, Below w4.heap.size w4 V → V.cell? ⟨g, 0, none⟩ = some (.int .i64 k) ∧ V.cell? ⟨g, 1, none⟩ = some (.string s) ∧ V.cell? ⟨g, 2, none⟩ = some (.int .i64 n) ∧ V.cell? ⟨g, 3, none⟩ = some (.int .i64 a) ∧ V.cell? ⟨g, 4, none⟩ = some (.slice (some ⟨g', o, none⟩) l.length c) ∧ V.cell? ⟨g2, 0, none⟩ = some (.int .i64 tk) ∧ V.cell? ⟨g2, 1, none⟩ = some (.string ts) ∧ V.cell? ⟨g2, 2, none⟩ = some (.int .i64 tn) ∧ V.cell? ⟨g2, 3, none⟩ = some (.int .i64 ta) ∧ V.cell? ⟨g2, 4, none⟩ = some (.slice A' tl.length c') := fun V hb =>
          have h1 := (hB4.step hb).five
          have h2 := (hX4.step hb).five
          ⟨h1.1, h1.2.1, h1.2.2.1, h1.2.2.2.1, h1.2.2.2.2, h2.1, h2.2.1, h2.2.2.1, h2.2.2.2.1, h2.2.2.2.2⟩
        have HSS := Lib.hid hS
        have hF4 : Bx w w4.drew g k s n a l (some ⟨g', o, none⟩) c := hB4.step (Below.refl _ w4).drew
        have hX4d : Bx wr w4.drew g2 tk ts tn ta tl A' c' := hX4.step (Below.refl _ w4).drew
        have hd4 : Below w4.heap.size w4 w4.drew := (Below.refl _ w4).drew
        clear hS hB4 hX4 hIn hB
        cases b with
        | false =>
          go_wp2_with fail
          refine wp_region_held_drew (S := (fun V => V.cell? ⟨g, 0, none⟩ = some (.int .i64 k) ∧ V.cell? ⟨g, 1, none⟩ = some (.string s) ∧ V.cell? ⟨g, 2, none⟩ = some (.int .i64 n) ∧ V.cell? ⟨g, 3, none⟩ = some (.int .i64 a) ∧ V.cell? ⟨g, 4, none⟩ = some (.slice (some ⟨g', o, none⟩) l.length c) ∧ V.cell? ⟨g2, 0, none⟩ = some (.int .i64 tk) ∧ V.cell? ⟨g2, 1, none⟩ = some (.string ts) ∧ V.cell? ⟨g2, 2, none⟩ = some (.int .i64 tn) ∧ V.cell? ⟨g2, 3, none⟩ = some (.int .i64 ta) ∧ V.cell? ⟨g2, 4, none⟩ = some (.slice A' tl.length c'))) (by kernel_rfl) (HSS.out _ hd4) (fun hS1 => ?_)
          change wpAnyH _ _ _ _ _ 10 (Array.replicate 10 false) _ _
          refine wpAnyH_take (i := 0) (v := .agg #[.int .i64 k, .string s, .int .i64 n, .int .i64 a, .slice (some ⟨g', o, none⟩) l.length c]) rfl (by kernel_rfl) (by kernel_rfl) (by kernel_rfl) (fun _ _ _ h => h) (.inl ⟨by kernel_rfl, fun W hW => by (obtain ⟨h0, h1, h2, h3, h4, _⟩ := hW; go_simp)⟩) hS1 ?_
          try simp only [Act.put, List.setIfInBounds_toArray]
          refine wpAnyH_ready (rs := [1]) (by kernel_rfl) (by simp) ?_
          refine AllReadyH.cons rfl (fun K hK => ?_) AllReadyH.nil
          go_simp
          go_wp2_with fail
          refine (HM0.out _ hF4).mono ?_
          rintro e w5 ⟨rfl, hb5⟩
          have hF5 := hF4.step hb5
          have hd5 := hd4.trans (hb5.mono hd4.size)
          go_wp2_with fail
          refine hK.out _ _ (HSS.out _ hd5) (fun hS2 => ?_)
          clear hK K
          refine wpAnyH_take (i := 2) (v := .bool false) rfl (by kernel_rfl) (by kernel_rfl) (by kernel_rfl) (fun _ _ _ h => h) (.inl ⟨by kernel_rfl, fun W hW => by kernel_rfl⟩) hS2 ?_
          try simp only [Act.put, List.setIfInBounds_toArray]
          refine wpAnyH_take (i := 3) (v := undef) rfl (by kernel_rfl) (by kernel_rfl) (by kernel_rfl) (fun _ _ _ h => h) (.inr ⟨by kernel_rfl, rfl⟩) hS2 ?_
          try simp only [Act.put]
          refine wpAnyH_take (i := 5) (v := undef) rfl (by kernel_rfl) (by kernel_rfl) (by kernel_rfl) (fun _ _ _ h => h) (.inr ⟨by kernel_rfl, rfl⟩) hS2 ?_
          try simp only [Act.put]
          refine wpAnyH_take (i := 6) (v := undef) rfl (by kernel_rfl) (by kernel_rfl) (by kernel_rfl) (fun _ _ _ h => h) (.inr ⟨by kernel_rfl, rfl⟩) hS2 ?_
          try simp only [Act.put]
          refine wpAnyH_take (i := 7) (v := undef) rfl (by kernel_rfl) (by kernel_rfl) (by kernel_rfl) (fun _ _ _ h => h) (.inr ⟨by kernel_rfl, rfl⟩) hS2 ?_
          try simp only [Act.put]
          refine wpAnyH_take (i := 4) (v := undef) rfl (by kernel_rfl) (by kernel_rfl) (by kernel_rfl) (fun _ _ _ h => h) (.inr ⟨by kernel_rfl, rfl⟩) hS2 ?_
          try simp only [Act.put]
          refine wpAnyH_take (i := 8) (v := undef) rfl (by kernel_rfl) (by kernel_rfl) (by kernel_rfl) (fun _ _ _ h => h) (.inr ⟨by kernel_rfl, rfl⟩) hS2 ?_
          try simp only [Act.put]
          refine wpAnyH_take (i := 9) (v := .bool false) rfl (by kernel_rfl) (by kernel_rfl) (by kernel_rfl) (fun _ _ _ h => h) (.inl ⟨by kernel_rfl, fun W hW => by kernel_rfl⟩) hS2 ?_
          try simp only [Act.put]
          refine wpAnyH_done (by kernel_rfl) ?_ _
          go_wp2_with fail
          go_roundw
          case rel => exact ⟨i + 1, by omega, by go_num, by rw [HD.out]; exact congrArg (Value.int .i64) (by omega), by rw [HZ.out]; exact congrArg (Value.int .i64) (by omega), hF5⟩
          case measure => simp [intOf]; omega
        | true =>
          by_cases htk : tk = 8
          · subst htk
            have HMX : Hid (∀ W, Bx wr W g2 8 ts tn ta tl A' c' → Calls Tryd.prog 20 #[.agg #[.int .i64 8, .string ts, .int .i64 tn, .int .i64 ta, .slice A' tl.length c']] W fun e w' => e = .returned (.bool false) ∧ Below W.heap.size W w') := fun W h => by
              have h1 := h.may
              rw [HPi.out rfl] at h1
              simpa using h1
            go_wp2_with fail
            go_region_held3 (fun V => V.cell? ⟨g, 0, none⟩ = some (.int .i64 k) ∧ V.cell? ⟨g, 1, none⟩ = some (.string s) ∧ V.cell? ⟨g, 2, none⟩ = some (.int .i64 n) ∧ V.cell? ⟨g, 3, none⟩ = some (.int .i64 a) ∧ V.cell? ⟨g, 4, none⟩ = some (.slice (some ⟨g', o, none⟩) l.length c) ∧ V.cell? ⟨g2, 0, none⟩ = some (.int .i64 8) ∧ V.cell? ⟨g2, 1, none⟩ = some (.string ts) ∧ V.cell? ⟨g2, 2, none⟩ = some (.int .i64 tn) ∧ V.cell? ⟨g2, 3, none⟩ = some (.int .i64 ta) ∧ V.cell? ⟨g2, 4, none⟩ = some (.slice A' tl.length c'))
              (first | exact HSS.out _ hd4 | exact HSS.out _ hd5 | exact HSS.out _ hd6)
              ((first
            | (go_at_call 20; (with_reducible refine (HM0.out _ ?_).mono ?_); exact hF4; rintro e w5 ⟨rfl, hb5⟩; have hF5 := hF4.step hb5; have hX5 := hX4d.step hb5; have hd5 := hd4.trans (hb5.mono hd4.size))
            | (go_at_call 20; (with_reducible refine (HMX.out _ ?_).mono ?_); exact hX5; rintro e w6 ⟨rfl, hb6⟩; have hF6 := hF5.step hb6; have hd6 := hd5.trans (hb6.mono hd5.size))))
            go_wp2_with fail
            go_roundw
            case rel => exact ⟨i + 1, by omega, by go_num, by rw [HD.out]; exact congrArg (Value.int .i64) (by omega), by rw [HZ.out]; exact congrArg (Value.int .i64) (by omega), hF6⟩
            case measure => simp [intOf]; omega
          · have e8 : (tk != 8) = true := by simpa using htk
            have HMX : Hid (∀ W, Bx wr W g2 tk ts tn ta tl A' c' → Calls Tryd.prog 20 #[.agg #[.int .i64 tk, .string ts, .int .i64 tn, .int .i64 ta, .slice A' tl.length c']] W fun e w' => e = .returned (.bool true) ∧ Below W.heap.size W w') := fun W h => by
              have h1 := h.may
              rw [HPi.out rfl] at h1
              simpa [htk] using h1
            go_wp2_with fail
            go_region_held3 (fun V => V.cell? ⟨g, 0, none⟩ = some (.int .i64 k) ∧ V.cell? ⟨g, 1, none⟩ = some (.string s) ∧ V.cell? ⟨g, 2, none⟩ = some (.int .i64 n) ∧ V.cell? ⟨g, 3, none⟩ = some (.int .i64 a) ∧ V.cell? ⟨g, 4, none⟩ = some (.slice (some ⟨g', o, none⟩) l.length c) ∧ V.cell? ⟨g2, 0, none⟩ = some (.int .i64 tk) ∧ V.cell? ⟨g2, 1, none⟩ = some (.string ts) ∧ V.cell? ⟨g2, 2, none⟩ = some (.int .i64 tn) ∧ V.cell? ⟨g2, 3, none⟩ = some (.int .i64 ta) ∧ V.cell? ⟨g2, 4, none⟩ = some (.slice A' tl.length c'))
              (first | exact HSS.out _ hd4 | exact HSS.out _ hd5 | exact HSS.out _ hd6)
              ((first
            | (go_at_call 20; (with_reducible refine (HM0.out _ ?_).mono ?_); exact hF4; rintro e w5 ⟨rfl, hb5⟩; have hF5 := hF4.step hb5; have hX5 := hX4d.step hb5; have hd5 := hd4.trans (hb5.mono hd4.size))
            | (go_at_call 20; (with_reducible refine (HMX.out _ ?_).mono ?_); exact hX5; rintro e w6 ⟨rfl, hb6⟩; have hF6 := hF5.step hb6; have hd6 := hd5.trans (hb6.mono hd5.size))))
            go_wp2_with fail
            go_roundw
            case rel => exact ⟨i + 1, by omega, by go_num, by rw [HD.out]; exact congrArg (Value.int .i64) (by omega), by rw [HZ.out]; exact congrArg (Value.int .i64) (by omega), hF6⟩
            case measure => simp [intOf]; omega
      · go_wp2_with fail
        refine (HM2.out _ hB).mono ?_
        rintro e w3 ⟨rfl, hb3⟩
        have hB3 := hB.step hb3
        obtain rfl : i = l.length := by omega
        rw [HED.out, List.take_of_length_le (Nat.le_refl _)]
        rw [HES.out] at HM4
        clear c0 c1 c2 c3 c4
        obtain ⟨c0, c1, c2, c3, c4⟩ := hB3.five
        go_wp2_with fail
        refine (HM4.out _ hB3).mono ?_
        rintro e w4 ⟨rfl, hb4⟩
        go_wp2_with fail
        go_ret
        exact ⟨by simp, (hB3.step hb4).bw⟩
end Lx
end Go.Proofs.YtakijagieladcaaDoor
