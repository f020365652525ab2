/-
  Walk of the law CoreOrder.
-/
import Derived.Test.YteagbndjoklogaaDoorKJ
namespace Go.Proofs.YteagbndjoklogaaDoor
open Go.RowKit Go.Sort
namespace Lx
set_option maxRecDepth 100000
theorem drewN_below {w W : World} (h : Below w.heap.size w W) (n : Nat) : Below w.heap.size w (W.drewN n) := h.trans ⟨rfl, rfl, rfl, Nat.le_refl _, fun _ _ => rfl⟩
/-- What is made of the term and of a variable. -/
theorem order_boxes {w V : World} {g : Nat} {k n a : Int} {s : ByteArray} {l : List Te} {A : Option Addr} {c : Nat} (h : Bx6 w V g k n s l A c) (ha : 0 ≤ a) (hb : a ≤ 1000) :
    Bx6 w (((V.alloc (.cells #[.int .i64 1, .int .i64 a, .string e0B, .slice none 0 0] 24)).alloc (.cells #[.int .i64 k, .int .i64 n, .string s, .slice A l.length (capF l.length c), .int .i64 1, .int .i64 a, .string e0B, .slice none 0 0] 24)).alloc (.cells #[.int .i64 3, .int .i64 0, .string e0B, .slice (some ⟨V.heap.size + 1, 0, none⟩) 2 2] 24)) g k n s l A c ∧
    Bx6 w (((V.alloc (.cells #[.int .i64 1, .int .i64 a, .string e0B, .slice none 0 0] 24)).alloc (.cells #[.int .i64 k, .int .i64 n, .string s, .slice A l.length (capF l.length c), .int .i64 1, .int .i64 a, .string e0B, .slice none 0 0] 24)).alloc (.cells #[.int .i64 3, .int .i64 0, .string e0B, .slice (some ⟨V.heap.size + 1, 0, none⟩) 2 2] 24)) (V.heap.size + 1 + 1) 3 0 e0B [.node k n s l, .node 1 a e0B []] (some ⟨V.heap.size + 1, 0, none⟩) 2 := by
  have h3 := ((h.old (.cells #[.int .i64 1, .int .i64 a, .string e0B, .slice none 0 0] 24)).old (.cells #[.int .i64 k, .int .i64 n, .string s, .slice A l.length (capF l.length c), .int .i64 1, .int .i64 a, .string e0B, .slice none 0 0] 24)).old (.cells #[.int .i64 3, .int .i64 0, .string e0B, .slice (some ⟨V.heap.size + 1, 0, none⟩) 2 2] 24)
  have L2 := (Lies.new (V.alloc (.cells #[.int .i64 1, .int .i64 a, .string e0B, .slice none 0 0] 24)) 24 #[.int .i64 k, .int .i64 n, .string s, .slice A l.length (capF l.length c), .int .i64 1, .int .i64 a, .string e0B, .slice none 0 0]).old (.cells #[.int .i64 3, .int .i64 0, .string e0B, .slice (some ⟨V.heap.size + 1, 0, none⟩) 2 2] 24)
  have L3 := Lies.new ((V.alloc (.cells #[.int .i64 1, .int .i64 a, .string e0B, .slice none 0 0] 24)).alloc (.cells #[.int .i64 k, .int .i64 n, .string s, .slice A l.length (capF l.length c), .int .i64 1, .int .i64 a, .string e0B, .slice none 0 0] 24)) 24 #[.int .i64 3, .int .i64 0, .string e0B, .slice (some ⟨V.heap.size + 1, 0, none⟩) 2 2]
  rw [show (V.alloc (.cells #[.int .i64 1, .int .i64 a, .string e0B, .slice none 0 0] 24)).heap.size = V.heap.size + 1 from by simp] at L2
  rw [show ((V.alloc (.cells #[.int .i64 1, .int .i64 a, .string e0B, .slice none 0 0] 24)).alloc (.cells #[.int .i64 k, .int .i64 n, .string s, .slice A l.length (capF l.length c), .int .i64 1, .int .i64 a, .string e0B, .slice none 0 0] 24)).heap.size = V.heap.size + 1 + 1 from by simp] at L3
  exact ⟨h3, L3, EIn.mk e0B_size (by decide) (by decide) (by simp) (ELIn.two (t1 := .node k n s l) (t2 := .node 1 a e0B []) (A1 := A) (c1 := c) (A2 := none) (c2 := 0) L2 rfl trivial h3.tin (EIn.leaf e0B_size (by omega) (by omega))), h3.tb, h3.bw⟩
theorem order_may {t : Te} {a b : Int} (ha : 0 ≤ a) (hb : 0 ≤ b) : mayV6 (.node 3 0 e0B [t, .node 1 a e0B []]) b = (mayV6 t b && decide (a < b)) := by
  rw [app_may _ _ _ hb, var_may _ _ hb, decide_eq_true ha, Bool.true_and]
set_option maxHeartbeats 16000000 in
theorem order6_any (t : Te) (A : Option Addr) (c : Nat) (a b : Int) (w : World) (hI : EIn w Any t A) (hg : Tabs6 w) :
    Calls Tryd.prog 7 #[ev t A c, .agg #[.int .i64 a, .int .i64 b]] w fun e w' => e = .returned (.bool true) ∧ Below w.heap.size w w' := by
  obtain ⟨k, n, s, l⟩ := t
  show Calls Tryd.prog 7 #[.agg #[.int .i64 k, .int .i64 n, .string s, .slice A l.length (capF l.length c)], .agg #[.int .i64 a, .int .i64 b]] w _
  have hX := (Bx6.new (c := c) hI hg (Below.refl _ w)).old (.cells #[.int .i64 a, .int .i64 b] 32)
  have hP := Lies.new (w.alloc (.cells #[.int .i64 k, .int .i64 n, .string s, .slice A l.length (capF l.length c)] 24)) 32 #[.int .i64 a, .int .i64 b]
  rw [show (w.alloc (.cells #[.int .i64 k, .int .i64 n, .string s, .slice A l.length (capF l.length c)] 24)).heap.size = w.heap.size + 1 from by simp] at hP
  have HX := Lib.hid hX
  have HP := Lib.hid hP
  clear hX hP hI hg
  go_enter Tryd.func7, Tryd.ntmps7
  go_wp2_with fail
  refine (fix6_any _ HX.out.tb).mono ?_
  rintro e w1 ⟨rfl, hb1⟩
  have HX := Lib.hid (HX.out.step hb1)
  have HP := Lib.hid (HP.out.below hb1 HP.out.lt)
  clear hb1
  have p0 := HP.out.cell 0
  have p1 := HP.out.cell 1
  simp at p0 p1
  go_wp2_with fail
  go_quiet (fail)
  have HX := Lib.hid (HX.out.step (W' := w1.drewN nq) ⟨rfl, rfl, rfl, Nat.le_refl _, fun _ _ => rfl⟩)
  clear p0 p1 HP
  go_wp2_with fail
  refine (fix6_any _ HX.out.tb).mono ?_
  rintro e w2 ⟨rfl, hb2⟩
  have HX := Lib.hid (HX.out.step hb2)
  clear hb2
  obtain ⟨c0, c1, c2, c3⟩ := HX.out.four
  have HS := Lib.hid (HX.out.small 300 (by omega) (by omega))
  cases hsm : decide (0 ≤ fewE (.node k n s l) 300 600)
  · rw [hsm] at HS
    clear hsm
    go_wp2_with fail
    refine HS.out.mono ?_
    rintro e w3 ⟨rfl, hb3⟩
    have HX := Lib.hid (HX.out.step hb3)
    go_wp2_with fail
    refine (fix6_any _ HX.out.tb).mono ?_
    rintro e w4 ⟨rfl, hb4⟩
    go_wp2_with fail
    go_ret
    exact ⟨rfl, HX.out.bw.trans (hb4.mono HX.out.bw.size)⟩
  · rw [hsm] at HS
    have HZ := Lib.hid (small6_size hsm (by omega))
    clear hsm
    by_cases hab : a < 0 ∨ b < a ∨ 100 < b
    · rcases (by omega : a < 0 ∨ (¬ a < 0 ∧ b < a) ∨ (¬ a < 0 ∧ ¬ b < a ∧ 100 < b)) with q | ⟨q, q2⟩ | ⟨q, q2, q3⟩
      all_goals
        clear hab
        go_wp2_with fail
        refine HS.out.mono ?_
        rintro e w3 ⟨rfl, hb3⟩
        have HX := Lib.hid (HX.out.step hb3)
        go_wp2_with fail
        refine (fix6_any _ HX.out.tb).mono ?_
        rintro e w4 ⟨rfl, hb4⟩
        go_wp2_with fail
        go_ret
        exact ⟨rfl, HX.out.bw.trans (hb4.mono HX.out.bw.size)⟩
    · have q1 : ¬ a < 0 := by omega
      have q2 : ¬ b < a := by omega
      have q3 : ¬ 100 < b := by omega
      clear hab
      go_wp2_with fail
      refine HS.out.mono ?_
      rintro e w3 ⟨rfl, hb3⟩
      have HX := Lib.hid (HX.out.step hb3)
      clear hb3 HS c0 c1 c2 c3
      obtain ⟨c0, c1, c2, c3⟩ := HX.out.four
      have HM := Lib.hid (HX.out.may (by have := HZ.out; omega) a)
      have HMM := Lib.hid (fun h => mayV_mono (t := .node k n s l) (f := a) (f' := b) (by omega) h)
      -- TAIL
      cases hpa : mayV6 (.node k n s l) a
      · rw [hpa] at HM
        clear hpa HMM
        go_wp2_with fail
        refine HM.out.mono ?_
        rintro e V ⟨rfl, hbV⟩
        have HX := Lib.hid (HX.out.step hbV)
        clear hbV HM c0 c1 c2 c3
        obtain ⟨c0, c1, c2, c3⟩ := (HX.out.old (.cells #[.int .i64 1, .int .i64 a, .string e0B, .slice none 0 0] 24)).four
        go_upto_region 10 with fail
        have hF := order_boxes (a := a) HX.out (by omega) (by omega)
        obtain ⟨W5, hW5⟩ : ∃ W, W = ((V.alloc (.cells #[.int .i64 1, .int .i64 a, .string e0B, .slice none 0 0] 24)).alloc (.cells #[.int .i64 k, .int .i64 n, .string s, .slice A l.length (capF l.length c), .int .i64 1, .int .i64 a, .string e0B, .slice none 0 0] 24)).alloc (.cells #[.int .i64 3, .int .i64 0, .string e0B, .slice (some ⟨V.heap.size + 1, 0, none⟩) 2 2] 24) := ⟨_, rfl⟩
        change Code.wp _ _ _ _ (((V.alloc (.cells #[.int .i64 1, .int .i64 a, .string e0B, .slice none 0 0] 24)).alloc (.cells #[.int .i64 k, .int .i64 n, .string s, .slice A l.length (capF l.length c), .int .i64 1, .int .i64 a, .string e0B, .slice none 0 0] 24)).alloc (.cells #[.int .i64 3, .int .i64 0, .string e0B, .slice (some ⟨V.heap.size + 1, 0, none⟩) 2 2] 24))
        rw [← hW5] at hF ⊢
        have HF := Lib.hid hF.1
        have HG := Lib.hid hF.2
        have hd0 : Below W5.heap.size W5 W5.drew := (Below.refl _ W5).drew
        have HS := Lib.hid (fun (V' : World) (h : Below W5.heap.size W5 V') => (⟨(HF.out.step h).box.cell 0, (HF.out.step h).box.cell 1, (HF.out.step h).box.cell 2, (HF.out.step h).box.cell 3, (HG.out.step h).box.cell 0, (HG.out.step h).box.cell 1, (HG.out.step h).box.cell 2, (HG.out.step h).box.cell 3⟩ : (fun V' => (V'.cell? ⟨w.heap.size, 0, none⟩ = some (.int .i64 k) ∧ V'.cell? ⟨w.heap.size, 1, none⟩ = some (.int .i64 n) ∧ V'.cell? ⟨w.heap.size, 2, none⟩ = some (.string s) ∧ V'.cell? ⟨w.heap.size, 3, none⟩ = some (.slice A l.length (capF l.length c)) ∧ V'.cell? ⟨V.heap.size + 1 + 1, 0, none⟩ = some (.int .i64 3) ∧ V'.cell? ⟨V.heap.size + 1 + 1, 1, none⟩ = some (.int .i64 0) ∧ V'.cell? ⟨V.heap.size + 1 + 1, 2, none⟩ = some (.string e0B) ∧ V'.cell? ⟨V.heap.size + 1 + 1, 3, none⟩ = some (.slice (some ⟨V.heap.size + 1, 0, none⟩) 2 2))) V'))
        have hS0 := HS.out _ hd0
        have HU1 := Lib.hid (fun (V' : World) (h : Below W5.heap.size W5 V') => Calls.mono ((HG.out.step h).may (by have := HZ.out; simp only [depthE, depthEL] at this ⊢; omega) b) (fun e w' h2 => (show e = .returned (.bool (mayV6 (.node k n s l) b && decide (a < b))) ∧ Below W5.heap.size W5 w' from ⟨by rw [h2.1, order_may (by omega) (by omega)], h.trans (h2.2.mono h.size)⟩)))
        have HU2 := Lib.hid (fun (V' : World) (h : Below W5.heap.size W5 V') => Calls.mono ((HG.out.step h).may (by have := HZ.out; simp only [depthE, depthEL] at this ⊢; omega) a) (fun e w' h2 => (show e = .returned (.bool false) ∧ Below W5.heap.size W5 w' from ⟨by rw [h2.1, order_may (by omega) (by omega)]; simp, h.trans (h2.2.mono h.size)⟩)))
        have HT1 := Lib.hid (fun (V' : World) (h : Below W5.heap.size W5 V') => Calls.mono ((HF.out.step h).may (by have := HZ.out; omega) b) (fun e w' h2 => (show e = .returned (.bool (mayV6 (.node k n s l) b)) ∧ Below W5.heap.size W5 w' from ⟨h2.1, h.trans (h2.2.mono h.size)⟩)))
        clear hW5 hF HX c0 c1 c2 c3
        cases hpb : mayV6 (.node k n s l) b
        · rw [hpb] at HU1 HT1
          clear hpb
          by_cases hab : a < b
          · have habd : decide (a < b) = true := decide_eq_true hab
            rw [habd] at HU1
            simp only [Bool.and_true] at HU1
            clear habd
            refine wp_region_held_drew (S := (fun V' => (V'.cell? ⟨w.heap.size, 0, none⟩ = some (.int .i64 k) ∧ V'.cell? ⟨w.heap.size, 1, none⟩ = some (.int .i64 n) ∧ V'.cell? ⟨w.heap.size, 2, none⟩ = some (.string s) ∧ V'.cell? ⟨w.heap.size, 3, none⟩ = some (.slice A l.length (capF l.length c)) ∧ V'.cell? ⟨V.heap.size + 1 + 1, 0, none⟩ = some (.int .i64 3) ∧ V'.cell? ⟨V.heap.size + 1 + 1, 1, none⟩ = some (.int .i64 0) ∧ V'.cell? ⟨V.heap.size + 1 + 1, 2, none⟩ = some (.string e0B) ∧ V'.cell? ⟨V.heap.size + 1 + 1, 3, none⟩ = some (.slice (some ⟨V.heap.size + 1, 0, none⟩) 2 2)))) rfl hS0 (fun hS1 => ?_)
            change wpAnyH _ _ _ _ _ 19 (Array.replicate 19 false) _ _
            refine wpAnyH_take (i := 0) (oi := ⟨some 51, _, _, _, _, _⟩) (v := .agg #[.int .i64 3, .int .i64 0, .string e0B, .slice (some ⟨V.heap.size + 1, 0, none⟩) 2 2]) rfl (by kernel_rfl) (by kernel_rfl) (by kernel_rfl) (fun _ _ _ h => h) (.inl ⟨by kernel_rfl, fun W hW => by first | (obtain ⟨z0, z1, z2, z3, y0, y1, y2, y3⟩ := hW; go_simp; done) | (obtain ⟨z0, z1, z2, z3, y0, y1, y2, y3⟩ := hW; go_simp; omega) | (obtain ⟨z0, z1, z2, z3, y0, y1, y2, y3⟩ := hW; go_simp; simp [*]; done)⟩) hS1 ?_
            try simp only [Act.put, List.setIfInBounds_toArray, List.set_cons_zero, List.set_cons_succ]
            refine wpAnyH_take (i := 1) (oi := ⟨some 52, _, _, _, _, _⟩) (v := .int .i64 b) rfl (by kernel_rfl) (by kernel_rfl) (by kernel_rfl) (fun _ _ _ h => h) (.inl ⟨by kernel_rfl, fun W hW => by kernel_rfl⟩) hS1 ?_
            try simp only [Act.put, List.setIfInBounds_toArray, List.set_cons_zero, List.set_cons_succ]
            refine wpAnyH_take (i := 3) (oi := ⟨some 54, _, _, _, _, _⟩) (v := .agg #[.int .i64 k, .int .i64 n, .string s, .slice A l.length (capF l.length c)]) rfl (by kernel_rfl) (by kernel_rfl) (by kernel_rfl) (fun _ _ _ h => h) (.inl ⟨by kernel_rfl, fun W hW => by first | (obtain ⟨z0, z1, z2, z3, y0, y1, y2, y3⟩ := hW; go_simp; done) | (obtain ⟨z0, z1, z2, z3, y0, y1, y2, y3⟩ := hW; go_simp; omega) | (obtain ⟨z0, z1, z2, z3, y0, y1, y2, y3⟩ := hW; go_simp; simp [*]; done)⟩) hS1 ?_
            try simp only [Act.put, List.setIfInBounds_toArray, List.set_cons_zero, List.set_cons_succ]
            refine wpAnyH_take (i := 4) (oi := ⟨some 55, _, _, _, _, _⟩) (v := .int .i64 b) rfl (by kernel_rfl) (by kernel_rfl) (by kernel_rfl) (fun _ _ _ h => h) (.inl ⟨by kernel_rfl, fun W hW => by kernel_rfl⟩) hS1 ?_
            try simp only [Act.put, List.setIfInBounds_toArray, List.set_cons_zero, List.set_cons_succ]
            refine wpAnyH_ready (rs := [2]) (by kernel_rfl) (by simp) (AllReadyH.cons rfl (fun K hK => ?_) AllReadyH.nil)
            go_simp
            refine (HU1.out _ hd0).mono ?_
            rintro e u1 ⟨rfl, hd1⟩
            refine hK.out _ _ (HS.out _ hd1) (fun hS1 => ?_)
            clear hK K
            try simp only [Act.put, List.setIfInBounds_toArray, List.set_cons_zero, List.set_cons_succ]
            refine wpAnyH_ready (rs := [5]) (by kernel_rfl) (by simp) (AllReadyH.cons rfl (fun K hK => ?_) AllReadyH.nil)
            go_simp
            refine (HT1.out _ hd1).mono ?_
            rintro e u2 ⟨rfl, hd2⟩
            refine hK.out _ _ (HS.out _ hd2) (fun hS2 => ?_)
            clear hK K
            try simp only [Act.put, List.setIfInBounds_toArray, List.set_cons_zero, List.set_cons_succ]
            refine wpAnyH_take (i := 6) (oi := ⟨some 57, _, _, _, _, _⟩) (v := .bool false) rfl (by kernel_rfl) (by kernel_rfl) (by kernel_rfl) (fun _ _ _ h => h) (.inl ⟨by kernel_rfl, fun W hW => by kernel_rfl⟩) hS2 ?_
            try simp only [Act.put, List.setIfInBounds_toArray, List.set_cons_zero, List.set_cons_succ]
            refine wpAnyH_take (i := 7) (oi := ⟨some 58, _, _, _, _, _⟩) (v := undef) rfl (by kernel_rfl) (by kernel_rfl) (by kernel_rfl) (fun _ _ _ h => h) (.inr ⟨by kernel_rfl, rfl⟩) hS2 ?_
            try simp only [Act.put, List.setIfInBounds_toArray, List.set_cons_zero, List.set_cons_succ]
            refine wpAnyH_take (i := 8) (oi := ⟨some 59, _, _, _, _, _⟩) (v := undef) rfl (by kernel_rfl) (by kernel_rfl) (by kernel_rfl) (fun _ _ _ h => h) (.inr ⟨by kernel_rfl, rfl⟩) hS2 ?_
            try simp only [Act.put, List.setIfInBounds_toArray, List.set_cons_zero, List.set_cons_succ]
            refine wpAnyH_take (i := 9) (oi := ⟨some 60, _, _, _, _, _⟩) (v := undef) rfl (by kernel_rfl) (by kernel_rfl) (by kernel_rfl) (fun _ _ _ h => h) (.inr ⟨by kernel_rfl, rfl⟩) hS2 ?_
            try simp only [Act.put, List.setIfInBounds_toArray, List.set_cons_zero, List.set_cons_succ]
            refine wpAnyH_take (i := 10) (oi := ⟨some 61, _, _, _, _, _⟩) (v := .bool false) rfl (by kernel_rfl) (by kernel_rfl) (by kernel_rfl) (fun _ _ _ h => h) (.inl ⟨by kernel_rfl, fun W hW => by kernel_rfl⟩) hS2 ?_
            try simp only [Act.put, List.setIfInBounds_toArray, List.set_cons_zero, List.set_cons_succ]
            refine wpAnyH_take (i := 11) (oi := ⟨some 62, _, _, _, _, _⟩) (v := .bool true) rfl (by kernel_rfl) (by kernel_rfl) (by kernel_rfl) (fun _ _ _ h => h) (.inl ⟨by kernel_rfl, fun W hW => by first | (obtain ⟨z0, z1, z2, z3, y0, y1, y2, y3⟩ := hW; go_simp; done) | (obtain ⟨z0, z1, z2, z3, y0, y1, y2, y3⟩ := hW; go_simp; omega) | (obtain ⟨z0, z1, z2, z3, y0, y1, y2, y3⟩ := hW; go_simp; simp [*]; done)⟩) hS2 ?_
            try simp only [Act.put, List.setIfInBounds_toArray, List.set_cons_zero, List.set_cons_succ]
            refine wpAnyH_take (i := 12) (oi := ⟨some 63, _, _, _, _, _⟩) (v := .bool true) rfl (by kernel_rfl) (by kernel_rfl) (by kernel_rfl) (fun _ _ _ h => h) (.inl ⟨by kernel_rfl, fun W hW => by kernel_rfl⟩) hS2 ?_
            try simp only [Act.put, List.setIfInBounds_toArray, List.set_cons_zero, List.set_cons_succ]
            refine wpAnyH_take (i := 13) (oi := ⟨some 64, _, _, _, _, _⟩) (v := .agg #[.int .i64 3, .int .i64 0, .string e0B, .slice (some ⟨V.heap.size + 1, 0, none⟩) 2 2]) rfl (by kernel_rfl) (by kernel_rfl) (by kernel_rfl) (fun _ _ _ h => h) (.inl ⟨by kernel_rfl, fun W hW => by first | (obtain ⟨z0, z1, z2, z3, y0, y1, y2, y3⟩ := hW; go_simp; done) | (obtain ⟨z0, z1, z2, z3, y0, y1, y2, y3⟩ := hW; go_simp; omega) | (obtain ⟨z0, z1, z2, z3, y0, y1, y2, y3⟩ := hW; go_simp; simp [*]; done)⟩) hS2 ?_
            try simp only [Act.put, List.setIfInBounds_toArray, List.set_cons_zero, List.set_cons_succ]
            refine wpAnyH_take (i := 14) (oi := ⟨some 65, _, _, _, _, _⟩) (v := .int .i64 a) rfl (by kernel_rfl) (by kernel_rfl) (by kernel_rfl) (fun _ _ _ h => h) (.inl ⟨by kernel_rfl, fun W hW => by kernel_rfl⟩) hS2 ?_
            try simp only [Act.put, List.setIfInBounds_toArray, List.set_cons_zero, List.set_cons_succ]
            refine wpAnyH_ready (rs := [15]) (by kernel_rfl) (by simp) (AllReadyH.cons rfl (fun K hK => ?_) AllReadyH.nil)
            go_simp
            refine (HU2.out _ hd2).mono ?_
            rintro e u3 ⟨rfl, hd3⟩
            refine hK.out _ _ (HS.out _ hd3) (fun hS3 => ?_)
            clear hK K
            try simp only [Act.put, List.setIfInBounds_toArray, List.set_cons_zero, List.set_cons_succ]
            refine wpAnyH_take (i := 16) (oi := ⟨some 67, _, _, _, _, _⟩) (v := .bool true) rfl (by kernel_rfl) (by kernel_rfl) (by kernel_rfl) (fun _ _ _ h => h) (.inl ⟨by kernel_rfl, fun W hW => by kernel_rfl⟩) hS3 ?_
            try simp only [Act.put, List.setIfInBounds_toArray, List.set_cons_zero, List.set_cons_succ]
            refine wpAnyH_take (i := 17) (oi := ⟨some 68, _, _, _, _, _⟩) (v := .bool true) rfl (by kernel_rfl) (by kernel_rfl) (by kernel_rfl) (fun _ _ _ h => h) (.inl ⟨by kernel_rfl, fun W hW => by kernel_rfl⟩) hS3 ?_
            try simp only [Act.put, List.setIfInBounds_toArray, List.set_cons_zero, List.set_cons_succ]
            refine wpAnyH_take (i := 18) (oi := ⟨some 4, _, _, _, _, _⟩) (v := .bool true) rfl (by kernel_rfl) (by kernel_rfl) (by kernel_rfl) (fun _ _ _ h => h) (.inl ⟨by kernel_rfl, fun W hW => by kernel_rfl⟩) hS3 ?_
            try simp only [Act.put, List.setIfInBounds_toArray, List.set_cons_zero, List.set_cons_succ]
            refine wpAnyH_done (by kernel_rfl) ?_ _
            go_wp2_with fail
            go_ret
            exact ⟨rfl, HF.out.bw.trans (hd3.mono HF.out.bw.size)⟩
          · have habd : decide (a < b) = false := decide_eq_false hab
            rw [habd] at HU1
            simp only [Bool.and_false] at HU1
            refine wp_region_held_drew (S := (fun V' => (V'.cell? ⟨w.heap.size, 0, none⟩ = some (.int .i64 k) ∧ V'.cell? ⟨w.heap.size, 1, none⟩ = some (.int .i64 n) ∧ V'.cell? ⟨w.heap.size, 2, none⟩ = some (.string s) ∧ V'.cell? ⟨w.heap.size, 3, none⟩ = some (.slice A l.length (capF l.length c)) ∧ V'.cell? ⟨V.heap.size + 1 + 1, 0, none⟩ = some (.int .i64 3) ∧ V'.cell? ⟨V.heap.size + 1 + 1, 1, none⟩ = some (.int .i64 0) ∧ V'.cell? ⟨V.heap.size + 1 + 1, 2, none⟩ = some (.string e0B) ∧ V'.cell? ⟨V.heap.size + 1 + 1, 3, none⟩ = some (.slice (some ⟨V.heap.size + 1, 0, none⟩) 2 2)))) rfl hS0 (fun hS1 => ?_)
            change wpAnyH _ _ _ _ _ 19 (Array.replicate 19 false) _ _
            refine wpAnyH_take (i := 0) (oi := ⟨some 51, _, _, _, _, _⟩) (v := .agg #[.int .i64 3, .int .i64 0, .string e0B, .slice (some ⟨V.heap.size + 1, 0, none⟩) 2 2]) rfl (by kernel_rfl) (by kernel_rfl) (by kernel_rfl) (fun _ _ _ h => h) (.inl ⟨by kernel_rfl, fun W hW => by first | (obtain ⟨z0, z1, z2, z3, y0, y1, y2, y3⟩ := hW; go_simp; done) | (obtain ⟨z0, z1, z2, z3, y0, y1, y2, y3⟩ := hW; go_simp; omega) | (obtain ⟨z0, z1, z2, z3, y0, y1, y2, y3⟩ := hW; go_simp; simp [*]; done)⟩) hS1 ?_
            try simp only [Act.put, List.setIfInBounds_toArray, List.set_cons_zero, List.set_cons_succ]
            refine wpAnyH_take (i := 1) (oi := ⟨some 52, _, _, _, _, _⟩) (v := .int .i64 b) rfl (by kernel_rfl) (by kernel_rfl) (by kernel_rfl) (fun _ _ _ h => h) (.inl ⟨by kernel_rfl, fun W hW => by kernel_rfl⟩) hS1 ?_
            try simp only [Act.put, List.setIfInBounds_toArray, List.set_cons_zero, List.set_cons_succ]
            refine wpAnyH_take (i := 3) (oi := ⟨some 54, _, _, _, _, _⟩) (v := .agg #[.int .i64 k, .int .i64 n, .string s, .slice A l.length (capF l.length c)]) rfl (by kernel_rfl) (by kernel_rfl) (by kernel_rfl) (fun _ _ _ h => h) (.inl ⟨by kernel_rfl, fun W hW => by first | (obtain ⟨z0, z1, z2, z3, y0, y1, y2, y3⟩ := hW; go_simp; done) | (obtain ⟨z0, z1, z2, z3, y0, y1, y2, y3⟩ := hW; go_simp; omega) | (obtain ⟨z0, z1, z2, z3, y0, y1, y2, y3⟩ := hW; go_simp; simp [*]; done)⟩) hS1 ?_
            try simp only [Act.put, List.setIfInBounds_toArray, List.set_cons_zero, List.set_cons_succ]
            refine wpAnyH_take (i := 4) (oi := ⟨some 55, _, _, _, _, _⟩) (v := .int .i64 b) rfl (by kernel_rfl) (by kernel_rfl) (by kernel_rfl) (fun _ _ _ h => h) (.inl ⟨by kernel_rfl, fun W hW => by kernel_rfl⟩) hS1 ?_
            try simp only [Act.put, List.setIfInBounds_toArray, List.set_cons_zero, List.set_cons_succ]
            refine wpAnyH_ready (rs := [2]) (by kernel_rfl) (by simp) (AllReadyH.cons rfl (fun K hK => ?_) AllReadyH.nil)
            go_simp
            refine (HU1.out _ hd0).mono ?_
            rintro e u1 ⟨rfl, hd1⟩
            refine hK.out _ _ (HS.out _ hd1) (fun hS1 => ?_)
            clear hK K
            try simp only [Act.put, List.setIfInBounds_toArray, List.set_cons_zero, List.set_cons_succ]
            refine wpAnyH_ready (rs := [5]) (by kernel_rfl) (by simp) (AllReadyH.cons rfl (fun K hK => ?_) AllReadyH.nil)
            go_simp
            refine (HT1.out _ hd1).mono ?_
            rintro e u2 ⟨rfl, hd2⟩
            refine hK.out _ _ (HS.out _ hd2) (fun hS2 => ?_)
            clear hK K
            try simp only [Act.put, List.setIfInBounds_toArray, List.set_cons_zero, List.set_cons_succ]
            refine wpAnyH_take (i := 6) (oi := ⟨some 57, _, _, _, _, _⟩) (v := .bool false) rfl (by kernel_rfl) (by kernel_rfl) (by kernel_rfl) (fun _ _ _ h => h) (.inl ⟨by kernel_rfl, fun W hW => by kernel_rfl⟩) hS2 ?_
            try simp only [Act.put, List.setIfInBounds_toArray, List.set_cons_zero, List.set_cons_succ]
            refine wpAnyH_take (i := 7) (oi := ⟨some 58, _, _, _, _, _⟩) (v := undef) rfl (by kernel_rfl) (by kernel_rfl) (by kernel_rfl) (fun _ _ _ h => h) (.inr ⟨by kernel_rfl, rfl⟩) hS2 ?_
            try simp only [Act.put, List.setIfInBounds_toArray, List.set_cons_zero, List.set_cons_succ]
            refine wpAnyH_take (i := 8) (oi := ⟨some 59, _, _, _, _, _⟩) (v := undef) rfl (by kernel_rfl) (by kernel_rfl) (by kernel_rfl) (fun _ _ _ h => h) (.inr ⟨by kernel_rfl, rfl⟩) hS2 ?_
            try simp only [Act.put, List.setIfInBounds_toArray, List.set_cons_zero, List.set_cons_succ]
            refine wpAnyH_take (i := 9) (oi := ⟨some 60, _, _, _, _, _⟩) (v := undef) rfl (by kernel_rfl) (by kernel_rfl) (by kernel_rfl) (fun _ _ _ h => h) (.inr ⟨by kernel_rfl, rfl⟩) hS2 ?_
            try simp only [Act.put, List.setIfInBounds_toArray, List.set_cons_zero, List.set_cons_succ]
            refine wpAnyH_take (i := 10) (oi := ⟨some 61, _, _, _, _, _⟩) (v := .bool false) rfl (by kernel_rfl) (by kernel_rfl) (by kernel_rfl) (fun _ _ _ h => h) (.inl ⟨by kernel_rfl, fun W hW => by kernel_rfl⟩) hS2 ?_
            try simp only [Act.put, List.setIfInBounds_toArray, List.set_cons_zero, List.set_cons_succ]
            refine wpAnyH_take (i := 11) (oi := ⟨some 62, _, _, _, _, _⟩) (v := .bool true) rfl (by kernel_rfl) (by kernel_rfl) (by kernel_rfl) (fun _ _ _ h => h) (.inl ⟨by kernel_rfl, fun W hW => by first | (obtain ⟨z0, z1, z2, z3, y0, y1, y2, y3⟩ := hW; go_simp; done) | (obtain ⟨z0, z1, z2, z3, y0, y1, y2, y3⟩ := hW; go_simp; omega) | (obtain ⟨z0, z1, z2, z3, y0, y1, y2, y3⟩ := hW; go_simp; simp [*]; done)⟩) hS2 ?_
            try simp only [Act.put, List.setIfInBounds_toArray, List.set_cons_zero, List.set_cons_succ]
            refine wpAnyH_take (i := 12) (oi := ⟨some 63, _, _, _, _, _⟩) (v := .bool true) rfl (by kernel_rfl) (by kernel_rfl) (by kernel_rfl) (fun _ _ _ h => h) (.inl ⟨by kernel_rfl, fun W hW => by kernel_rfl⟩) hS2 ?_
            try simp only [Act.put, List.setIfInBounds_toArray, List.set_cons_zero, List.set_cons_succ]
            refine wpAnyH_take (i := 13) (oi := ⟨some 64, _, _, _, _, _⟩) (v := .agg #[.int .i64 3, .int .i64 0, .string e0B, .slice (some ⟨V.heap.size + 1, 0, none⟩) 2 2]) rfl (by kernel_rfl) (by kernel_rfl) (by kernel_rfl) (fun _ _ _ h => h) (.inl ⟨by kernel_rfl, fun W hW => by first | (obtain ⟨z0, z1, z2, z3, y0, y1, y2, y3⟩ := hW; go_simp; done) | (obtain ⟨z0, z1, z2, z3, y0, y1, y2, y3⟩ := hW; go_simp; omega) | (obtain ⟨z0, z1, z2, z3, y0, y1, y2, y3⟩ := hW; go_simp; simp [*]; done)⟩) hS2 ?_
            try simp only [Act.put, List.setIfInBounds_toArray, List.set_cons_zero, List.set_cons_succ]
            refine wpAnyH_take (i := 14) (oi := ⟨some 65, _, _, _, _, _⟩) (v := .int .i64 a) rfl (by kernel_rfl) (by kernel_rfl) (by kernel_rfl) (fun _ _ _ h => h) (.inl ⟨by kernel_rfl, fun W hW => by kernel_rfl⟩) hS2 ?_
            try simp only [Act.put, List.setIfInBounds_toArray, List.set_cons_zero, List.set_cons_succ]
            refine wpAnyH_ready (rs := [15]) (by kernel_rfl) (by simp) (AllReadyH.cons rfl (fun K hK => ?_) AllReadyH.nil)
            go_simp
            refine (HU2.out _ hd2).mono ?_
            rintro e u3 ⟨rfl, hd3⟩
            refine hK.out _ _ (HS.out _ hd3) (fun hS3 => ?_)
            clear hK K
            try simp only [Act.put, List.setIfInBounds_toArray, List.set_cons_zero, List.set_cons_succ]
            refine wpAnyH_take (i := 16) (oi := ⟨some 67, _, _, _, _, _⟩) (v := .bool true) rfl (by kernel_rfl) (by kernel_rfl) (by kernel_rfl) (fun _ _ _ h => h) (.inl ⟨by kernel_rfl, fun W hW => by kernel_rfl⟩) hS3 ?_
            try simp only [Act.put, List.setIfInBounds_toArray, List.set_cons_zero, List.set_cons_succ]
            refine wpAnyH_take (i := 17) (oi := ⟨some 68, _, _, _, _, _⟩) (v := .bool true) rfl (by kernel_rfl) (by kernel_rfl) (by kernel_rfl) (fun _ _ _ h => h) (.inl ⟨by kernel_rfl, fun W hW => by kernel_rfl⟩) hS3 ?_
            try simp only [Act.put, List.setIfInBounds_toArray, List.set_cons_zero, List.set_cons_succ]
            refine wpAnyH_take (i := 18) (oi := ⟨some 4, _, _, _, _, _⟩) (v := .bool true) rfl (by kernel_rfl) (by kernel_rfl) (by kernel_rfl) (fun _ _ _ h => h) (.inl ⟨by kernel_rfl, fun W hW => by kernel_rfl⟩) hS3 ?_
            try simp only [Act.put, List.setIfInBounds_toArray, List.set_cons_zero, List.set_cons_succ]
            refine wpAnyH_done (by kernel_rfl) ?_ _
            go_wp2_with fail
            go_ret
            exact ⟨rfl, HF.out.bw.trans (hd3.mono HF.out.bw.size)⟩
        · rw [hpb] at HU1 HT1
          clear hpb
          by_cases hab : a < b
          · have habd : decide (a < b) = true := decide_eq_true hab
            rw [habd] at HU1
            simp only [Bool.and_true] at HU1
            clear habd
            refine wp_region_held_drew (S := (fun V' => (V'.cell? ⟨w.heap.size, 0, none⟩ = some (.int .i64 k) ∧ V'.cell? ⟨w.heap.size, 1, none⟩ = some (.int .i64 n) ∧ V'.cell? ⟨w.heap.size, 2, none⟩ = some (.string s) ∧ V'.cell? ⟨w.heap.size, 3, none⟩ = some (.slice A l.length (capF l.length c)) ∧ V'.cell? ⟨V.heap.size + 1 + 1, 0, none⟩ = some (.int .i64 3) ∧ V'.cell? ⟨V.heap.size + 1 + 1, 1, none⟩ = some (.int .i64 0) ∧ V'.cell? ⟨V.heap.size + 1 + 1, 2, none⟩ = some (.string e0B) ∧ V'.cell? ⟨V.heap.size + 1 + 1, 3, none⟩ = some (.slice (some ⟨V.heap.size + 1, 0, none⟩) 2 2)))) rfl hS0 (fun hS1 => ?_)
            change wpAnyH _ _ _ _ _ 19 (Array.replicate 19 false) _ _
            refine wpAnyH_take (i := 0) (oi := ⟨some 51, _, _, _, _, _⟩) (v := .agg #[.int .i64 3, .int .i64 0, .string e0B, .slice (some ⟨V.heap.size + 1, 0, none⟩) 2 2]) rfl (by kernel_rfl) (by kernel_rfl) (by kernel_rfl) (fun _ _ _ h => h) (.inl ⟨by kernel_rfl, fun W hW => by first | (obtain ⟨z0, z1, z2, z3, y0, y1, y2, y3⟩ := hW; go_simp; done) | (obtain ⟨z0, z1, z2, z3, y0, y1, y2, y3⟩ := hW; go_simp; omega) | (obtain ⟨z0, z1, z2, z3, y0, y1, y2, y3⟩ := hW; go_simp; simp [*]; done)⟩) hS1 ?_
            try simp only [Act.put, List.setIfInBounds_toArray, List.set_cons_zero, List.set_cons_succ]
            refine wpAnyH_take (i := 1) (oi := ⟨some 52, _, _, _, _, _⟩) (v := .int .i64 b) rfl (by kernel_rfl) (by kernel_rfl) (by kernel_rfl) (fun _ _ _ h => h) (.inl ⟨by kernel_rfl, fun W hW => by kernel_rfl⟩) hS1 ?_
            try simp only [Act.put, List.setIfInBounds_toArray, List.set_cons_zero, List.set_cons_succ]
            refine wpAnyH_take (i := 3) (oi := ⟨some 54, _, _, _, _, _⟩) (v := .agg #[.int .i64 k, .int .i64 n, .string s, .slice A l.length (capF l.length c)]) rfl (by kernel_rfl) (by kernel_rfl) (by kernel_rfl) (fun _ _ _ h => h) (.inl ⟨by kernel_rfl, fun W hW => by first | (obtain ⟨z0, z1, z2, z3, y0, y1, y2, y3⟩ := hW; go_simp; done) | (obtain ⟨z0, z1, z2, z3, y0, y1, y2, y3⟩ := hW; go_simp; omega) | (obtain ⟨z0, z1, z2, z3, y0, y1, y2, y3⟩ := hW; go_simp; simp [*]; done)⟩) hS1 ?_
            try simp only [Act.put, List.setIfInBounds_toArray, List.set_cons_zero, List.set_cons_succ]
            refine wpAnyH_take (i := 4) (oi := ⟨some 55, _, _, _, _, _⟩) (v := .int .i64 b) rfl (by kernel_rfl) (by kernel_rfl) (by kernel_rfl) (fun _ _ _ h => h) (.inl ⟨by kernel_rfl, fun W hW => by kernel_rfl⟩) hS1 ?_
            try simp only [Act.put, List.setIfInBounds_toArray, List.set_cons_zero, List.set_cons_succ]
            refine wpAnyH_ready (rs := [2]) (by kernel_rfl) (by simp) (AllReadyH.cons rfl (fun K hK => ?_) AllReadyH.nil)
            go_simp
            refine (HU1.out _ hd0).mono ?_
            rintro e u1 ⟨rfl, hd1⟩
            refine hK.out _ _ (HS.out _ hd1) (fun hS1 => ?_)
            clear hK K
            try simp only [Act.put, List.setIfInBounds_toArray, List.set_cons_zero, List.set_cons_succ]
            refine wpAnyH_ready (rs := [5]) (by kernel_rfl) (by simp) (AllReadyH.cons rfl (fun K hK => ?_) AllReadyH.nil)
            go_simp
            refine (HT1.out _ hd1).mono ?_
            rintro e u2 ⟨rfl, hd2⟩
            refine hK.out _ _ (HS.out _ hd2) (fun hS2 => ?_)
            clear hK K
            try simp only [Act.put, List.setIfInBounds_toArray, List.set_cons_zero, List.set_cons_succ]
            refine wpAnyH_take (i := 6) (oi := ⟨some 57, _, _, _, _, _⟩) (v := .bool true) rfl (by kernel_rfl) (by kernel_rfl) (by kernel_rfl) (fun _ _ _ h => h) (.inl ⟨by kernel_rfl, fun W hW => by kernel_rfl⟩) hS2 ?_
            try simp only [Act.put, List.setIfInBounds_toArray, List.set_cons_zero, List.set_cons_succ]
            refine wpAnyH_take (i := 7) (oi := ⟨some 58, _, _, _, _, _⟩) (v := .int .i64 a) rfl (by kernel_rfl) (by kernel_rfl) (by kernel_rfl) (fun _ _ _ h => h) (.inl ⟨by kernel_rfl, fun W hW => by kernel_rfl⟩) hS2 ?_
            try simp only [Act.put, List.setIfInBounds_toArray, List.set_cons_zero, List.set_cons_succ]
            refine wpAnyH_take (i := 8) (oi := ⟨some 59, _, _, _, _, _⟩) (v := .int .i64 b) rfl (by kernel_rfl) (by kernel_rfl) (by kernel_rfl) (fun _ _ _ h => h) (.inl ⟨by kernel_rfl, fun W hW => by kernel_rfl⟩) hS2 ?_
            try simp only [Act.put, List.setIfInBounds_toArray, List.set_cons_zero, List.set_cons_succ]
            refine wpAnyH_take (i := 9) (oi := ⟨some 60, _, _, _, _, _⟩) (v := .bool true) rfl (by kernel_rfl) (by kernel_rfl) (by kernel_rfl) (fun _ _ _ h => h) (.inl ⟨by kernel_rfl, fun W hW => by first | (obtain ⟨z0, z1, z2, z3, y0, y1, y2, y3⟩ := hW; go_simp; done) | (obtain ⟨z0, z1, z2, z3, y0, y1, y2, y3⟩ := hW; go_simp; omega) | (obtain ⟨z0, z1, z2, z3, y0, y1, y2, y3⟩ := hW; go_simp; simp [*]; done)⟩) hS2 ?_
            try simp only [Act.put, List.setIfInBounds_toArray, List.set_cons_zero, List.set_cons_succ]
            refine wpAnyH_take (i := 10) (oi := ⟨some 61, _, _, _, _, _⟩) (v := .bool true) rfl (by kernel_rfl) (by kernel_rfl) (by kernel_rfl) (fun _ _ _ h => h) (.inl ⟨by kernel_rfl, fun W hW => by kernel_rfl⟩) hS2 ?_
            try simp only [Act.put, List.setIfInBounds_toArray, List.set_cons_zero, List.set_cons_succ]
            refine wpAnyH_take (i := 11) (oi := ⟨some 62, _, _, _, _, _⟩) (v := .bool true) rfl (by kernel_rfl) (by kernel_rfl) (by kernel_rfl) (fun _ _ _ h => h) (.inl ⟨by kernel_rfl, fun W hW => by first | (obtain ⟨z0, z1, z2, z3, y0, y1, y2, y3⟩ := hW; go_simp; done) | (obtain ⟨z0, z1, z2, z3, y0, y1, y2, y3⟩ := hW; go_simp; omega) | (obtain ⟨z0, z1, z2, z3, y0, y1, y2, y3⟩ := hW; go_simp; simp [*]; done)⟩) hS2 ?_
            try simp only [Act.put, List.setIfInBounds_toArray, List.set_cons_zero, List.set_cons_succ]
            refine wpAnyH_take (i := 12) (oi := ⟨some 63, _, _, _, _, _⟩) (v := .bool true) rfl (by kernel_rfl) (by kernel_rfl) (by kernel_rfl) (fun _ _ _ h => h) (.inl ⟨by kernel_rfl, fun W hW => by kernel_rfl⟩) hS2 ?_
            try simp only [Act.put, List.setIfInBounds_toArray, List.set_cons_zero, List.set_cons_succ]
            refine wpAnyH_take (i := 13) (oi := ⟨some 64, _, _, _, _, _⟩) (v := .agg #[.int .i64 3, .int .i64 0, .string e0B, .slice (some ⟨V.heap.size + 1, 0, none⟩) 2 2]) rfl (by kernel_rfl) (by kernel_rfl) (by kernel_rfl) (fun _ _ _ h => h) (.inl ⟨by kernel_rfl, fun W hW => by first | (obtain ⟨z0, z1, z2, z3, y0, y1, y2, y3⟩ := hW; go_simp; done) | (obtain ⟨z0, z1, z2, z3, y0, y1, y2, y3⟩ := hW; go_simp; omega) | (obtain ⟨z0, z1, z2, z3, y0, y1, y2, y3⟩ := hW; go_simp; simp [*]; done)⟩) hS2 ?_
            try simp only [Act.put, List.setIfInBounds_toArray, List.set_cons_zero, List.set_cons_succ]
            refine wpAnyH_take (i := 14) (oi := ⟨some 65, _, _, _, _, _⟩) (v := .int .i64 a) rfl (by kernel_rfl) (by kernel_rfl) (by kernel_rfl) (fun _ _ _ h => h) (.inl ⟨by kernel_rfl, fun W hW => by kernel_rfl⟩) hS2 ?_
            try simp only [Act.put, List.setIfInBounds_toArray, List.set_cons_zero, List.set_cons_succ]
            refine wpAnyH_ready (rs := [15]) (by kernel_rfl) (by simp) (AllReadyH.cons rfl (fun K hK => ?_) AllReadyH.nil)
            go_simp
            refine (HU2.out _ hd2).mono ?_
            rintro e u3 ⟨rfl, hd3⟩
            refine hK.out _ _ (HS.out _ hd3) (fun hS3 => ?_)
            clear hK K
            try simp only [Act.put, List.setIfInBounds_toArray, List.set_cons_zero, List.set_cons_succ]
            refine wpAnyH_take (i := 16) (oi := ⟨some 67, _, _, _, _, _⟩) (v := .bool true) rfl (by kernel_rfl) (by kernel_rfl) (by kernel_rfl) (fun _ _ _ h => h) (.inl ⟨by kernel_rfl, fun W hW => by kernel_rfl⟩) hS3 ?_
            try simp only [Act.put, List.setIfInBounds_toArray, List.set_cons_zero, List.set_cons_succ]
            refine wpAnyH_take (i := 17) (oi := ⟨some 68, _, _, _, _, _⟩) (v := .bool true) rfl (by kernel_rfl) (by kernel_rfl) (by kernel_rfl) (fun _ _ _ h => h) (.inl ⟨by kernel_rfl, fun W hW => by kernel_rfl⟩) hS3 ?_
            try simp only [Act.put, List.setIfInBounds_toArray, List.set_cons_zero, List.set_cons_succ]
            refine wpAnyH_take (i := 18) (oi := ⟨some 4, _, _, _, _, _⟩) (v := .bool true) rfl (by kernel_rfl) (by kernel_rfl) (by kernel_rfl) (fun _ _ _ h => h) (.inl ⟨by kernel_rfl, fun W hW => by kernel_rfl⟩) hS3 ?_
            try simp only [Act.put, List.setIfInBounds_toArray, List.set_cons_zero, List.set_cons_succ]
            refine wpAnyH_done (by kernel_rfl) ?_ _
            go_wp2_with fail
            go_ret
            exact ⟨rfl, HF.out.bw.trans (hd3.mono HF.out.bw.size)⟩
          · have habd : decide (a < b) = false := decide_eq_false hab
            rw [habd] at HU1
            simp only [Bool.and_false] at HU1
            refine wp_region_held_drew (S := (fun V' => (V'.cell? ⟨w.heap.size, 0, none⟩ = some (.int .i64 k) ∧ V'.cell? ⟨w.heap.size, 1, none⟩ = some (.int .i64 n) ∧ V'.cell? ⟨w.heap.size, 2, none⟩ = some (.string s) ∧ V'.cell? ⟨w.heap.size, 3, none⟩ = some (.slice A l.length (capF l.length c)) ∧ V'.cell? ⟨V.heap.size + 1 + 1, 0, none⟩ = some (.int .i64 3) ∧ V'.cell? ⟨V.heap.size + 1 + 1, 1, none⟩ = some (.int .i64 0) ∧ V'.cell? ⟨V.heap.size + 1 + 1, 2, none⟩ = some (.string e0B) ∧ V'.cell? ⟨V.heap.size + 1 + 1, 3, none⟩ = some (.slice (some ⟨V.heap.size + 1, 0, none⟩) 2 2)))) rfl hS0 (fun hS1 => ?_)
            change wpAnyH _ _ _ _ _ 19 (Array.replicate 19 false) _ _
            refine wpAnyH_take (i := 0) (oi := ⟨some 51, _, _, _, _, _⟩) (v := .agg #[.int .i64 3, .int .i64 0, .string e0B, .slice (some ⟨V.heap.size + 1, 0, none⟩) 2 2]) rfl (by kernel_rfl) (by kernel_rfl) (by kernel_rfl) (fun _ _ _ h => h) (.inl ⟨by kernel_rfl, fun W hW => by first | (obtain ⟨z0, z1, z2, z3, y0, y1, y2, y3⟩ := hW; go_simp; done) | (obtain ⟨z0, z1, z2, z3, y0, y1, y2, y3⟩ := hW; go_simp; omega) | (obtain ⟨z0, z1, z2, z3, y0, y1, y2, y3⟩ := hW; go_simp; simp [*]; done)⟩) hS1 ?_
            try simp only [Act.put, List.setIfInBounds_toArray, List.set_cons_zero, List.set_cons_succ]
            refine wpAnyH_take (i := 1) (oi := ⟨some 52, _, _, _, _, _⟩) (v := .int .i64 b) rfl (by kernel_rfl) (by kernel_rfl) (by kernel_rfl) (fun _ _ _ h => h) (.inl ⟨by kernel_rfl, fun W hW => by kernel_rfl⟩) hS1 ?_
            try simp only [Act.put, List.setIfInBounds_toArray, List.set_cons_zero, List.set_cons_succ]
            refine wpAnyH_take (i := 3) (oi := ⟨some 54, _, _, _, _, _⟩) (v := .agg #[.int .i64 k, .int .i64 n, .string s, .slice A l.length (capF l.length c)]) rfl (by kernel_rfl) (by kernel_rfl) (by kernel_rfl) (fun _ _ _ h => h) (.inl ⟨by kernel_rfl, fun W hW => by first | (obtain ⟨z0, z1, z2, z3, y0, y1, y2, y3⟩ := hW; go_simp; done) | (obtain ⟨z0, z1, z2, z3, y0, y1, y2, y3⟩ := hW; go_simp; omega) | (obtain ⟨z0, z1, z2, z3, y0, y1, y2, y3⟩ := hW; go_simp; simp [*]; done)⟩) hS1 ?_
            try simp only [Act.put, List.setIfInBounds_toArray, List.set_cons_zero, List.set_cons_succ]
            refine wpAnyH_take (i := 4) (oi := ⟨some 55, _, _, _, _, _⟩) (v := .int .i64 b) rfl (by kernel_rfl) (by kernel_rfl) (by kernel_rfl) (fun _ _ _ h => h) (.inl ⟨by kernel_rfl, fun W hW => by kernel_rfl⟩) hS1 ?_
            try simp only [Act.put, List.setIfInBounds_toArray, List.set_cons_zero, List.set_cons_succ]
            refine wpAnyH_ready (rs := [2]) (by kernel_rfl) (by simp) (AllReadyH.cons rfl (fun K hK => ?_) AllReadyH.nil)
            go_simp
            refine (HU1.out _ hd0).mono ?_
            rintro e u1 ⟨rfl, hd1⟩
            refine hK.out _ _ (HS.out _ hd1) (fun hS1 => ?_)
            clear hK K
            try simp only [Act.put, List.setIfInBounds_toArray, List.set_cons_zero, List.set_cons_succ]
            refine wpAnyH_ready (rs := [5]) (by kernel_rfl) (by simp) (AllReadyH.cons rfl (fun K hK => ?_) AllReadyH.nil)
            go_simp
            refine (HT1.out _ hd1).mono ?_
            rintro e u2 ⟨rfl, hd2⟩
            refine hK.out _ _ (HS.out _ hd2) (fun hS2 => ?_)
            clear hK K
            try simp only [Act.put, List.setIfInBounds_toArray, List.set_cons_zero, List.set_cons_succ]
            refine wpAnyH_take (i := 6) (oi := ⟨some 57, _, _, _, _, _⟩) (v := .bool true) rfl (by kernel_rfl) (by kernel_rfl) (by kernel_rfl) (fun _ _ _ h => h) (.inl ⟨by kernel_rfl, fun W hW => by kernel_rfl⟩) hS2 ?_
            try simp only [Act.put, List.setIfInBounds_toArray, List.set_cons_zero, List.set_cons_succ]
            refine wpAnyH_take (i := 7) (oi := ⟨some 58, _, _, _, _, _⟩) (v := .int .i64 a) rfl (by kernel_rfl) (by kernel_rfl) (by kernel_rfl) (fun _ _ _ h => h) (.inl ⟨by kernel_rfl, fun W hW => by kernel_rfl⟩) hS2 ?_
            try simp only [Act.put, List.setIfInBounds_toArray, List.set_cons_zero, List.set_cons_succ]
            refine wpAnyH_take (i := 8) (oi := ⟨some 59, _, _, _, _, _⟩) (v := .int .i64 b) rfl (by kernel_rfl) (by kernel_rfl) (by kernel_rfl) (fun _ _ _ h => h) (.inl ⟨by kernel_rfl, fun W hW => by kernel_rfl⟩) hS2 ?_
            try simp only [Act.put, List.setIfInBounds_toArray, List.set_cons_zero, List.set_cons_succ]
            refine wpAnyH_take (i := 9) (oi := ⟨some 60, _, _, _, _, _⟩) (v := .bool false) rfl (by kernel_rfl) (by kernel_rfl) (by kernel_rfl) (fun _ _ _ h => h) (.inl ⟨by kernel_rfl, fun W hW => by first | (obtain ⟨z0, z1, z2, z3, y0, y1, y2, y3⟩ := hW; go_simp; done) | (obtain ⟨z0, z1, z2, z3, y0, y1, y2, y3⟩ := hW; go_simp; omega) | (obtain ⟨z0, z1, z2, z3, y0, y1, y2, y3⟩ := hW; go_simp; simp [*]; done)⟩) hS2 ?_
            try simp only [Act.put, List.setIfInBounds_toArray, List.set_cons_zero, List.set_cons_succ]
            refine wpAnyH_take (i := 10) (oi := ⟨some 61, _, _, _, _, _⟩) (v := .bool false) rfl (by kernel_rfl) (by kernel_rfl) (by kernel_rfl) (fun _ _ _ h => h) (.inl ⟨by kernel_rfl, fun W hW => by kernel_rfl⟩) hS2 ?_
            try simp only [Act.put, List.setIfInBounds_toArray, List.set_cons_zero, List.set_cons_succ]
            refine wpAnyH_take (i := 11) (oi := ⟨some 62, _, _, _, _, _⟩) (v := .bool true) rfl (by kernel_rfl) (by kernel_rfl) (by kernel_rfl) (fun _ _ _ h => h) (.inl ⟨by kernel_rfl, fun W hW => by first | (obtain ⟨z0, z1, z2, z3, y0, y1, y2, y3⟩ := hW; go_simp; done) | (obtain ⟨z0, z1, z2, z3, y0, y1, y2, y3⟩ := hW; go_simp; omega) | (obtain ⟨z0, z1, z2, z3, y0, y1, y2, y3⟩ := hW; go_simp; simp [*]; done)⟩) hS2 ?_
            try simp only [Act.put, List.setIfInBounds_toArray, List.set_cons_zero, List.set_cons_succ]
            refine wpAnyH_take (i := 12) (oi := ⟨some 63, _, _, _, _, _⟩) (v := .bool true) rfl (by kernel_rfl) (by kernel_rfl) (by kernel_rfl) (fun _ _ _ h => h) (.inl ⟨by kernel_rfl, fun W hW => by kernel_rfl⟩) hS2 ?_
            try simp only [Act.put, List.setIfInBounds_toArray, List.set_cons_zero, List.set_cons_succ]
            refine wpAnyH_take (i := 13) (oi := ⟨some 64, _, _, _, _, _⟩) (v := .agg #[.int .i64 3, .int .i64 0, .string e0B, .slice (some ⟨V.heap.size + 1, 0, none⟩) 2 2]) rfl (by kernel_rfl) (by kernel_rfl) (by kernel_rfl) (fun _ _ _ h => h) (.inl ⟨by kernel_rfl, fun W hW => by first | (obtain ⟨z0, z1, z2, z3, y0, y1, y2, y3⟩ := hW; go_simp; done) | (obtain ⟨z0, z1, z2, z3, y0, y1, y2, y3⟩ := hW; go_simp; omega) | (obtain ⟨z0, z1, z2, z3, y0, y1, y2, y3⟩ := hW; go_simp; simp [*]; done)⟩) hS2 ?_
            try simp only [Act.put, List.setIfInBounds_toArray, List.set_cons_zero, List.set_cons_succ]
            refine wpAnyH_take (i := 14) (oi := ⟨some 65, _, _, _, _, _⟩) (v := .int .i64 a) rfl (by kernel_rfl) (by kernel_rfl) (by kernel_rfl) (fun _ _ _ h => h) (.inl ⟨by kernel_rfl, fun W hW => by kernel_rfl⟩) hS2 ?_
            try simp only [Act.put, List.setIfInBounds_toArray, List.set_cons_zero, List.set_cons_succ]
            refine wpAnyH_ready (rs := [15]) (by kernel_rfl) (by simp) (AllReadyH.cons rfl (fun K hK => ?_) AllReadyH.nil)
            go_simp
            refine (HU2.out _ hd2).mono ?_
            rintro e u3 ⟨rfl, hd3⟩
            refine hK.out _ _ (HS.out _ hd3) (fun hS3 => ?_)
            clear hK K
            try simp only [Act.put, List.setIfInBounds_toArray, List.set_cons_zero, List.set_cons_succ]
            refine wpAnyH_take (i := 16) (oi := ⟨some 67, _, _, _, _, _⟩) (v := .bool true) rfl (by kernel_rfl) (by kernel_rfl) (by kernel_rfl) (fun _ _ _ h => h) (.inl ⟨by kernel_rfl, fun W hW => by kernel_rfl⟩) hS3 ?_
            try simp only [Act.put, List.setIfInBounds_toArray, List.set_cons_zero, List.set_cons_succ]
            refine wpAnyH_take (i := 17) (oi := ⟨some 68, _, _, _, _, _⟩) (v := .bool true) rfl (by kernel_rfl) (by kernel_rfl) (by kernel_rfl) (fun _ _ _ h => h) (.inl ⟨by kernel_rfl, fun W hW => by kernel_rfl⟩) hS3 ?_
            try simp only [Act.put, List.setIfInBounds_toArray, List.set_cons_zero, List.set_cons_succ]
            refine wpAnyH_take (i := 18) (oi := ⟨some 4, _, _, _, _, _⟩) (v := .bool true) rfl (by kernel_rfl) (by kernel_rfl) (by kernel_rfl) (fun _ _ _ h => h) (.inl ⟨by kernel_rfl, fun W hW => by kernel_rfl⟩) hS3 ?_
            try simp only [Act.put, List.setIfInBounds_toArray, List.set_cons_zero, List.set_cons_succ]
            refine wpAnyH_done (by kernel_rfl) ?_ _
            go_wp2_with fail
            go_ret
            exact ⟨rfl, HF.out.bw.trans (hd3.mono HF.out.bw.size)⟩
      · rw [hpa] at HM
        have hpb := HMM.out hpa
        have HPB := Lib.hid hpb
        clear hpa HMM
        go_wp2_with fail
        refine HM.out.mono ?_
        rintro e V0 ⟨rfl, hbV⟩
        have HX := Lib.hid (HX.out.step hbV)
        have hM2 := HX.out.may (by have := HZ.out; omega) b
        rw [hpb] at hM2
        have HM2 := Lib.hid hM2
        clear hbV HM c0 c1 c2 c3 hM2 hpb
        obtain ⟨c0, c1, c2, c3⟩ := HX.out.four
        go_wp2_with fail
        refine HM2.out.mono ?_
        rintro e V ⟨rfl, hbV⟩
        have HX := Lib.hid (HX.out.step hbV)
        clear hbV HM2 c0 c1 c2 c3
        obtain ⟨c0, c1, c2, c3⟩ := (HX.out.old (.cells #[.int .i64 1, .int .i64 a, .string e0B, .slice none 0 0] 24)).four
        go_upto_region 10 with fail
        have hF := order_boxes (a := a) HX.out (by omega) (by omega)
        obtain ⟨W5, hW5⟩ : ∃ W, W = ((V.alloc (.cells #[.int .i64 1, .int .i64 a, .string e0B, .slice none 0 0] 24)).alloc (.cells #[.int .i64 k, .int .i64 n, .string s, .slice A l.length (capF l.length c), .int .i64 1, .int .i64 a, .string e0B, .slice none 0 0] 24)).alloc (.cells #[.int .i64 3, .int .i64 0, .string e0B, .slice (some ⟨V.heap.size + 1, 0, none⟩) 2 2] 24) := ⟨_, rfl⟩
        change Code.wp _ _ _ _ (((V.alloc (.cells #[.int .i64 1, .int .i64 a, .string e0B, .slice none 0 0] 24)).alloc (.cells #[.int .i64 k, .int .i64 n, .string s, .slice A l.length (capF l.length c), .int .i64 1, .int .i64 a, .string e0B, .slice none 0 0] 24)).alloc (.cells #[.int .i64 3, .int .i64 0, .string e0B, .slice (some ⟨V.heap.size + 1, 0, none⟩) 2 2] 24))
        rw [← hW5] at hF ⊢
        have HF := Lib.hid hF.1
        have HG := Lib.hid hF.2
        have hd0 : Below W5.heap.size W5 W5.drew := (Below.refl _ W5).drew
        have HS := Lib.hid (fun (V' : World) (h : Below W5.heap.size W5 V') => (⟨(HF.out.step h).box.cell 0, (HF.out.step h).box.cell 1, (HF.out.step h).box.cell 2, (HF.out.step h).box.cell 3, (HG.out.step h).box.cell 0, (HG.out.step h).box.cell 1, (HG.out.step h).box.cell 2, (HG.out.step h).box.cell 3⟩ : (fun V' => (V'.cell? ⟨w.heap.size, 0, none⟩ = some (.int .i64 k) ∧ V'.cell? ⟨w.heap.size, 1, none⟩ = some (.int .i64 n) ∧ V'.cell? ⟨w.heap.size, 2, none⟩ = some (.string s) ∧ V'.cell? ⟨w.heap.size, 3, none⟩ = some (.slice A l.length (capF l.length c)) ∧ V'.cell? ⟨V.heap.size + 1 + 1, 0, none⟩ = some (.int .i64 3) ∧ V'.cell? ⟨V.heap.size + 1 + 1, 1, none⟩ = some (.int .i64 0) ∧ V'.cell? ⟨V.heap.size + 1 + 1, 2, none⟩ = some (.string e0B) ∧ V'.cell? ⟨V.heap.size + 1 + 1, 3, none⟩ = some (.slice (some ⟨V.heap.size + 1, 0, none⟩) 2 2))) V'))
        have hS0 := HS.out _ hd0
        have HU1 := Lib.hid (fun (V' : World) (h : Below W5.heap.size W5 V') => Calls.mono ((HG.out.step h).may (by have := HZ.out; simp only [depthE, depthEL] at this ⊢; omega) b) (fun e w' h2 => (show e = .returned (.bool (mayV6 (.node k n s l) b && decide (a < b))) ∧ Below W5.heap.size W5 w' from ⟨by rw [h2.1, order_may (by omega) (by omega)], h.trans (h2.2.mono h.size)⟩)))
        have HU2 := Lib.hid (fun (V' : World) (h : Below W5.heap.size W5 V') => Calls.mono ((HG.out.step h).may (by have := HZ.out; simp only [depthE, depthEL] at this ⊢; omega) a) (fun e w' h2 => (show e = .returned (.bool false) ∧ Below W5.heap.size W5 w' from ⟨by rw [h2.1, order_may (by omega) (by omega)]; simp, h.trans (h2.2.mono h.size)⟩)))
        have HT1 := Lib.hid (fun (V' : World) (h : Below W5.heap.size W5 V') => Calls.mono ((HF.out.step h).may (by have := HZ.out; omega) b) (fun e w' h2 => (show e = .returned (.bool (mayV6 (.node k n s l) b)) ∧ Below W5.heap.size W5 w' from ⟨h2.1, h.trans (h2.2.mono h.size)⟩)))
        clear hW5 hF HX c0 c1 c2 c3
        rw [HPB.out] at HU1 HT1
        by_cases hab : a < b
        · have habd : decide (a < b) = true := decide_eq_true hab
          rw [habd] at HU1
          simp only [Bool.and_true] at HU1
          clear habd
          refine wp_region_held_drew (S := (fun V' => (V'.cell? ⟨w.heap.size, 0, none⟩ = some (.int .i64 k) ∧ V'.cell? ⟨w.heap.size, 1, none⟩ = some (.int .i64 n) ∧ V'.cell? ⟨w.heap.size, 2, none⟩ = some (.string s) ∧ V'.cell? ⟨w.heap.size, 3, none⟩ = some (.slice A l.length (capF l.length c)) ∧ V'.cell? ⟨V.heap.size + 1 + 1, 0, none⟩ = some (.int .i64 3) ∧ V'.cell? ⟨V.heap.size + 1 + 1, 1, none⟩ = some (.int .i64 0) ∧ V'.cell? ⟨V.heap.size + 1 + 1, 2, none⟩ = some (.string e0B) ∧ V'.cell? ⟨V.heap.size + 1 + 1, 3, none⟩ = some (.slice (some ⟨V.heap.size + 1, 0, none⟩) 2 2)))) rfl hS0 (fun hS1 => ?_)
          change wpAnyH _ _ _ _ _ 19 (Array.replicate 19 false) _ _
          refine wpAnyH_take (i := 0) (oi := ⟨some 51, _, _, _, _, _⟩) (v := .agg #[.int .i64 3, .int .i64 0, .string e0B, .slice (some ⟨V.heap.size + 1, 0, none⟩) 2 2]) rfl (by kernel_rfl) (by kernel_rfl) (by kernel_rfl) (fun _ _ _ h => h) (.inl ⟨by kernel_rfl, fun W hW => by first | (obtain ⟨z0, z1, z2, z3, y0, y1, y2, y3⟩ := hW; go_simp; done) | (obtain ⟨z0, z1, z2, z3, y0, y1, y2, y3⟩ := hW; go_simp; omega) | (obtain ⟨z0, z1, z2, z3, y0, y1, y2, y3⟩ := hW; go_simp; simp [*]; done)⟩) hS1 ?_
          try simp only [Act.put, List.setIfInBounds_toArray, List.set_cons_zero, List.set_cons_succ]
          refine wpAnyH_take (i := 1) (oi := ⟨some 52, _, _, _, _, _⟩) (v := .int .i64 b) rfl (by kernel_rfl) (by kernel_rfl) (by kernel_rfl) (fun _ _ _ h => h) (.inl ⟨by kernel_rfl, fun W hW => by kernel_rfl⟩) hS1 ?_
          try simp only [Act.put, List.setIfInBounds_toArray, List.set_cons_zero, List.set_cons_succ]
          refine wpAnyH_take (i := 3) (oi := ⟨some 54, _, _, _, _, _⟩) (v := .agg #[.int .i64 k, .int .i64 n, .string s, .slice A l.length (capF l.length c)]) rfl (by kernel_rfl) (by kernel_rfl) (by kernel_rfl) (fun _ _ _ h => h) (.inl ⟨by kernel_rfl, fun W hW => by first | (obtain ⟨z0, z1, z2, z3, y0, y1, y2, y3⟩ := hW; go_simp; done) | (obtain ⟨z0, z1, z2, z3, y0, y1, y2, y3⟩ := hW; go_simp; omega) | (obtain ⟨z0, z1, z2, z3, y0, y1, y2, y3⟩ := hW; go_simp; simp [*]; done)⟩) hS1 ?_
          try simp only [Act.put, List.setIfInBounds_toArray, List.set_cons_zero, List.set_cons_succ]
          refine wpAnyH_take (i := 4) (oi := ⟨some 55, _, _, _, _, _⟩) (v := .int .i64 b) rfl (by kernel_rfl) (by kernel_rfl) (by kernel_rfl) (fun _ _ _ h => h) (.inl ⟨by kernel_rfl, fun W hW => by kernel_rfl⟩) hS1 ?_
          try simp only [Act.put, List.setIfInBounds_toArray, List.set_cons_zero, List.set_cons_succ]
          refine wpAnyH_ready (rs := [2]) (by kernel_rfl) (by simp) (AllReadyH.cons rfl (fun K hK => ?_) AllReadyH.nil)
          go_simp
          refine (HU1.out _ hd0).mono ?_
          rintro e u1 ⟨rfl, hd1⟩
          refine hK.out _ _ (HS.out _ hd1) (fun hS1 => ?_)
          clear hK K
          try simp only [Act.put, List.setIfInBounds_toArray, List.set_cons_zero, List.set_cons_succ]
          refine wpAnyH_ready (rs := [5]) (by kernel_rfl) (by simp) (AllReadyH.cons rfl (fun K hK => ?_) AllReadyH.nil)
          go_simp
          refine (HT1.out _ hd1).mono ?_
          rintro e u2 ⟨rfl, hd2⟩
          refine hK.out _ _ (HS.out _ hd2) (fun hS2 => ?_)
          clear hK K
          try simp only [Act.put, List.setIfInBounds_toArray, List.set_cons_zero, List.set_cons_succ]
          refine wpAnyH_take (i := 6) (oi := ⟨some 57, _, _, _, _, _⟩) (v := .bool true) rfl (by kernel_rfl) (by kernel_rfl) (by kernel_rfl) (fun _ _ _ h => h) (.inl ⟨by kernel_rfl, fun W hW => by kernel_rfl⟩) hS2 ?_
          try simp only [Act.put, List.setIfInBounds_toArray, List.set_cons_zero, List.set_cons_succ]
          refine wpAnyH_take (i := 7) (oi := ⟨some 58, _, _, _, _, _⟩) (v := .int .i64 a) rfl (by kernel_rfl) (by kernel_rfl) (by kernel_rfl) (fun _ _ _ h => h) (.inl ⟨by kernel_rfl, fun W hW => by kernel_rfl⟩) hS2 ?_
          try simp only [Act.put, List.setIfInBounds_toArray, List.set_cons_zero, List.set_cons_succ]
          refine wpAnyH_take (i := 8) (oi := ⟨some 59, _, _, _, _, _⟩) (v := .int .i64 b) rfl (by kernel_rfl) (by kernel_rfl) (by kernel_rfl) (fun _ _ _ h => h) (.inl ⟨by kernel_rfl, fun W hW => by kernel_rfl⟩) hS2 ?_
          try simp only [Act.put, List.setIfInBounds_toArray, List.set_cons_zero, List.set_cons_succ]
          refine wpAnyH_take (i := 9) (oi := ⟨some 60, _, _, _, _, _⟩) (v := .bool true) rfl (by kernel_rfl) (by kernel_rfl) (by kernel_rfl) (fun _ _ _ h => h) (.inl ⟨by kernel_rfl, fun W hW => by first | (obtain ⟨z0, z1, z2, z3, y0, y1, y2, y3⟩ := hW; go_simp; done) | (obtain ⟨z0, z1, z2, z3, y0, y1, y2, y3⟩ := hW; go_simp; omega) | (obtain ⟨z0, z1, z2, z3, y0, y1, y2, y3⟩ := hW; go_simp; simp [*]; done)⟩) hS2 ?_
          try simp only [Act.put, List.setIfInBounds_toArray, List.set_cons_zero, List.set_cons_succ]
          refine wpAnyH_take (i := 10) (oi := ⟨some 61, _, _, _, _, _⟩) (v := .bool true) rfl (by kernel_rfl) (by kernel_rfl) (by kernel_rfl) (fun _ _ _ h => h) (.inl ⟨by kernel_rfl, fun W hW => by kernel_rfl⟩) hS2 ?_
          try simp only [Act.put, List.setIfInBounds_toArray, List.set_cons_zero, List.set_cons_succ]
          refine wpAnyH_take (i := 11) (oi := ⟨some 62, _, _, _, _, _⟩) (v := .bool true) rfl (by kernel_rfl) (by kernel_rfl) (by kernel_rfl) (fun _ _ _ h => h) (.inl ⟨by kernel_rfl, fun W hW => by first | (obtain ⟨z0, z1, z2, z3, y0, y1, y2, y3⟩ := hW; go_simp; done) | (obtain ⟨z0, z1, z2, z3, y0, y1, y2, y3⟩ := hW; go_simp; omega) | (obtain ⟨z0, z1, z2, z3, y0, y1, y2, y3⟩ := hW; go_simp; simp [*]; done)⟩) hS2 ?_
          try simp only [Act.put, List.setIfInBounds_toArray, List.set_cons_zero, List.set_cons_succ]
          refine wpAnyH_take (i := 12) (oi := ⟨some 63, _, _, _, _, _⟩) (v := .bool true) rfl (by kernel_rfl) (by kernel_rfl) (by kernel_rfl) (fun _ _ _ h => h) (.inl ⟨by kernel_rfl, fun W hW => by kernel_rfl⟩) hS2 ?_
          try simp only [Act.put, List.setIfInBounds_toArray, List.set_cons_zero, List.set_cons_succ]
          refine wpAnyH_take (i := 13) (oi := ⟨some 64, _, _, _, _, _⟩) (v := .agg #[.int .i64 3, .int .i64 0, .string e0B, .slice (some ⟨V.heap.size + 1, 0, none⟩) 2 2]) rfl (by kernel_rfl) (by kernel_rfl) (by kernel_rfl) (fun _ _ _ h => h) (.inl ⟨by kernel_rfl, fun W hW => by first | (obtain ⟨z0, z1, z2, z3, y0, y1, y2, y3⟩ := hW; go_simp; done) | (obtain ⟨z0, z1, z2, z3, y0, y1, y2, y3⟩ := hW; go_simp; omega) | (obtain ⟨z0, z1, z2, z3, y0, y1, y2, y3⟩ := hW; go_simp; simp [*]; done)⟩) hS2 ?_
          try simp only [Act.put, List.setIfInBounds_toArray, List.set_cons_zero, List.set_cons_succ]
          refine wpAnyH_take (i := 14) (oi := ⟨some 65, _, _, _, _, _⟩) (v := .int .i64 a) rfl (by kernel_rfl) (by kernel_rfl) (by kernel_rfl) (fun _ _ _ h => h) (.inl ⟨by kernel_rfl, fun W hW => by kernel_rfl⟩) hS2 ?_
          try simp only [Act.put, List.setIfInBounds_toArray, List.set_cons_zero, List.set_cons_succ]
          refine wpAnyH_ready (rs := [15]) (by kernel_rfl) (by simp) (AllReadyH.cons rfl (fun K hK => ?_) AllReadyH.nil)
          go_simp
          refine (HU2.out _ hd2).mono ?_
          rintro e u3 ⟨rfl, hd3⟩
          refine hK.out _ _ (HS.out _ hd3) (fun hS3 => ?_)
          clear hK K
          try simp only [Act.put, List.setIfInBounds_toArray, List.set_cons_zero, List.set_cons_succ]
          refine wpAnyH_take (i := 16) (oi := ⟨some 67, _, _, _, _, _⟩) (v := .bool true) rfl (by kernel_rfl) (by kernel_rfl) (by kernel_rfl) (fun _ _ _ h => h) (.inl ⟨by kernel_rfl, fun W hW => by kernel_rfl⟩) hS3 ?_
          try simp only [Act.put, List.setIfInBounds_toArray, List.set_cons_zero, List.set_cons_succ]
          refine wpAnyH_take (i := 17) (oi := ⟨some 68, _, _, _, _, _⟩) (v := .bool true) rfl (by kernel_rfl) (by kernel_rfl) (by kernel_rfl) (fun _ _ _ h => h) (.inl ⟨by kernel_rfl, fun W hW => by kernel_rfl⟩) hS3 ?_
          try simp only [Act.put, List.setIfInBounds_toArray, List.set_cons_zero, List.set_cons_succ]
          refine wpAnyH_take (i := 18) (oi := ⟨some 4, _, _, _, _, _⟩) (v := .bool true) rfl (by kernel_rfl) (by kernel_rfl) (by kernel_rfl) (fun _ _ _ h => h) (.inl ⟨by kernel_rfl, fun W hW => by kernel_rfl⟩) hS3 ?_
          try simp only [Act.put, List.setIfInBounds_toArray, List.set_cons_zero, List.set_cons_succ]
          refine wpAnyH_done (by kernel_rfl) ?_ _
          go_wp2_with fail
          go_ret
          exact ⟨rfl, HF.out.bw.trans (hd3.mono HF.out.bw.size)⟩
        · have habd : decide (a < b) = false := decide_eq_false hab
          rw [habd] at HU1
          simp only [Bool.and_false] at HU1
          refine wp_region_held_drew (S := (fun V' => (V'.cell? ⟨w.heap.size, 0, none⟩ = some (.int .i64 k) ∧ V'.cell? ⟨w.heap.size, 1, none⟩ = some (.int .i64 n) ∧ V'.cell? ⟨w.heap.size, 2, none⟩ = some (.string s) ∧ V'.cell? ⟨w.heap.size, 3, none⟩ = some (.slice A l.length (capF l.length c)) ∧ V'.cell? ⟨V.heap.size + 1 + 1, 0, none⟩ = some (.int .i64 3) ∧ V'.cell? ⟨V.heap.size + 1 + 1, 1, none⟩ = some (.int .i64 0) ∧ V'.cell? ⟨V.heap.size + 1 + 1, 2, none⟩ = some (.string e0B) ∧ V'.cell? ⟨V.heap.size + 1 + 1, 3, none⟩ = some (.slice (some ⟨V.heap.size + 1, 0, none⟩) 2 2)))) rfl hS0 (fun hS1 => ?_)
          change wpAnyH _ _ _ _ _ 19 (Array.replicate 19 false) _ _
          refine wpAnyH_take (i := 0) (oi := ⟨some 51, _, _, _, _, _⟩) (v := .agg #[.int .i64 3, .int .i64 0, .string e0B, .slice (some ⟨V.heap.size + 1, 0, none⟩) 2 2]) rfl (by kernel_rfl) (by kernel_rfl) (by kernel_rfl) (fun _ _ _ h => h) (.inl ⟨by kernel_rfl, fun W hW => by first | (obtain ⟨z0, z1, z2, z3, y0, y1, y2, y3⟩ := hW; go_simp; done) | (obtain ⟨z0, z1, z2, z3, y0, y1, y2, y3⟩ := hW; go_simp; omega) | (obtain ⟨z0, z1, z2, z3, y0, y1, y2, y3⟩ := hW; go_simp; simp [*]; done)⟩) hS1 ?_
          try simp only [Act.put, List.setIfInBounds_toArray, List.set_cons_zero, List.set_cons_succ]
          refine wpAnyH_take (i := 1) (oi := ⟨some 52, _, _, _, _, _⟩) (v := .int .i64 b) rfl (by kernel_rfl) (by kernel_rfl) (by kernel_rfl) (fun _ _ _ h => h) (.inl ⟨by kernel_rfl, fun W hW => by kernel_rfl⟩) hS1 ?_
          try simp only [Act.put, List.setIfInBounds_toArray, List.set_cons_zero, List.set_cons_succ]
          refine wpAnyH_take (i := 3) (oi := ⟨some 54, _, _, _, _, _⟩) (v := .agg #[.int .i64 k, .int .i64 n, .string s, .slice A l.length (capF l.length c)]) rfl (by kernel_rfl) (by kernel_rfl) (by kernel_rfl) (fun _ _ _ h => h) (.inl ⟨by kernel_rfl, fun W hW => by first | (obtain ⟨z0, z1, z2, z3, y0, y1, y2, y3⟩ := hW; go_simp; done) | (obtain ⟨z0, z1, z2, z3, y0, y1, y2, y3⟩ := hW; go_simp; omega) | (obtain ⟨z0, z1, z2, z3, y0, y1, y2, y3⟩ := hW; go_simp; simp [*]; done)⟩) hS1 ?_
          try simp only [Act.put, List.setIfInBounds_toArray, List.set_cons_zero, List.set_cons_succ]
          refine wpAnyH_take (i := 4) (oi := ⟨some 55, _, _, _, _, _⟩) (v := .int .i64 b) rfl (by kernel_rfl) (by kernel_rfl) (by kernel_rfl) (fun _ _ _ h => h) (.inl ⟨by kernel_rfl, fun W hW => by kernel_rfl⟩) hS1 ?_
          try simp only [Act.put, List.setIfInBounds_toArray, List.set_cons_zero, List.set_cons_succ]
          refine wpAnyH_ready (rs := [2]) (by kernel_rfl) (by simp) (AllReadyH.cons rfl (fun K hK => ?_) AllReadyH.nil)
          go_simp
          refine (HU1.out _ hd0).mono ?_
          rintro e u1 ⟨rfl, hd1⟩
          refine hK.out _ _ (HS.out _ hd1) (fun hS1 => ?_)
          clear hK K
          try simp only [Act.put, List.setIfInBounds_toArray, List.set_cons_zero, List.set_cons_succ]
          refine wpAnyH_ready (rs := [5]) (by kernel_rfl) (by simp) (AllReadyH.cons rfl (fun K hK => ?_) AllReadyH.nil)
          go_simp
          refine (HT1.out _ hd1).mono ?_
          rintro e u2 ⟨rfl, hd2⟩
          refine hK.out _ _ (HS.out _ hd2) (fun hS2 => ?_)
          clear hK K
          try simp only [Act.put, List.setIfInBounds_toArray, List.set_cons_zero, List.set_cons_succ]
          refine wpAnyH_take (i := 6) (oi := ⟨some 57, _, _, _, _, _⟩) (v := .bool true) rfl (by kernel_rfl) (by kernel_rfl) (by kernel_rfl) (fun _ _ _ h => h) (.inl ⟨by kernel_rfl, fun W hW => by kernel_rfl⟩) hS2 ?_
          try simp only [Act.put, List.setIfInBounds_toArray, List.set_cons_zero, List.set_cons_succ]
          refine wpAnyH_take (i := 7) (oi := ⟨some 58, _, _, _, _, _⟩) (v := .int .i64 a) rfl (by kernel_rfl) (by kernel_rfl) (by kernel_rfl) (fun _ _ _ h => h) (.inl ⟨by kernel_rfl, fun W hW => by kernel_rfl⟩) hS2 ?_
          try simp only [Act.put, List.setIfInBounds_toArray, List.set_cons_zero, List.set_cons_succ]
          refine wpAnyH_take (i := 8) (oi := ⟨some 59, _, _, _, _, _⟩) (v := .int .i64 b) rfl (by kernel_rfl) (by kernel_rfl) (by kernel_rfl) (fun _ _ _ h => h) (.inl ⟨by kernel_rfl, fun W hW => by kernel_rfl⟩) hS2 ?_
          try simp only [Act.put, List.setIfInBounds_toArray, List.set_cons_zero, List.set_cons_succ]
          refine wpAnyH_take (i := 9) (oi := ⟨some 60, _, _, _, _, _⟩) (v := .bool false) rfl (by kernel_rfl) (by kernel_rfl) (by kernel_rfl) (fun _ _ _ h => h) (.inl ⟨by kernel_rfl, fun W hW => by first | (obtain ⟨z0, z1, z2, z3, y0, y1, y2, y3⟩ := hW; go_simp; done) | (obtain ⟨z0, z1, z2, z3, y0, y1, y2, y3⟩ := hW; go_simp; omega) | (obtain ⟨z0, z1, z2, z3, y0, y1, y2, y3⟩ := hW; go_simp; simp [*]; done)⟩) hS2 ?_
          try simp only [Act.put, List.setIfInBounds_toArray, List.set_cons_zero, List.set_cons_succ]
          refine wpAnyH_take (i := 10) (oi := ⟨some 61, _, _, _, _, _⟩) (v := .bool false) rfl (by kernel_rfl) (by kernel_rfl) (by kernel_rfl) (fun _ _ _ h => h) (.inl ⟨by kernel_rfl, fun W hW => by kernel_rfl⟩) hS2 ?_
          try simp only [Act.put, List.setIfInBounds_toArray, List.set_cons_zero, List.set_cons_succ]
          refine wpAnyH_take (i := 11) (oi := ⟨some 62, _, _, _, _, _⟩) (v := .bool true) rfl (by kernel_rfl) (by kernel_rfl) (by kernel_rfl) (fun _ _ _ h => h) (.inl ⟨by kernel_rfl, fun W hW => by first | (obtain ⟨z0, z1, z2, z3, y0, y1, y2, y3⟩ := hW; go_simp; done) | (obtain ⟨z0, z1, z2, z3, y0, y1, y2, y3⟩ := hW; go_simp; omega) | (obtain ⟨z0, z1, z2, z3, y0, y1, y2, y3⟩ := hW; go_simp; simp [*]; done)⟩) hS2 ?_
          try simp only [Act.put, List.setIfInBounds_toArray, List.set_cons_zero, List.set_cons_succ]
          refine wpAnyH_take (i := 12) (oi := ⟨some 63, _, _, _, _, _⟩) (v := .bool true) rfl (by kernel_rfl) (by kernel_rfl) (by kernel_rfl) (fun _ _ _ h => h) (.inl ⟨by kernel_rfl, fun W hW => by kernel_rfl⟩) hS2 ?_
          try simp only [Act.put, List.setIfInBounds_toArray, List.set_cons_zero, List.set_cons_succ]
          refine wpAnyH_take (i := 13) (oi := ⟨some 64, _, _, _, _, _⟩) (v := .agg #[.int .i64 3, .int .i64 0, .string e0B, .slice (some ⟨V.heap.size + 1, 0, none⟩) 2 2]) rfl (by kernel_rfl) (by kernel_rfl) (by kernel_rfl) (fun _ _ _ h => h) (.inl ⟨by kernel_rfl, fun W hW => by first | (obtain ⟨z0, z1, z2, z3, y0, y1, y2, y3⟩ := hW; go_simp; done) | (obtain ⟨z0, z1, z2, z3, y0, y1, y2, y3⟩ := hW; go_simp; omega) | (obtain ⟨z0, z1, z2, z3, y0, y1, y2, y3⟩ := hW; go_simp; simp [*]; done)⟩) hS2 ?_
          try simp only [Act.put, List.setIfInBounds_toArray, List.set_cons_zero, List.set_cons_succ]
          refine wpAnyH_take (i := 14) (oi := ⟨some 65, _, _, _, _, _⟩) (v := .int .i64 a) rfl (by kernel_rfl) (by kernel_rfl) (by kernel_rfl) (fun _ _ _ h => h) (.inl ⟨by kernel_rfl, fun W hW => by kernel_rfl⟩) hS2 ?_
          try simp only [Act.put, List.setIfInBounds_toArray, List.set_cons_zero, List.set_cons_succ]
          refine wpAnyH_ready (rs := [15]) (by kernel_rfl) (by simp) (AllReadyH.cons rfl (fun K hK => ?_) AllReadyH.nil)
          go_simp
          refine (HU2.out _ hd2).mono ?_
          rintro e u3 ⟨rfl, hd3⟩
          refine hK.out _ _ (HS.out _ hd3) (fun hS3 => ?_)
          clear hK K
          try simp only [Act.put, List.setIfInBounds_toArray, List.set_cons_zero, List.set_cons_succ]
          refine wpAnyH_take (i := 16) (oi := ⟨some 67, _, _, _, _, _⟩) (v := .bool true) rfl (by kernel_rfl) (by kernel_rfl) (by kernel_rfl) (fun _ _ _ h => h) (.inl ⟨by kernel_rfl, fun W hW => by kernel_rfl⟩) hS3 ?_
          try simp only [Act.put, List.setIfInBounds_toArray, List.set_cons_zero, List.set_cons_succ]
          refine wpAnyH_take (i := 17) (oi := ⟨some 68, _, _, _, _, _⟩) (v := .bool true) rfl (by kernel_rfl) (by kernel_rfl) (by kernel_rfl) (fun _ _ _ h => h) (.inl ⟨by kernel_rfl, fun W hW => by kernel_rfl⟩) hS3 ?_
          try simp only [Act.put, List.setIfInBounds_toArray, List.set_cons_zero, List.set_cons_succ]
          refine wpAnyH_take (i := 18) (oi := ⟨some 4, _, _, _, _, _⟩) (v := .bool true) rfl (by kernel_rfl) (by kernel_rfl) (by kernel_rfl) (fun _ _ _ h => h) (.inl ⟨by kernel_rfl, fun W hW => by kernel_rfl⟩) hS3 ?_
          try simp only [Act.put, List.setIfInBounds_toArray, List.set_cons_zero, List.set_cons_succ]
          refine wpAnyH_done (by kernel_rfl) ?_ _
          go_wp2_with fail
          go_ret
          exact ⟨rfl, HF.out.bw.trans (hd3.mono HF.out.bw.size)⟩
end Lx
end Go.Proofs.YteagbndjoklogaaDoor
