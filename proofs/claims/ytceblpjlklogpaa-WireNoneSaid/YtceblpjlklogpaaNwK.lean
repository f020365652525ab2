/-
  Walk of law13.fixed.
-/
import Derived.Test.YtceblpjlklogpaaC11
import Derived.Test.YtceblpjlklogpaaC8
import Derived.Test.YtceblpjlklogpaaC2
import Derived.Deep.DeepCutAuto
import Derived.Deep.RegionHeld3
namespace Go.Proofs.Ytceblpjlklogpaa
open Go Go.RowKit
namespace Lx
set_option maxRecDepth 100000
def f0N : List Nd := newNs ++ [freshV (bareN 2)]
def f1N : List Nd := (linkNV f0N (2, 1) (2, 2)).1
def f2N : List Nd := (moveNV f1N (0, 0) (2, 0)).1
def f3N : List Nd := (joinNV f2N (2, 0) (2, 1)).1
theorem givesLit {ns : List Nd} {er er' : Int} {V w' : World} {e : Ending} (h : GivesNet ns 9 [.int .i64 er] V e w') (hl : ns.length = 3) (he : er = er') : ∃ A c, e = .returned (.tuple #[.agg #[.slice A 3 c, .int .i64 9], .int .i64 er']) ∧ NdsIn w' (fun g => V.heap.size ≤ g) ns A ∧ Below V.heap.size V w' := by
  obtain ⟨A, m, c, rfl, rfl, _, h1, h2⟩ := h.let_
  subst he
  rw [hl]
  exact ⟨A, c, rfl, h1, h2⟩
theorem few_lit (ns : List Nd) (h : (ns.all fun x => decide (x.to.length ≤ 100000) && decide (x.alts.length ≤ 100000)) = true) : Few9 ns := fun i hi => by
  have h1 := List.all_eq_true.1 h (ns[i]'hi) (List.getElem_mem hi)
  rw [ndAt_lt hi]
  simpa using h1
set_option maxHeartbeats 40000000 in
theorem fixed13_any (w : World) : Calls Try.prog 9 #[] w fun e w' => e = .returned (.bool true) ∧ Below w.heap.size w w' := by
  have HNEW := Lib.hid (rnew_any 9 w (by decide))
  go_enter Try.func9, Try.ntmps9
  go_wp2_with fail
  refine HNEW.out.mono ?_
  rintro e V ⟨A, d, he, hN, hb⟩
  obtain ⟨c, hc⟩ : ∃ cc, cc = capN 2 d := ⟨_, rfl⟩
  have he2 : e = .returned (.tuple #[.agg #[.slice A 2 c, .int .i64 9], .int .i64 0]) := by rw [hc]; exact he
  subst he2
  clear he hc HNEW
  go_upto_region 2 with fail
  obtain ⟨W, hW⟩ : ∃ W, W = V.alloc (.cells #[.slice A 2 c, .int .i64 9] 24) := ⟨_, rfl⟩
  obtain ⟨B1, hB1⟩ : ∃ B, B = V.heap.size := ⟨_, rfl⟩
  have hbW : Below V.heap.size V W := by rw [hW]; exact (Below.refl _ V).alloc (Nat.le_refl _) _
  have HB1 : Hid (Lies W B1 24 #[.slice A 2 c, .int .i64 9]) := Lib.hid (by rw [hW, hB1]; exact Lies.new _ _ _)
  have HN : Hid (NdsIn W (fun g => g < V.heap.size) newNs A) := Lib.hid (hN.keep (fun q j _ hlt => ⟨hbW.cell (p := ⟨q, j, none⟩) hlt, hlt⟩))
  have HBL : Hid (w.heap.size ≤ B1 ∧ B1 = V.heap.size ∧ B1 < W.heap.size) := Lib.hid ⟨by rw [hB1]; exact hb.size, hB1, HB1.out.lt⟩
  have HB := Lib.hid (hb.trans (hbW.mono hb.size))
  rw [← hW, ← hB1]
  clear hW hB1 hbW hN hb
  have HMK : Hid (Calls Try.prog 23 #[.agg #[.slice A 2 c, .int .i64 9], .agg #[.int .i64 2, .int .i64 0, .int .i64 0, .string ⟨#[]⟩, .slice none 0 0, .slice none 0 0]] W fun e w' => ∃ A9 c9, e = .returned (.tuple #[.agg #[.slice A9 3 c9, .int .i64 9], .int .i64 2, .int .i64 0]) ∧ NdsIn w' (fun g => g ≠ B1) f0N A9 ∧ Below W.heap.size W w') := Lib.hid (by
    have h3 := HBL.out
    refine (rmake_any newNs A 2 c 9 2 W rfl (by decide) (fun g => g < V.heap.size) (fun g h => by have h' : g < V.heap.size := h; omega) HN.out (fun j hj => by rcases (by omega : j = 0 ∨ j = 1) with rfl | rfl <;> decide) (by decide) (by decide) (by kernel_rfl) (by decide)).mono ?_
    rintro e w' ⟨A9, m9, c9, rfl, rfl, hn, hb⟩
    exact ⟨A9, c9, rfl, hn.keep (keep_wide fun g hg _ => by rcases hg with hg | hg <;> omega), hb⟩)
  obtain ⟨n0, n1⟩ := two_cells HB1.out
  clear HN
  go_wp2_with fail
  refine HMK.out.mono ?_
  rintro e V ⟨A1, c1, rfl, hN, hb⟩
  clear HMK n0 n1
  replace HB1 := Lib.hid (HB1.out.below hb HB1.out.lt)
  have HN1 := Lib.hid hN
  replace HB := Lib.hid (HB.out.trans (hb.mono HB.out.size))
  obtain ⟨n0, n1⟩ := two_cells HB1.out
  have f0 := HB1.out.frozen 0
  have f1 := HB1.out.frozen 1
  clear hb hN
  go_upto_region 3 with fail
  obtain ⟨W2, hW2⟩ : ∃ W, W = (V.setCell ⟨B1, 0, none⟩ (.slice A1 3 c1)).setCell ⟨B1, 1, none⟩ (.int .i64 9) := ⟨_, rfl⟩
  have hBl := HBL.out.1
  replace HN1 : Hid (NdsIn W2 AnyB f0N A1) := Lib.hid (by rw [hW2]; exact ((HN1.out.keep (keep_set _ _ (by simp))).keep (keep_set _ _ (by simp))).any)
  replace HB : Hid (Below w.heap.size w W2) := Lib.hid (by rw [hW2]; exact (HB.out.setCell (p := ⟨B1, 0, none⟩) hBl _).setCell (p := ⟨B1, 1, none⟩) hBl _)
  replace HB1 : Hid (Lies W2 B1 24 #[.slice A1 3 c1, .int .i64 9]) := Lib.hid (by rw [hW2]; exact lies_put2 HB1.out _ _)
  rw [← hW2]
  clear hW2 n0 n1 f0 f1 hBl
  clear HBL
  have HOP : Hid (∀ V, Below W2.heap.size W2 V → Calls Try.prog 10 #[.agg #[.slice A1 3 c1, .int .i64 9], .agg #[.int .i64 0, .int .i64 0]] V (fun e w' => e = .returned (.tuple #[.agg #[.int .i64 1, .int .i64 0], .int .i64 0]) ∧ Below V.heap.size V w')) := Lib.hid fun V hV => by
    have h := wPeer_any f0N A1 3 c1 9 (0, 0) V (by kernel_rfl) (HN1.out.below hV (Nat.le_refl _))
    rw [show peerNV f0N (0, 0) = ((1, 0), 0) by kernel_rfl] at h
    exact h
  have b0 := HB1.out.cell 0
  have b1 := HB1.out.cell 1
  simp at b0 b1
  have hBlt := HB1.out.lt
  go_cut [3, 4] (fun y z wx => ∃ B : Nat, y = .pointer (some ⟨B, 0, none⟩) ∧ z = .int .i64 0 ∧ Lies wx B 26 #[.int .i64 1, .int .i64 0] ∧ Below W2.heap.size W2 wx)
  case first => as_aux_lemma =>
    refine wp_region_held_drew (S := fun V => Below W2.heap.size W2 V) rfl (Below.refl _ _).drew (fun hS0 => ?_)
    change wpAnyH _ _ _ _ _ 9 (Array.replicate 9 false) _ _
    refine wpAnyH_take (i := 0) (oi := ⟨some 35, _, _, _, _, _⟩) (v := .agg #[.slice A1 3 c1, .int .i64 9]) rfl (by kernel_rfl) (by kernel_rfl) (by kernel_rfl) (fun _ _ _ h => h) (.inl ⟨by kernel_rfl, fun X hX => by have n0 := (hX.cell (p := ⟨B1, 0, none⟩) hBlt).trans b0; have n1 := (hX.cell (p := ⟨B1, 1, none⟩) hBlt).trans b1; go_simp⟩) hS0 ?_
    try simp only [Act.put, List.setIfInBounds_toArray, List.set_cons_zero, List.set_cons_succ]
    refine wpAnyH_ready (rs := [1, 6]) (by kernel_rfl) (by simp) (AllReadyH.cons rfl (fun K hK => ?_) (AllReadyH.cons rfl (fun K hK => ?_) AllReadyH.nil))
    · go_simp
      refine (at_any 0 0 _).mono ?_
      rintro e u_1 ⟨rfl, hq_1⟩
      have hB_1 : Below W2.heap.size W2 u_1 := hS0.trans (hq_1.mono hS0.size)
      refine hK.out _ _ (hB_1) (fun hS1 => ?_)
      clear hK K
      try simp only [Act.put, List.setIfInBounds_toArray, List.set_cons_zero, List.set_cons_succ]
      refine wpAnyH_ready (rs := [2, 6]) (by kernel_rfl) (by simp) (AllReadyH.cons rfl (fun K hK => ?_) (AllReadyH.cons rfl (fun K hK => ?_) AllReadyH.nil))
      · go_simp
        refine (HOP.out _ hS1).mono ?_
        rintro e u_2 ⟨rfl, hq_2⟩
        have hB_2 : Below W2.heap.size W2 u_2 := hS1.trans (hq_2.mono hS1.size)
        refine hK.out _ _ (hB_2) (fun hS2 => ?_)
        clear hK K
        try simp only [Act.put, List.setIfInBounds_toArray, List.set_cons_zero, List.set_cons_succ]
        refine wpAnyH_take (i := 3) (oi := ⟨some 34, _, _, _, _, _⟩) (v := .tuple #[.agg #[.int .i64 1, .int .i64 0], .int .i64 0]) rfl (by kernel_rfl) (by kernel_rfl) (by kernel_rfl) (fun _ _ _ h => h) (.inl ⟨by kernel_rfl, fun X hX => by first | kernel_rfl | go_simp⟩) hS2 ?_
        try simp only [Act.put, List.setIfInBounds_toArray, List.set_cons_zero, List.set_cons_succ]
        refine wpAnyH_take (i := 4) (oi := ⟨some 38, _, _, _, _, _⟩) (v := .agg #[.int .i64 1, .int .i64 0]) rfl (by kernel_rfl) (by kernel_rfl) (by kernel_rfl) (fun _ _ _ h => h) (.inl ⟨by kernel_rfl, fun X hX => by first | kernel_rfl | go_simp⟩) hS2 ?_
        try simp only [Act.put, List.setIfInBounds_toArray, List.set_cons_zero, List.set_cons_succ]
        refine wpAnyH_take (i := 5) (oi := ⟨some 39, _, _, _, _, _⟩) (v := .int .i64 0) rfl (by kernel_rfl) (by kernel_rfl) (by kernel_rfl) (fun _ _ _ h => h) (.inl ⟨by kernel_rfl, fun X hX => by first | kernel_rfl | go_simp⟩) hS2 ?_
        try simp only [Act.put, List.setIfInBounds_toArray, List.set_cons_zero, List.set_cons_succ]
        refine wpAnyH_ready (rs := [6]) (by kernel_rfl) (by simp) (AllReadyH.cons rfl (fun K hK => ?_) AllReadyH.nil)
        go_simp
        have lb_3 : Lies ((u_2).alloc (.cells #[.int .i64 0, .int .i64 0] 26)) u_2.heap.size 26 #[.int .i64 0, .int .i64 0] := Lies.new (u_2) _ _
        have hle_3 : W2.heap.size ≤ u_2.heap.size := hS2.size
        have hS_3 : Below W2.heap.size W2 (u_2) := hS2
        refine hK.out _ _ (hS2.alloc hS2.size _) (fun hS3 => ?_)
        clear hK K
        try simp only [Act.put, List.setIfInBounds_toArray, List.set_cons_zero, List.set_cons_succ]
        refine wpAnyH_ready (rs := [7]) (by kernel_rfl) (by simp) (AllReadyH.cons rfl (fun K hK => ?_) AllReadyH.nil)
        obtain ⟨b0_4, b1_4⟩ := two_cells lb_3
        have fb0_4 := lb_3.frozen 0
        have fb1_4 := lb_3.frozen 1
        have lp_4 : Lies ((u_2).alloc (.cells #[.int .i64 1, .int .i64 0] 26)) u_2.heap.size 26 #[.int .i64 1, .int .i64 0] := Lies.new (u_2) _ _
        go_simp
        refine hK.out _ _ (hS_3.alloc hS_3.size _) (fun hS4 => ?_)
        clear hK K
        try simp only [Act.put, List.setIfInBounds_toArray, List.set_cons_zero, List.set_cons_succ]
        refine wpAnyH_ready (rs := [8]) (by kernel_rfl) (by simp) (AllReadyH.cons rfl (fun K hK => ?_) AllReadyH.nil)
        go_simp
        refine hK.out _ _ (hS4) (fun hS5 => ?_)
        clear hK K
        try simp only [Act.put, List.setIfInBounds_toArray, List.set_cons_zero, List.set_cons_succ]
        refine wpAnyH_done (by kernel_rfl) ?_ _
        go_wp2_with fail
        go_meet
        exact ⟨_, rfl, rfl, lp_4, hS5⟩
      · go_simp
        have lb_6 : Lies ((u_1).alloc (.cells #[.int .i64 0, .int .i64 0] 26)) u_1.heap.size 26 #[.int .i64 0, .int .i64 0] := Lies.new (u_1) _ _
        have hle_6 : W2.heap.size ≤ u_1.heap.size := hS1.size
        have hS_6 : Below W2.heap.size W2 (u_1) := hS1
        refine hK.out _ _ (hS1.alloc hS1.size _) (fun hS6 => ?_)
        clear hK K
        try simp only [Act.put, List.setIfInBounds_toArray, List.set_cons_zero, List.set_cons_succ]
        refine wpAnyH_ready (rs := [2]) (by kernel_rfl) (by simp) (AllReadyH.cons rfl (fun K hK => ?_) AllReadyH.nil)
        go_simp
        refine (HOP.out _ hS6).mono ?_
        rintro e u_7 ⟨rfl, hq_7⟩
        have hB_7 : Below W2.heap.size W2 u_7 := hS6.trans (hq_7.mono hS6.size)
        have lb_7 := lb_6.below hq_7 lb_6.lt
        refine hK.out _ _ (hB_7) (fun hS7 => ?_)
        clear hK K
        try simp only [Act.put, List.setIfInBounds_toArray, List.set_cons_zero, List.set_cons_succ]
        refine wpAnyH_take (i := 3) (oi := ⟨some 34, _, _, _, _, _⟩) (v := .tuple #[.agg #[.int .i64 1, .int .i64 0], .int .i64 0]) rfl (by kernel_rfl) (by kernel_rfl) (by kernel_rfl) (fun _ _ _ h => h) (.inl ⟨by kernel_rfl, fun X hX => by first | kernel_rfl | go_simp⟩) hS7 ?_
        try simp only [Act.put, List.setIfInBounds_toArray, List.set_cons_zero, List.set_cons_succ]
        refine wpAnyH_take (i := 4) (oi := ⟨some 38, _, _, _, _, _⟩) (v := .agg #[.int .i64 1, .int .i64 0]) rfl (by kernel_rfl) (by kernel_rfl) (by kernel_rfl) (fun _ _ _ h => h) (.inl ⟨by kernel_rfl, fun X hX => by first | kernel_rfl | go_simp⟩) hS7 ?_
        try simp only [Act.put, List.setIfInBounds_toArray, List.set_cons_zero, List.set_cons_succ]
        refine wpAnyH_take (i := 5) (oi := ⟨some 39, _, _, _, _, _⟩) (v := .int .i64 0) rfl (by kernel_rfl) (by kernel_rfl) (by kernel_rfl) (fun _ _ _ h => h) (.inl ⟨by kernel_rfl, fun X hX => by first | kernel_rfl | go_simp⟩) hS7 ?_
        try simp only [Act.put, List.setIfInBounds_toArray, List.set_cons_zero, List.set_cons_succ]
        refine wpAnyH_ready (rs := [7]) (by kernel_rfl) (by simp) (AllReadyH.cons rfl (fun K hK => ?_) AllReadyH.nil)
        obtain ⟨b0_8, b1_8⟩ := two_cells lb_7
        have fb0_8 := lb_7.frozen 0
        have fb1_8 := lb_7.frozen 1
        have lp_8 := lies_put2 lb_7 (.int .i64 1) (.int .i64 0)
        go_simp
        refine hK.out _ _ ((hS7.setCell (p := ⟨_, 0, none⟩) hle_6 _).setCell (p := ⟨_, 1, none⟩) hle_6 _) (fun hS8 => ?_)
        clear hK K
        try simp only [Act.put, List.setIfInBounds_toArray, List.set_cons_zero, List.set_cons_succ]
        refine wpAnyH_ready (rs := [8]) (by kernel_rfl) (by simp) (AllReadyH.cons rfl (fun K hK => ?_) AllReadyH.nil)
        go_simp
        refine hK.out _ _ (hS8) (fun hS9 => ?_)
        clear hK K
        try simp only [Act.put, List.setIfInBounds_toArray, List.set_cons_zero, List.set_cons_succ]
        refine wpAnyH_done (by kernel_rfl) ?_ _
        go_wp2_with fail
        go_meet
        exact ⟨_, rfl, rfl, lp_8, hS9⟩
    · go_simp
      have lb_10 : Lies ((W2.drew).alloc (.cells #[.int .i64 0, .int .i64 0] 26)) W2.heap.size 26 #[.int .i64 0, .int .i64 0] := Lies.new (W2.drew) _ _
      have hle_10 : W2.heap.size ≤ W2.heap.size := hS0.size
      have hS_10 : Below W2.heap.size W2 (W2.drew) := hS0
      refine hK.out _ _ (hS0.alloc hS0.size _) (fun hS10 => ?_)
      clear hK K
      try simp only [Act.put, List.setIfInBounds_toArray, List.set_cons_zero, List.set_cons_succ]
      refine wpAnyH_ready (rs := [1]) (by kernel_rfl) (by simp) (AllReadyH.cons rfl (fun K hK => ?_) AllReadyH.nil)
      go_simp
      refine (at_any 0 0 _).mono ?_
      rintro e u_11 ⟨rfl, hq_11⟩
      have hB_11 : Below W2.heap.size W2 u_11 := hS10.trans (hq_11.mono hS10.size)
      have lb_11 := lb_10.below hq_11 lb_10.lt
      refine hK.out _ _ (hB_11) (fun hS11 => ?_)
      clear hK K
      try simp only [Act.put, List.setIfInBounds_toArray, List.set_cons_zero, List.set_cons_succ]
      refine wpAnyH_ready (rs := [2]) (by kernel_rfl) (by simp) (AllReadyH.cons rfl (fun K hK => ?_) AllReadyH.nil)
      go_simp
      refine (HOP.out _ hS11).mono ?_
      rintro e u_12 ⟨rfl, hq_12⟩
      have hB_12 : Below W2.heap.size W2 u_12 := hS11.trans (hq_12.mono hS11.size)
      have lb_12 := lb_11.below hq_12 lb_11.lt
      refine hK.out _ _ (hB_12) (fun hS12 => ?_)
      clear hK K
      try simp only [Act.put, List.setIfInBounds_toArray, List.set_cons_zero, List.set_cons_succ]
      refine wpAnyH_take (i := 3) (oi := ⟨some 34, _, _, _, _, _⟩) (v := .tuple #[.agg #[.int .i64 1, .int .i64 0], .int .i64 0]) rfl (by kernel_rfl) (by kernel_rfl) (by kernel_rfl) (fun _ _ _ h => h) (.inl ⟨by kernel_rfl, fun X hX => by first | kernel_rfl | go_simp⟩) hS12 ?_
      try simp only [Act.put, List.setIfInBounds_toArray, List.set_cons_zero, List.set_cons_succ]
      refine wpAnyH_take (i := 4) (oi := ⟨some 38, _, _, _, _, _⟩) (v := .agg #[.int .i64 1, .int .i64 0]) rfl (by kernel_rfl) (by kernel_rfl) (by kernel_rfl) (fun _ _ _ h => h) (.inl ⟨by kernel_rfl, fun X hX => by first | kernel_rfl | go_simp⟩) hS12 ?_
      try simp only [Act.put, List.setIfInBounds_toArray, List.set_cons_zero, List.set_cons_succ]
      refine wpAnyH_take (i := 5) (oi := ⟨some 39, _, _, _, _, _⟩) (v := .int .i64 0) rfl (by kernel_rfl) (by kernel_rfl) (by kernel_rfl) (fun _ _ _ h => h) (.inl ⟨by kernel_rfl, fun X hX => by first | kernel_rfl | go_simp⟩) hS12 ?_
      try simp only [Act.put, List.setIfInBounds_toArray, List.set_cons_zero, List.set_cons_succ]
      refine wpAnyH_ready (rs := [7]) (by kernel_rfl) (by simp) (AllReadyH.cons rfl (fun K hK => ?_) AllReadyH.nil)
      obtain ⟨b0_13, b1_13⟩ := two_cells lb_12
      have fb0_13 := lb_12.frozen 0
      have fb1_13 := lb_12.frozen 1
      have lp_13 := lies_put2 lb_12 (.int .i64 1) (.int .i64 0)
      go_simp
      refine hK.out _ _ ((hS12.setCell (p := ⟨_, 0, none⟩) hle_10 _).setCell (p := ⟨_, 1, none⟩) hle_10 _) (fun hS13 => ?_)
      clear hK K
      try simp only [Act.put, List.setIfInBounds_toArray, List.set_cons_zero, List.set_cons_succ]
      refine wpAnyH_ready (rs := [8]) (by kernel_rfl) (by simp) (AllReadyH.cons rfl (fun K hK => ?_) AllReadyH.nil)
      go_simp
      refine hK.out _ _ (hS13) (fun hS14 => ?_)
      clear hK K
      try simp only [Act.put, List.setIfInBounds_toArray, List.set_cons_zero, List.set_cons_succ]
      refine wpAnyH_done (by kernel_rfl) ?_ _
      go_wp2_with fail
      go_meet
      exact ⟨_, rfl, rfl, lp_13, hS14⟩
  case rest =>
    obtain ⟨B3, rfl, rfl, hl, hb⟩ := hcut
    rename World => V3
    replace HB1 := Lib.hid (HB1.out.below hb HB1.out.lt)
    replace HN1 := Lib.hid (HN1.out.below hb (Nat.le_refl _))
    replace HB := Lib.hid (HB.out.trans (hb.mono HB.out.size))
    have HB3 := Lib.hid hl
    clear hl hb b0 b1 hBlt HOP
    go_upto_region 4 with fail
    have HOP : Hid (∀ V, Below V3.heap.size V3 V → Calls Try.prog 12 #[.agg #[.slice A1 3 c1, .int .i64 9], .agg #[.int .i64 2, .int .i64 1], .agg #[.int .i64 2, .int .i64 2]] V (fun e w' => ∃ A c, e = .returned (.tuple #[.agg #[.slice A 3 c, .int .i64 9], .int .i64 0]) ∧ NdsIn w' (fun g => V.heap.size ≤ g) f1N A ∧ Below V.heap.size V w')) := Lib.hid fun V hV => by
      have hr : linkNV f0N (2, 1) (2, 2) = (f1N, 0) := by kernel_rfl
      have h := wlink_any f0N A1 3 c1 9 (2, 1) (2, 2) V (by kernel_rfl) (by decide) (few_lit _ (by kernel_rfl)) (HN1.out.below hV (Nat.le_refl _))
      rw [hr] at h
      exact h.mono fun _ _ h => givesLit h (by kernel_rfl) rfl
    have b0 := HB1.out.cell 0
    have b1 := HB1.out.cell 1
    simp at b0 b1
    have hBlt := HB1.out.lt
    go_cut [5, 6] (fun y z wx => ∃ (B : Nat) (A : Option Addr) (c : Nat), y = .pointer (some ⟨B, 0, none⟩) ∧ z = .int .i64 0 ∧ Lies wx B 24 #[.slice A 3 c, .int .i64 9] ∧ NdsIn wx AnyB f1N A ∧ Below V3.heap.size V3 wx)
    case first => as_aux_lemma =>
      refine wp_region_held_drew (S := fun V => Below V3.heap.size V3 V) rfl (Below.refl _ _).drew (fun hS0 => ?_)
      change wpAnyH _ _ _ _ _ 10 (Array.replicate 10 false) _ _
      refine wpAnyH_take (i := 0) (oi := ⟨some 41, _, _, _, _, _⟩) (v := .agg #[.slice A1 3 c1, .int .i64 9]) rfl (by kernel_rfl) (by kernel_rfl) (by kernel_rfl) (fun _ _ _ h => h) (.inl ⟨by kernel_rfl, fun X hX => by have n0 := (hX.cell (p := ⟨B1, 0, none⟩) hBlt).trans b0; have n1 := (hX.cell (p := ⟨B1, 1, none⟩) hBlt).trans b1; go_simp⟩) hS0 ?_
      try simp only [Act.put, List.setIfInBounds_toArray, List.set_cons_zero, List.set_cons_succ]
      refine wpAnyH_ready (rs := [1, 7]) (by kernel_rfl) (by simp) (AllReadyH.cons rfl (fun K hK => ?_) (AllReadyH.cons rfl (fun K hK => ?_) AllReadyH.nil))
      · go_simp
        refine (at_any 2 1 _).mono ?_
        rintro e u_1 ⟨rfl, hq_1⟩
        have hB_1 : Below V3.heap.size V3 u_1 := hS0.trans (hq_1.mono hS0.size)
        refine hK.out _ _ (hB_1) (fun hS1 => ?_)
        clear hK K
        try simp only [Act.put, List.setIfInBounds_toArray, List.set_cons_zero, List.set_cons_succ]
        refine wpAnyH_ready (rs := [2, 7]) (by kernel_rfl) (by simp) (AllReadyH.cons rfl (fun K hK => ?_) (AllReadyH.cons rfl (fun K hK => ?_) AllReadyH.nil))
        · go_simp
          refine (at_any 2 2 _).mono ?_
          rintro e u_2 ⟨rfl, hq_2⟩
          have hB_2 : Below V3.heap.size V3 u_2 := hS1.trans (hq_2.mono hS1.size)
          refine hK.out _ _ (hB_2) (fun hS2 => ?_)
          clear hK K
          try simp only [Act.put, List.setIfInBounds_toArray, List.set_cons_zero, List.set_cons_succ]
          refine wpAnyH_ready (rs := [3, 7]) (by kernel_rfl) (by simp) (AllReadyH.cons rfl (fun K hK => ?_) (AllReadyH.cons rfl (fun K hK => ?_) AllReadyH.nil))
          · go_simp
            refine (HOP.out _ hS2).mono ?_
            rintro e u_3 ⟨A_3, c_3, rfl, hN_3, hq_3⟩
            have hB_3 : Below V3.heap.size V3 u_3 := hS2.trans (hq_3.mono hS2.size)
            refine hK.out _ _ (hB_3) (fun hS3 => ?_)
            clear hK K
            try simp only [Act.put, List.setIfInBounds_toArray, List.set_cons_zero, List.set_cons_succ]
            refine wpAnyH_take (i := 4) (oi := ⟨some 40, _, _, _, _, _⟩) (v := .tuple #[.agg #[.slice A_3 3 c_3, .int .i64 9], .int .i64 0]) rfl (by kernel_rfl) (by kernel_rfl) (by kernel_rfl) (fun _ _ _ h => h) (.inl ⟨by kernel_rfl, fun X hX => by first | kernel_rfl | go_simp⟩) hS3 ?_
            try simp only [Act.put, List.setIfInBounds_toArray, List.set_cons_zero, List.set_cons_succ]
            refine wpAnyH_take (i := 5) (oi := ⟨some 45, _, _, _, _, _⟩) (v := .agg #[.slice A_3 3 c_3, .int .i64 9]) rfl (by kernel_rfl) (by kernel_rfl) (by kernel_rfl) (fun _ _ _ h => h) (.inl ⟨by kernel_rfl, fun X hX => by first | kernel_rfl | go_simp⟩) hS3 ?_
            try simp only [Act.put, List.setIfInBounds_toArray, List.set_cons_zero, List.set_cons_succ]
            refine wpAnyH_take (i := 6) (oi := ⟨some 46, _, _, _, _, _⟩) (v := .int .i64 0) rfl (by kernel_rfl) (by kernel_rfl) (by kernel_rfl) (fun _ _ _ h => h) (.inl ⟨by kernel_rfl, fun X hX => by first | kernel_rfl | go_simp⟩) hS3 ?_
            try simp only [Act.put, List.setIfInBounds_toArray, List.set_cons_zero, List.set_cons_succ]
            refine wpAnyH_ready (rs := [7]) (by kernel_rfl) (by simp) (AllReadyH.cons rfl (fun K hK => ?_) AllReadyH.nil)
            go_simp
            have lb_4 : Lies ((u_3).alloc (.cells #[.slice none 0 0, .int .i64 0] 24)) u_3.heap.size 24 #[.slice none 0 0, .int .i64 0] := Lies.new (u_3) _ _
            have hle_4 : V3.heap.size ≤ u_3.heap.size := hS3.size
            have hS_4 : Below V3.heap.size V3 (u_3) := hS3
            refine hK.out _ _ (hS3.alloc hS3.size _) (fun hS4 => ?_)
            clear hK K
            try simp only [Act.put, List.setIfInBounds_toArray, List.set_cons_zero, List.set_cons_succ]
            refine wpAnyH_ready (rs := [8]) (by kernel_rfl) (by simp) (AllReadyH.cons rfl (fun K hK => ?_) AllReadyH.nil)
            obtain ⟨b0_5, b1_5⟩ := two_cells lb_4
            have fb0_5 := lb_4.frozen 0
            have fb1_5 := lb_4.frozen 1
            have lp_5 : Lies ((u_3).alloc (.cells #[.slice A_3 3 c_3, .int .i64 9] 24)) u_3.heap.size 24 #[.slice A_3 3 c_3, .int .i64 9] := Lies.new (u_3) _ _
            go_simp
            refine hK.out _ _ (hS_4.alloc hS_4.size _) (fun hS5 => ?_)
            clear hK K
            try simp only [Act.put, List.setIfInBounds_toArray, List.set_cons_zero, List.set_cons_succ]
            refine wpAnyH_ready (rs := [9]) (by kernel_rfl) (by simp) (AllReadyH.cons rfl (fun K hK => ?_) AllReadyH.nil)
            go_simp
            refine hK.out _ _ (hS5) (fun hS6 => ?_)
            clear hK K
            try simp only [Act.put, List.setIfInBounds_toArray, List.set_cons_zero, List.set_cons_succ]
            refine wpAnyH_done (by kernel_rfl) ?_ _
            go_wp2_with fail
            go_meet
            exact ⟨_, A_3, c_3, rfl, rfl, lp_5, hN_3.any.below ((Below.refl _ _).alloc (Nat.le_refl _) _) (Nat.le_refl _), hS6⟩
          · go_simp
            have lb_7 : Lies ((u_2).alloc (.cells #[.slice none 0 0, .int .i64 0] 24)) u_2.heap.size 24 #[.slice none 0 0, .int .i64 0] := Lies.new (u_2) _ _
            have hle_7 : V3.heap.size ≤ u_2.heap.size := hS2.size
            have hS_7 : Below V3.heap.size V3 (u_2) := hS2
            refine hK.out _ _ (hS2.alloc hS2.size _) (fun hS7 => ?_)
            clear hK K
            try simp only [Act.put, List.setIfInBounds_toArray, List.set_cons_zero, List.set_cons_succ]
            refine wpAnyH_ready (rs := [3]) (by kernel_rfl) (by simp) (AllReadyH.cons rfl (fun K hK => ?_) AllReadyH.nil)
            go_simp
            refine (HOP.out _ hS7).mono ?_
            rintro e u_8 ⟨A_8, c_8, rfl, hN_8, hq_8⟩
            have hB_8 : Below V3.heap.size V3 u_8 := hS7.trans (hq_8.mono hS7.size)
            have lb_8 := lb_7.below hq_8 lb_7.lt
            refine hK.out _ _ (hB_8) (fun hS8 => ?_)
            clear hK K
            try simp only [Act.put, List.setIfInBounds_toArray, List.set_cons_zero, List.set_cons_succ]
            refine wpAnyH_take (i := 4) (oi := ⟨some 40, _, _, _, _, _⟩) (v := .tuple #[.agg #[.slice A_8 3 c_8, .int .i64 9], .int .i64 0]) rfl (by kernel_rfl) (by kernel_rfl) (by kernel_rfl) (fun _ _ _ h => h) (.inl ⟨by kernel_rfl, fun X hX => by first | kernel_rfl | go_simp⟩) hS8 ?_
            try simp only [Act.put, List.setIfInBounds_toArray, List.set_cons_zero, List.set_cons_succ]
            refine wpAnyH_take (i := 5) (oi := ⟨some 45, _, _, _, _, _⟩) (v := .agg #[.slice A_8 3 c_8, .int .i64 9]) rfl (by kernel_rfl) (by kernel_rfl) (by kernel_rfl) (fun _ _ _ h => h) (.inl ⟨by kernel_rfl, fun X hX => by first | kernel_rfl | go_simp⟩) hS8 ?_
            try simp only [Act.put, List.setIfInBounds_toArray, List.set_cons_zero, List.set_cons_succ]
            refine wpAnyH_take (i := 6) (oi := ⟨some 46, _, _, _, _, _⟩) (v := .int .i64 0) rfl (by kernel_rfl) (by kernel_rfl) (by kernel_rfl) (fun _ _ _ h => h) (.inl ⟨by kernel_rfl, fun X hX => by first | kernel_rfl | go_simp⟩) hS8 ?_
            try simp only [Act.put, List.setIfInBounds_toArray, List.set_cons_zero, List.set_cons_succ]
            refine wpAnyH_ready (rs := [8]) (by kernel_rfl) (by simp) (AllReadyH.cons rfl (fun K hK => ?_) AllReadyH.nil)
            obtain ⟨b0_9, b1_9⟩ := two_cells lb_8
            have fb0_9 := lb_8.frozen 0
            have fb1_9 := lb_8.frozen 1
            have lp_9 := lies_put2 lb_8 (.slice A_8 3 c_8) (.int .i64 9)
            go_simp
            refine hK.out _ _ ((hS8.setCell (p := ⟨_, 0, none⟩) hle_7 _).setCell (p := ⟨_, 1, none⟩) hle_7 _) (fun hS9 => ?_)
            clear hK K
            try simp only [Act.put, List.setIfInBounds_toArray, List.set_cons_zero, List.set_cons_succ]
            refine wpAnyH_ready (rs := [9]) (by kernel_rfl) (by simp) (AllReadyH.cons rfl (fun K hK => ?_) AllReadyH.nil)
            go_simp
            refine hK.out _ _ (hS9) (fun hS10 => ?_)
            clear hK K
            try simp only [Act.put, List.setIfInBounds_toArray, List.set_cons_zero, List.set_cons_succ]
            refine wpAnyH_done (by kernel_rfl) ?_ _
            go_wp2_with fail
            go_meet
            exact ⟨_, A_8, c_8, rfl, rfl, lp_9, ((hN_8.keep (keep_set ⟨_, 0, none⟩ _ (Nat.not_le_of_lt lb_7.lt))).keep (keep_set ⟨_, 1, none⟩ _ (Nat.not_le_of_lt lb_7.lt))).any, hS10⟩
        · go_simp
          have lb_11 : Lies ((u_1).alloc (.cells #[.slice none 0 0, .int .i64 0] 24)) u_1.heap.size 24 #[.slice none 0 0, .int .i64 0] := Lies.new (u_1) _ _
          have hle_11 : V3.heap.size ≤ u_1.heap.size := hS1.size
          have hS_11 : Below V3.heap.size V3 (u_1) := hS1
          refine hK.out _ _ (hS1.alloc hS1.size _) (fun hS11 => ?_)
          clear hK K
          try simp only [Act.put, List.setIfInBounds_toArray, List.set_cons_zero, List.set_cons_succ]
          refine wpAnyH_ready (rs := [2]) (by kernel_rfl) (by simp) (AllReadyH.cons rfl (fun K hK => ?_) AllReadyH.nil)
          go_simp
          refine (at_any 2 2 _).mono ?_
          rintro e u_12 ⟨rfl, hq_12⟩
          have hB_12 : Below V3.heap.size V3 u_12 := hS11.trans (hq_12.mono hS11.size)
          have lb_12 := lb_11.below hq_12 lb_11.lt
          refine hK.out _ _ (hB_12) (fun hS12 => ?_)
          clear hK K
          try simp only [Act.put, List.setIfInBounds_toArray, List.set_cons_zero, List.set_cons_succ]
          refine wpAnyH_ready (rs := [3]) (by kernel_rfl) (by simp) (AllReadyH.cons rfl (fun K hK => ?_) AllReadyH.nil)
          go_simp
          refine (HOP.out _ hS12).mono ?_
          rintro e u_13 ⟨A_13, c_13, rfl, hN_13, hq_13⟩
          have hB_13 : Below V3.heap.size V3 u_13 := hS12.trans (hq_13.mono hS12.size)
          have lb_13 := lb_12.below hq_13 lb_12.lt
          refine hK.out _ _ (hB_13) (fun hS13 => ?_)
          clear hK K
          try simp only [Act.put, List.setIfInBounds_toArray, List.set_cons_zero, List.set_cons_succ]
          refine wpAnyH_take (i := 4) (oi := ⟨some 40, _, _, _, _, _⟩) (v := .tuple #[.agg #[.slice A_13 3 c_13, .int .i64 9], .int .i64 0]) rfl (by kernel_rfl) (by kernel_rfl) (by kernel_rfl) (fun _ _ _ h => h) (.inl ⟨by kernel_rfl, fun X hX => by first | kernel_rfl | go_simp⟩) hS13 ?_
          try simp only [Act.put, List.setIfInBounds_toArray, List.set_cons_zero, List.set_cons_succ]
          refine wpAnyH_take (i := 5) (oi := ⟨some 45, _, _, _, _, _⟩) (v := .agg #[.slice A_13 3 c_13, .int .i64 9]) rfl (by kernel_rfl) (by kernel_rfl) (by kernel_rfl) (fun _ _ _ h => h) (.inl ⟨by kernel_rfl, fun X hX => by first | kernel_rfl | go_simp⟩) hS13 ?_
          try simp only [Act.put, List.setIfInBounds_toArray, List.set_cons_zero, List.set_cons_succ]
          refine wpAnyH_take (i := 6) (oi := ⟨some 46, _, _, _, _, _⟩) (v := .int .i64 0) rfl (by kernel_rfl) (by kernel_rfl) (by kernel_rfl) (fun _ _ _ h => h) (.inl ⟨by kernel_rfl, fun X hX => by first | kernel_rfl | go_simp⟩) hS13 ?_
          try simp only [Act.put, List.setIfInBounds_toArray, List.set_cons_zero, List.set_cons_succ]
          refine wpAnyH_ready (rs := [8]) (by kernel_rfl) (by simp) (AllReadyH.cons rfl (fun K hK => ?_) AllReadyH.nil)
          obtain ⟨b0_14, b1_14⟩ := two_cells lb_13
          have fb0_14 := lb_13.frozen 0
          have fb1_14 := lb_13.frozen 1
          have lp_14 := lies_put2 lb_13 (.slice A_13 3 c_13) (.int .i64 9)
          go_simp
          refine hK.out _ _ ((hS13.setCell (p := ⟨_, 0, none⟩) hle_11 _).setCell (p := ⟨_, 1, none⟩) hle_11 _) (fun hS14 => ?_)
          clear hK K
          try simp only [Act.put, List.setIfInBounds_toArray, List.set_cons_zero, List.set_cons_succ]
          refine wpAnyH_ready (rs := [9]) (by kernel_rfl) (by simp) (AllReadyH.cons rfl (fun K hK => ?_) AllReadyH.nil)
          go_simp
          refine hK.out _ _ (hS14) (fun hS15 => ?_)
          clear hK K
          try simp only [Act.put, List.setIfInBounds_toArray, List.set_cons_zero, List.set_cons_succ]
          refine wpAnyH_done (by kernel_rfl) ?_ _
          go_wp2_with fail
          go_meet
          exact ⟨_, A_13, c_13, rfl, rfl, lp_14, ((hN_13.keep (keep_set ⟨_, 0, none⟩ _ (Nat.not_le_of_lt lb_12.lt))).keep (keep_set ⟨_, 1, none⟩ _ (Nat.not_le_of_lt lb_12.lt))).any, hS15⟩
      · go_simp
        have lb_16 : Lies ((V3.drew).alloc (.cells #[.slice none 0 0, .int .i64 0] 24)) V3.heap.size 24 #[.slice none 0 0, .int .i64 0] := Lies.new (V3.drew) _ _
        have hle_16 : V3.heap.size ≤ V3.heap.size := hS0.size
        have hS_16 : Below V3.heap.size V3 (V3.drew) := hS0
        refine hK.out _ _ (hS0.alloc hS0.size _) (fun hS16 => ?_)
        clear hK K
        try simp only [Act.put, List.setIfInBounds_toArray, List.set_cons_zero, List.set_cons_succ]
        refine wpAnyH_ready (rs := [1]) (by kernel_rfl) (by simp) (AllReadyH.cons rfl (fun K hK => ?_) AllReadyH.nil)
        go_simp
        refine (at_any 2 1 _).mono ?_
        rintro e u_17 ⟨rfl, hq_17⟩
        have hB_17 : Below V3.heap.size V3 u_17 := hS16.trans (hq_17.mono hS16.size)
        have lb_17 := lb_16.below hq_17 lb_16.lt
        refine hK.out _ _ (hB_17) (fun hS17 => ?_)
        clear hK K
        try simp only [Act.put, List.setIfInBounds_toArray, List.set_cons_zero, List.set_cons_succ]
        refine wpAnyH_ready (rs := [2]) (by kernel_rfl) (by simp) (AllReadyH.cons rfl (fun K hK => ?_) AllReadyH.nil)
        go_simp
        refine (at_any 2 2 _).mono ?_
        rintro e u_18 ⟨rfl, hq_18⟩
        have hB_18 : Below V3.heap.size V3 u_18 := hS17.trans (hq_18.mono hS17.size)
        have lb_18 := lb_17.below hq_18 lb_17.lt
        refine hK.out _ _ (hB_18) (fun hS18 => ?_)
        clear hK K
        try simp only [Act.put, List.setIfInBounds_toArray, List.set_cons_zero, List.set_cons_succ]
        refine wpAnyH_ready (rs := [3]) (by kernel_rfl) (by simp) (AllReadyH.cons rfl (fun K hK => ?_) AllReadyH.nil)
        go_simp
        refine (HOP.out _ hS18).mono ?_
        rintro e u_19 ⟨A_19, c_19, rfl, hN_19, hq_19⟩
        have hB_19 : Below V3.heap.size V3 u_19 := hS18.trans (hq_19.mono hS18.size)
        have lb_19 := lb_18.below hq_19 lb_18.lt
        refine hK.out _ _ (hB_19) (fun hS19 => ?_)
        clear hK K
        try simp only [Act.put, List.setIfInBounds_toArray, List.set_cons_zero, List.set_cons_succ]
        refine wpAnyH_take (i := 4) (oi := ⟨some 40, _, _, _, _, _⟩) (v := .tuple #[.agg #[.slice A_19 3 c_19, .int .i64 9], .int .i64 0]) rfl (by kernel_rfl) (by kernel_rfl) (by kernel_rfl) (fun _ _ _ h => h) (.inl ⟨by kernel_rfl, fun X hX => by first | kernel_rfl | go_simp⟩) hS19 ?_
        try simp only [Act.put, List.setIfInBounds_toArray, List.set_cons_zero, List.set_cons_succ]
        refine wpAnyH_take (i := 5) (oi := ⟨some 45, _, _, _, _, _⟩) (v := .agg #[.slice A_19 3 c_19, .int .i64 9]) rfl (by kernel_rfl) (by kernel_rfl) (by kernel_rfl) (fun _ _ _ h => h) (.inl ⟨by kernel_rfl, fun X hX => by first | kernel_rfl | go_simp⟩) hS19 ?_
        try simp only [Act.put, List.setIfInBounds_toArray, List.set_cons_zero, List.set_cons_succ]
        refine wpAnyH_take (i := 6) (oi := ⟨some 46, _, _, _, _, _⟩) (v := .int .i64 0) rfl (by kernel_rfl) (by kernel_rfl) (by kernel_rfl) (fun _ _ _ h => h) (.inl ⟨by kernel_rfl, fun X hX => by first | kernel_rfl | go_simp⟩) hS19 ?_
        try simp only [Act.put, List.setIfInBounds_toArray, List.set_cons_zero, List.set_cons_succ]
        refine wpAnyH_ready (rs := [8]) (by kernel_rfl) (by simp) (AllReadyH.cons rfl (fun K hK => ?_) AllReadyH.nil)
        obtain ⟨b0_20, b1_20⟩ := two_cells lb_19
        have fb0_20 := lb_19.frozen 0
        have fb1_20 := lb_19.frozen 1
        have lp_20 := lies_put2 lb_19 (.slice A_19 3 c_19) (.int .i64 9)
        go_simp
        refine hK.out _ _ ((hS19.setCell (p := ⟨_, 0, none⟩) hle_16 _).setCell (p := ⟨_, 1, none⟩) hle_16 _) (fun hS20 => ?_)
        clear hK K
        try simp only [Act.put, List.setIfInBounds_toArray, List.set_cons_zero, List.set_cons_succ]
        refine wpAnyH_ready (rs := [9]) (by kernel_rfl) (by simp) (AllReadyH.cons rfl (fun K hK => ?_) AllReadyH.nil)
        go_simp
        refine hK.out _ _ (hS20) (fun hS21 => ?_)
        clear hK K
        try simp only [Act.put, List.setIfInBounds_toArray, List.set_cons_zero, List.set_cons_succ]
        refine wpAnyH_done (by kernel_rfl) ?_ _
        go_wp2_with fail
        go_meet
        exact ⟨_, A_19, c_19, rfl, rfl, lp_20, ((hN_19.keep (keep_set ⟨_, 0, none⟩ _ (Nat.not_le_of_lt lb_18.lt))).keep (keep_set ⟨_, 1, none⟩ _ (Nat.not_le_of_lt lb_18.lt))).any, hS21⟩
    case rest =>
      obtain ⟨B5, A5, c5, rfl, rfl, hl, hn, hb⟩ := hcut
      rename World => V5
      replace HB1 := Lib.hid (HB1.out.below hb HB1.out.lt)
      replace HN1 := Lib.hid (HN1.out.below hb (Nat.le_refl _))
      replace HB3 := Lib.hid (HB3.out.below hb HB3.out.lt)
      replace HB := Lib.hid (HB.out.trans (hb.mono HB.out.size))
      have HB5 := Lib.hid hl
      have HN5 := Lib.hid hn
      clear hl hb b0 b1 hBlt HOP hn
      go_upto_region 5 with fail
      have HOP : Hid (∀ V, Below V5.heap.size V5 V → Calls Try.prog 10 #[.agg #[.slice A5 3 c5, .int .i64 9], .agg #[.int .i64 2, .int .i64 2]] V (fun e w' => e = .returned (.tuple #[.agg #[.int .i64 2, .int .i64 1], .int .i64 0]) ∧ Below V.heap.size V w')) := Lib.hid fun V hV => by
        have h := wPeer_any f1N A5 3 c5 9 (2, 2) V (by kernel_rfl) (HN5.out.below hV (Nat.le_refl _))
        rw [show peerNV f1N (2, 2) = ((2, 1), 0) by kernel_rfl] at h
        exact h
      have b0 := HB5.out.cell 0
      have b1 := HB5.out.cell 1
      simp at b0 b1
      have hBlt := HB5.out.lt
      go_cut [7, 8] (fun y z wx => ∃ B : Nat, y = .pointer (some ⟨B, 0, none⟩) ∧ z = .int .i64 0 ∧ Lies wx B 26 #[.int .i64 2, .int .i64 1] ∧ Below V5.heap.size V5 wx)
      case first => as_aux_lemma =>
        refine wp_region_held_drew (S := fun V => Below V5.heap.size V5 V) rfl (Below.refl _ _).drew (fun hS0 => ?_)
        change wpAnyH _ _ _ _ _ 9 (Array.replicate 9 false) _ _
        refine wpAnyH_take (i := 0) (oi := ⟨some 48, _, _, _, _, _⟩) (v := .agg #[.slice A5 3 c5, .int .i64 9]) rfl (by kernel_rfl) (by kernel_rfl) (by kernel_rfl) (fun _ _ _ h => h) (.inl ⟨by kernel_rfl, fun X hX => by have n0 := (hX.cell (p := ⟨B5, 0, none⟩) hBlt).trans b0; have n1 := (hX.cell (p := ⟨B5, 1, none⟩) hBlt).trans b1; go_simp⟩) hS0 ?_
        try simp only [Act.put, List.setIfInBounds_toArray, List.set_cons_zero, List.set_cons_succ]
        refine wpAnyH_ready (rs := [1, 6]) (by kernel_rfl) (by simp) (AllReadyH.cons rfl (fun K hK => ?_) (AllReadyH.cons rfl (fun K hK => ?_) AllReadyH.nil))
        · go_simp
          refine (at_any 2 2 _).mono ?_
          rintro e u_1 ⟨rfl, hq_1⟩
          have hB_1 : Below V5.heap.size V5 u_1 := hS0.trans (hq_1.mono hS0.size)
          refine hK.out _ _ (hB_1) (fun hS1 => ?_)
          clear hK K
          try simp only [Act.put, List.setIfInBounds_toArray, List.set_cons_zero, List.set_cons_succ]
          refine wpAnyH_ready (rs := [2, 6]) (by kernel_rfl) (by simp) (AllReadyH.cons rfl (fun K hK => ?_) (AllReadyH.cons rfl (fun K hK => ?_) AllReadyH.nil))
          · go_simp
            refine (HOP.out _ hS1).mono ?_
            rintro e u_2 ⟨rfl, hq_2⟩
            have hB_2 : Below V5.heap.size V5 u_2 := hS1.trans (hq_2.mono hS1.size)
            refine hK.out _ _ (hB_2) (fun hS2 => ?_)
            clear hK K
            try simp only [Act.put, List.setIfInBounds_toArray, List.set_cons_zero, List.set_cons_succ]
            refine wpAnyH_take (i := 3) (oi := ⟨some 47, _, _, _, _, _⟩) (v := .tuple #[.agg #[.int .i64 2, .int .i64 1], .int .i64 0]) rfl (by kernel_rfl) (by kernel_rfl) (by kernel_rfl) (fun _ _ _ h => h) (.inl ⟨by kernel_rfl, fun X hX => by first | kernel_rfl | go_simp⟩) hS2 ?_
            try simp only [Act.put, List.setIfInBounds_toArray, List.set_cons_zero, List.set_cons_succ]
            refine wpAnyH_take (i := 4) (oi := ⟨some 51, _, _, _, _, _⟩) (v := .agg #[.int .i64 2, .int .i64 1]) rfl (by kernel_rfl) (by kernel_rfl) (by kernel_rfl) (fun _ _ _ h => h) (.inl ⟨by kernel_rfl, fun X hX => by first | kernel_rfl | go_simp⟩) hS2 ?_
            try simp only [Act.put, List.setIfInBounds_toArray, List.set_cons_zero, List.set_cons_succ]
            refine wpAnyH_take (i := 5) (oi := ⟨some 52, _, _, _, _, _⟩) (v := .int .i64 0) rfl (by kernel_rfl) (by kernel_rfl) (by kernel_rfl) (fun _ _ _ h => h) (.inl ⟨by kernel_rfl, fun X hX => by first | kernel_rfl | go_simp⟩) hS2 ?_
            try simp only [Act.put, List.setIfInBounds_toArray, List.set_cons_zero, List.set_cons_succ]
            refine wpAnyH_ready (rs := [6]) (by kernel_rfl) (by simp) (AllReadyH.cons rfl (fun K hK => ?_) AllReadyH.nil)
            go_simp
            have lb_3 : Lies ((u_2).alloc (.cells #[.int .i64 0, .int .i64 0] 26)) u_2.heap.size 26 #[.int .i64 0, .int .i64 0] := Lies.new (u_2) _ _
            have hle_3 : V5.heap.size ≤ u_2.heap.size := hS2.size
            have hS_3 : Below V5.heap.size V5 (u_2) := hS2
            refine hK.out _ _ (hS2.alloc hS2.size _) (fun hS3 => ?_)
            clear hK K
            try simp only [Act.put, List.setIfInBounds_toArray, List.set_cons_zero, List.set_cons_succ]
            refine wpAnyH_ready (rs := [7]) (by kernel_rfl) (by simp) (AllReadyH.cons rfl (fun K hK => ?_) AllReadyH.nil)
            obtain ⟨b0_4, b1_4⟩ := two_cells lb_3
            have fb0_4 := lb_3.frozen 0
            have fb1_4 := lb_3.frozen 1
            have lp_4 : Lies ((u_2).alloc (.cells #[.int .i64 2, .int .i64 1] 26)) u_2.heap.size 26 #[.int .i64 2, .int .i64 1] := Lies.new (u_2) _ _
            go_simp
            refine hK.out _ _ (hS_3.alloc hS_3.size _) (fun hS4 => ?_)
            clear hK K
            try simp only [Act.put, List.setIfInBounds_toArray, List.set_cons_zero, List.set_cons_succ]
            refine wpAnyH_ready (rs := [8]) (by kernel_rfl) (by simp) (AllReadyH.cons rfl (fun K hK => ?_) AllReadyH.nil)
            go_simp
            refine hK.out _ _ (hS4) (fun hS5 => ?_)
            clear hK K
            try simp only [Act.put, List.setIfInBounds_toArray, List.set_cons_zero, List.set_cons_succ]
            refine wpAnyH_done (by kernel_rfl) ?_ _
            go_wp2_with fail
            go_meet
            exact ⟨_, rfl, rfl, lp_4, hS5⟩
          · go_simp
            have lb_6 : Lies ((u_1).alloc (.cells #[.int .i64 0, .int .i64 0] 26)) u_1.heap.size 26 #[.int .i64 0, .int .i64 0] := Lies.new (u_1) _ _
            have hle_6 : V5.heap.size ≤ u_1.heap.size := hS1.size
            have hS_6 : Below V5.heap.size V5 (u_1) := hS1
            refine hK.out _ _ (hS1.alloc hS1.size _) (fun hS6 => ?_)
            clear hK K
            try simp only [Act.put, List.setIfInBounds_toArray, List.set_cons_zero, List.set_cons_succ]
            refine wpAnyH_ready (rs := [2]) (by kernel_rfl) (by simp) (AllReadyH.cons rfl (fun K hK => ?_) AllReadyH.nil)
            go_simp
            refine (HOP.out _ hS6).mono ?_
            rintro e u_7 ⟨rfl, hq_7⟩
            have hB_7 : Below V5.heap.size V5 u_7 := hS6.trans (hq_7.mono hS6.size)
            have lb_7 := lb_6.below hq_7 lb_6.lt
            refine hK.out _ _ (hB_7) (fun hS7 => ?_)
            clear hK K
            try simp only [Act.put, List.setIfInBounds_toArray, List.set_cons_zero, List.set_cons_succ]
            refine wpAnyH_take (i := 3) (oi := ⟨some 47, _, _, _, _, _⟩) (v := .tuple #[.agg #[.int .i64 2, .int .i64 1], .int .i64 0]) rfl (by kernel_rfl) (by kernel_rfl) (by kernel_rfl) (fun _ _ _ h => h) (.inl ⟨by kernel_rfl, fun X hX => by first | kernel_rfl | go_simp⟩) hS7 ?_
            try simp only [Act.put, List.setIfInBounds_toArray, List.set_cons_zero, List.set_cons_succ]
            refine wpAnyH_take (i := 4) (oi := ⟨some 51, _, _, _, _, _⟩) (v := .agg #[.int .i64 2, .int .i64 1]) rfl (by kernel_rfl) (by kernel_rfl) (by kernel_rfl) (fun _ _ _ h => h) (.inl ⟨by kernel_rfl, fun X hX => by first | kernel_rfl | go_simp⟩) hS7 ?_
            try simp only [Act.put, List.setIfInBounds_toArray, List.set_cons_zero, List.set_cons_succ]
            refine wpAnyH_take (i := 5) (oi := ⟨some 52, _, _, _, _, _⟩) (v := .int .i64 0) rfl (by kernel_rfl) (by kernel_rfl) (by kernel_rfl) (fun _ _ _ h => h) (.inl ⟨by kernel_rfl, fun X hX => by first | kernel_rfl | go_simp⟩) hS7 ?_
            try simp only [Act.put, List.setIfInBounds_toArray, List.set_cons_zero, List.set_cons_succ]
            refine wpAnyH_ready (rs := [7]) (by kernel_rfl) (by simp) (AllReadyH.cons rfl (fun K hK => ?_) AllReadyH.nil)
            obtain ⟨b0_8, b1_8⟩ := two_cells lb_7
            have fb0_8 := lb_7.frozen 0
            have fb1_8 := lb_7.frozen 1
            have lp_8 := lies_put2 lb_7 (.int .i64 2) (.int .i64 1)
            go_simp
            refine hK.out _ _ ((hS7.setCell (p := ⟨_, 0, none⟩) hle_6 _).setCell (p := ⟨_, 1, none⟩) hle_6 _) (fun hS8 => ?_)
            clear hK K
            try simp only [Act.put, List.setIfInBounds_toArray, List.set_cons_zero, List.set_cons_succ]
            refine wpAnyH_ready (rs := [8]) (by kernel_rfl) (by simp) (AllReadyH.cons rfl (fun K hK => ?_) AllReadyH.nil)
            go_simp
            refine hK.out _ _ (hS8) (fun hS9 => ?_)
            clear hK K
            try simp only [Act.put, List.setIfInBounds_toArray, List.set_cons_zero, List.set_cons_succ]
            refine wpAnyH_done (by kernel_rfl) ?_ _
            go_wp2_with fail
            go_meet
            exact ⟨_, rfl, rfl, lp_8, hS9⟩
        · go_simp
          have lb_10 : Lies ((V5.drew).alloc (.cells #[.int .i64 0, .int .i64 0] 26)) V5.heap.size 26 #[.int .i64 0, .int .i64 0] := Lies.new (V5.drew) _ _
          have hle_10 : V5.heap.size ≤ V5.heap.size := hS0.size
          have hS_10 : Below V5.heap.size V5 (V5.drew) := hS0
          refine hK.out _ _ (hS0.alloc hS0.size _) (fun hS10 => ?_)
          clear hK K
          try simp only [Act.put, List.setIfInBounds_toArray, List.set_cons_zero, List.set_cons_succ]
          refine wpAnyH_ready (rs := [1]) (by kernel_rfl) (by simp) (AllReadyH.cons rfl (fun K hK => ?_) AllReadyH.nil)
          go_simp
          refine (at_any 2 2 _).mono ?_
          rintro e u_11 ⟨rfl, hq_11⟩
          have hB_11 : Below V5.heap.size V5 u_11 := hS10.trans (hq_11.mono hS10.size)
          have lb_11 := lb_10.below hq_11 lb_10.lt
          refine hK.out _ _ (hB_11) (fun hS11 => ?_)
          clear hK K
          try simp only [Act.put, List.setIfInBounds_toArray, List.set_cons_zero, List.set_cons_succ]
          refine wpAnyH_ready (rs := [2]) (by kernel_rfl) (by simp) (AllReadyH.cons rfl (fun K hK => ?_) AllReadyH.nil)
          go_simp
          refine (HOP.out _ hS11).mono ?_
          rintro e u_12 ⟨rfl, hq_12⟩
          have hB_12 : Below V5.heap.size V5 u_12 := hS11.trans (hq_12.mono hS11.size)
          have lb_12 := lb_11.below hq_12 lb_11.lt
          refine hK.out _ _ (hB_12) (fun hS12 => ?_)
          clear hK K
          try simp only [Act.put, List.setIfInBounds_toArray, List.set_cons_zero, List.set_cons_succ]
          refine wpAnyH_take (i := 3) (oi := ⟨some 47, _, _, _, _, _⟩) (v := .tuple #[.agg #[.int .i64 2, .int .i64 1], .int .i64 0]) rfl (by kernel_rfl) (by kernel_rfl) (by kernel_rfl) (fun _ _ _ h => h) (.inl ⟨by kernel_rfl, fun X hX => by first | kernel_rfl | go_simp⟩) hS12 ?_
          try simp only [Act.put, List.setIfInBounds_toArray, List.set_cons_zero, List.set_cons_succ]
          refine wpAnyH_take (i := 4) (oi := ⟨some 51, _, _, _, _, _⟩) (v := .agg #[.int .i64 2, .int .i64 1]) rfl (by kernel_rfl) (by kernel_rfl) (by kernel_rfl) (fun _ _ _ h => h) (.inl ⟨by kernel_rfl, fun X hX => by first | kernel_rfl | go_simp⟩) hS12 ?_
          try simp only [Act.put, List.setIfInBounds_toArray, List.set_cons_zero, List.set_cons_succ]
          refine wpAnyH_take (i := 5) (oi := ⟨some 52, _, _, _, _, _⟩) (v := .int .i64 0) rfl (by kernel_rfl) (by kernel_rfl) (by kernel_rfl) (fun _ _ _ h => h) (.inl ⟨by kernel_rfl, fun X hX => by first | kernel_rfl | go_simp⟩) hS12 ?_
          try simp only [Act.put, List.setIfInBounds_toArray, List.set_cons_zero, List.set_cons_succ]
          refine wpAnyH_ready (rs := [7]) (by kernel_rfl) (by simp) (AllReadyH.cons rfl (fun K hK => ?_) AllReadyH.nil)
          obtain ⟨b0_13, b1_13⟩ := two_cells lb_12
          have fb0_13 := lb_12.frozen 0
          have fb1_13 := lb_12.frozen 1
          have lp_13 := lies_put2 lb_12 (.int .i64 2) (.int .i64 1)
          go_simp
          refine hK.out _ _ ((hS12.setCell (p := ⟨_, 0, none⟩) hle_10 _).setCell (p := ⟨_, 1, none⟩) hle_10 _) (fun hS13 => ?_)
          clear hK K
          try simp only [Act.put, List.setIfInBounds_toArray, List.set_cons_zero, List.set_cons_succ]
          refine wpAnyH_ready (rs := [8]) (by kernel_rfl) (by simp) (AllReadyH.cons rfl (fun K hK => ?_) AllReadyH.nil)
          go_simp
          refine hK.out _ _ (hS13) (fun hS14 => ?_)
          clear hK K
          try simp only [Act.put, List.setIfInBounds_toArray, List.set_cons_zero, List.set_cons_succ]
          refine wpAnyH_done (by kernel_rfl) ?_ _
          go_wp2_with fail
          go_meet
          exact ⟨_, rfl, rfl, lp_13, hS14⟩
      case rest =>
        obtain ⟨B7, rfl, rfl, hl, hb⟩ := hcut
        rename World => V7
        replace HB1 := Lib.hid (HB1.out.below hb HB1.out.lt)
        replace HN1 := Lib.hid (HN1.out.below hb (Nat.le_refl _))
        replace HB3 := Lib.hid (HB3.out.below hb HB3.out.lt)
        replace HB5 := Lib.hid (HB5.out.below hb HB5.out.lt)
        replace HN5 := Lib.hid (HN5.out.below hb (Nat.le_refl _))
        replace HB := Lib.hid (HB.out.trans (hb.mono HB.out.size))
        have HB7 := Lib.hid hl
        clear hl hb b0 b1 hBlt HOP
        go_upto_region 6 with fail
        have HOP : Hid (∀ V, Below V7.heap.size V7 V → Calls Try.prog 14 #[.agg #[.slice A5 3 c5, .int .i64 9], .agg #[.int .i64 0, .int .i64 0], .agg #[.int .i64 2, .int .i64 0]] V (fun e w' => ∃ A c, e = .returned (.tuple #[.agg #[.slice A 3 c, .int .i64 9], .int .i64 0]) ∧ NdsIn w' (fun g => V.heap.size ≤ g) f2N A ∧ Below V.heap.size V w')) := Lib.hid fun V hV => by
          have hr : moveNV f1N (0, 0) (2, 0) = (f2N, 0) := by kernel_rfl
          have h := wmove_any f1N A5 3 c5 9 (0, 0) (2, 0) V (by kernel_rfl) (by decide) (few_lit _ (by kernel_rfl)) (HN5.out.below hV (Nat.le_refl _))
          rw [hr] at h
          exact h.mono fun _ _ h => givesLit h (by kernel_rfl) rfl
        have b0 := HB5.out.cell 0
        have b1 := HB5.out.cell 1
        simp at b0 b1
        have hBlt := HB5.out.lt
        go_cut [9, 10] (fun y z wx => ∃ (B : Nat) (A : Option Addr) (c : Nat), y = .pointer (some ⟨B, 0, none⟩) ∧ z = .int .i64 0 ∧ Lies wx B 24 #[.slice A 3 c, .int .i64 9] ∧ NdsIn wx AnyB f2N A ∧ Below V7.heap.size V7 wx)
        case first => as_aux_lemma =>
          refine wp_region_held_drew (S := fun V => Below V7.heap.size V7 V) rfl (Below.refl _ _).drew (fun hS0 => ?_)
          change wpAnyH _ _ _ _ _ 10 (Array.replicate 10 false) _ _
          refine wpAnyH_take (i := 0) (oi := ⟨some 54, _, _, _, _, _⟩) (v := .agg #[.slice A5 3 c5, .int .i64 9]) rfl (by kernel_rfl) (by kernel_rfl) (by kernel_rfl) (fun _ _ _ h => h) (.inl ⟨by kernel_rfl, fun X hX => by have n0 := (hX.cell (p := ⟨B5, 0, none⟩) hBlt).trans b0; have n1 := (hX.cell (p := ⟨B5, 1, none⟩) hBlt).trans b1; go_simp⟩) hS0 ?_
          try simp only [Act.put, List.setIfInBounds_toArray, List.set_cons_zero, List.set_cons_succ]
          refine wpAnyH_ready (rs := [1, 7]) (by kernel_rfl) (by simp) (AllReadyH.cons rfl (fun K hK => ?_) (AllReadyH.cons rfl (fun K hK => ?_) AllReadyH.nil))
          · go_simp
            refine (at_any 0 0 _).mono ?_
            rintro e u_1 ⟨rfl, hq_1⟩
            have hB_1 : Below V7.heap.size V7 u_1 := hS0.trans (hq_1.mono hS0.size)
            refine hK.out _ _ (hB_1) (fun hS1 => ?_)
            clear hK K
            try simp only [Act.put, List.setIfInBounds_toArray, List.set_cons_zero, List.set_cons_succ]
            refine wpAnyH_ready (rs := [2, 7]) (by kernel_rfl) (by simp) (AllReadyH.cons rfl (fun K hK => ?_) (AllReadyH.cons rfl (fun K hK => ?_) AllReadyH.nil))
            · go_simp
              refine (at_any 2 0 _).mono ?_
              rintro e u_2 ⟨rfl, hq_2⟩
              have hB_2 : Below V7.heap.size V7 u_2 := hS1.trans (hq_2.mono hS1.size)
              refine hK.out _ _ (hB_2) (fun hS2 => ?_)
              clear hK K
              try simp only [Act.put, List.setIfInBounds_toArray, List.set_cons_zero, List.set_cons_succ]
              refine wpAnyH_ready (rs := [3, 7]) (by kernel_rfl) (by simp) (AllReadyH.cons rfl (fun K hK => ?_) (AllReadyH.cons rfl (fun K hK => ?_) AllReadyH.nil))
              · go_simp
                refine (HOP.out _ hS2).mono ?_
                rintro e u_3 ⟨A_3, c_3, rfl, hN_3, hq_3⟩
                have hB_3 : Below V7.heap.size V7 u_3 := hS2.trans (hq_3.mono hS2.size)
                refine hK.out _ _ (hB_3) (fun hS3 => ?_)
                clear hK K
                try simp only [Act.put, List.setIfInBounds_toArray, List.set_cons_zero, List.set_cons_succ]
                refine wpAnyH_take (i := 4) (oi := ⟨some 53, _, _, _, _, _⟩) (v := .tuple #[.agg #[.slice A_3 3 c_3, .int .i64 9], .int .i64 0]) rfl (by kernel_rfl) (by kernel_rfl) (by kernel_rfl) (fun _ _ _ h => h) (.inl ⟨by kernel_rfl, fun X hX => by first | kernel_rfl | go_simp⟩) hS3 ?_
                try simp only [Act.put, List.setIfInBounds_toArray, List.set_cons_zero, List.set_cons_succ]
                refine wpAnyH_take (i := 5) (oi := ⟨some 58, _, _, _, _, _⟩) (v := .agg #[.slice A_3 3 c_3, .int .i64 9]) rfl (by kernel_rfl) (by kernel_rfl) (by kernel_rfl) (fun _ _ _ h => h) (.inl ⟨by kernel_rfl, fun X hX => by first | kernel_rfl | go_simp⟩) hS3 ?_
                try simp only [Act.put, List.setIfInBounds_toArray, List.set_cons_zero, List.set_cons_succ]
                refine wpAnyH_take (i := 6) (oi := ⟨some 59, _, _, _, _, _⟩) (v := .int .i64 0) rfl (by kernel_rfl) (by kernel_rfl) (by kernel_rfl) (fun _ _ _ h => h) (.inl ⟨by kernel_rfl, fun X hX => by first | kernel_rfl | go_simp⟩) hS3 ?_
                try simp only [Act.put, List.setIfInBounds_toArray, List.set_cons_zero, List.set_cons_succ]
                refine wpAnyH_ready (rs := [7]) (by kernel_rfl) (by simp) (AllReadyH.cons rfl (fun K hK => ?_) AllReadyH.nil)
                go_simp
                have lb_4 : Lies ((u_3).alloc (.cells #[.slice none 0 0, .int .i64 0] 24)) u_3.heap.size 24 #[.slice none 0 0, .int .i64 0] := Lies.new (u_3) _ _
                have hle_4 : V7.heap.size ≤ u_3.heap.size := hS3.size
                have hS_4 : Below V7.heap.size V7 (u_3) := hS3
                refine hK.out _ _ (hS3.alloc hS3.size _) (fun hS4 => ?_)
                clear hK K
                try simp only [Act.put, List.setIfInBounds_toArray, List.set_cons_zero, List.set_cons_succ]
                refine wpAnyH_ready (rs := [8]) (by kernel_rfl) (by simp) (AllReadyH.cons rfl (fun K hK => ?_) AllReadyH.nil)
                obtain ⟨b0_5, b1_5⟩ := two_cells lb_4
                have fb0_5 := lb_4.frozen 0
                have fb1_5 := lb_4.frozen 1
                have lp_5 : Lies ((u_3).alloc (.cells #[.slice A_3 3 c_3, .int .i64 9] 24)) u_3.heap.size 24 #[.slice A_3 3 c_3, .int .i64 9] := Lies.new (u_3) _ _
                go_simp
                refine hK.out _ _ (hS_4.alloc hS_4.size _) (fun hS5 => ?_)
                clear hK K
                try simp only [Act.put, List.setIfInBounds_toArray, List.set_cons_zero, List.set_cons_succ]
                refine wpAnyH_ready (rs := [9]) (by kernel_rfl) (by simp) (AllReadyH.cons rfl (fun K hK => ?_) AllReadyH.nil)
                go_simp
                refine hK.out _ _ (hS5) (fun hS6 => ?_)
                clear hK K
                try simp only [Act.put, List.setIfInBounds_toArray, List.set_cons_zero, List.set_cons_succ]
                refine wpAnyH_done (by kernel_rfl) ?_ _
                go_wp2_with fail
                go_meet
                exact ⟨_, A_3, c_3, rfl, rfl, lp_5, hN_3.any.below ((Below.refl _ _).alloc (Nat.le_refl _) _) (Nat.le_refl _), hS6⟩
              · go_simp
                have lb_7 : Lies ((u_2).alloc (.cells #[.slice none 0 0, .int .i64 0] 24)) u_2.heap.size 24 #[.slice none 0 0, .int .i64 0] := Lies.new (u_2) _ _
                have hle_7 : V7.heap.size ≤ u_2.heap.size := hS2.size
                have hS_7 : Below V7.heap.size V7 (u_2) := hS2
                refine hK.out _ _ (hS2.alloc hS2.size _) (fun hS7 => ?_)
                clear hK K
                try simp only [Act.put, List.setIfInBounds_toArray, List.set_cons_zero, List.set_cons_succ]
                refine wpAnyH_ready (rs := [3]) (by kernel_rfl) (by simp) (AllReadyH.cons rfl (fun K hK => ?_) AllReadyH.nil)
                go_simp
                refine (HOP.out _ hS7).mono ?_
                rintro e u_8 ⟨A_8, c_8, rfl, hN_8, hq_8⟩
                have hB_8 : Below V7.heap.size V7 u_8 := hS7.trans (hq_8.mono hS7.size)
                have lb_8 := lb_7.below hq_8 lb_7.lt
                refine hK.out _ _ (hB_8) (fun hS8 => ?_)
                clear hK K
                try simp only [Act.put, List.setIfInBounds_toArray, List.set_cons_zero, List.set_cons_succ]
                refine wpAnyH_take (i := 4) (oi := ⟨some 53, _, _, _, _, _⟩) (v := .tuple #[.agg #[.slice A_8 3 c_8, .int .i64 9], .int .i64 0]) rfl (by kernel_rfl) (by kernel_rfl) (by kernel_rfl) (fun _ _ _ h => h) (.inl ⟨by kernel_rfl, fun X hX => by first | kernel_rfl | go_simp⟩) hS8 ?_
                try simp only [Act.put, List.setIfInBounds_toArray, List.set_cons_zero, List.set_cons_succ]
                refine wpAnyH_take (i := 5) (oi := ⟨some 58, _, _, _, _, _⟩) (v := .agg #[.slice A_8 3 c_8, .int .i64 9]) rfl (by kernel_rfl) (by kernel_rfl) (by kernel_rfl) (fun _ _ _ h => h) (.inl ⟨by kernel_rfl, fun X hX => by first | kernel_rfl | go_simp⟩) hS8 ?_
                try simp only [Act.put, List.setIfInBounds_toArray, List.set_cons_zero, List.set_cons_succ]
                refine wpAnyH_take (i := 6) (oi := ⟨some 59, _, _, _, _, _⟩) (v := .int .i64 0) rfl (by kernel_rfl) (by kernel_rfl) (by kernel_rfl) (fun _ _ _ h => h) (.inl ⟨by kernel_rfl, fun X hX => by first | kernel_rfl | go_simp⟩) hS8 ?_
                try simp only [Act.put, List.setIfInBounds_toArray, List.set_cons_zero, List.set_cons_succ]
                refine wpAnyH_ready (rs := [8]) (by kernel_rfl) (by simp) (AllReadyH.cons rfl (fun K hK => ?_) AllReadyH.nil)
                obtain ⟨b0_9, b1_9⟩ := two_cells lb_8
                have fb0_9 := lb_8.frozen 0
                have fb1_9 := lb_8.frozen 1
                have lp_9 := lies_put2 lb_8 (.slice A_8 3 c_8) (.int .i64 9)
                go_simp
                refine hK.out _ _ ((hS8.setCell (p := ⟨_, 0, none⟩) hle_7 _).setCell (p := ⟨_, 1, none⟩) hle_7 _) (fun hS9 => ?_)
                clear hK K
                try simp only [Act.put, List.setIfInBounds_toArray, List.set_cons_zero, List.set_cons_succ]
                refine wpAnyH_ready (rs := [9]) (by kernel_rfl) (by simp) (AllReadyH.cons rfl (fun K hK => ?_) AllReadyH.nil)
                go_simp
                refine hK.out _ _ (hS9) (fun hS10 => ?_)
                clear hK K
                try simp only [Act.put, List.setIfInBounds_toArray, List.set_cons_zero, List.set_cons_succ]
                refine wpAnyH_done (by kernel_rfl) ?_ _
                go_wp2_with fail
                go_meet
                exact ⟨_, A_8, c_8, rfl, rfl, lp_9, ((hN_8.keep (keep_set ⟨_, 0, none⟩ _ (Nat.not_le_of_lt lb_7.lt))).keep (keep_set ⟨_, 1, none⟩ _ (Nat.not_le_of_lt lb_7.lt))).any, hS10⟩
            · go_simp
              have lb_11 : Lies ((u_1).alloc (.cells #[.slice none 0 0, .int .i64 0] 24)) u_1.heap.size 24 #[.slice none 0 0, .int .i64 0] := Lies.new (u_1) _ _
              have hle_11 : V7.heap.size ≤ u_1.heap.size := hS1.size
              have hS_11 : Below V7.heap.size V7 (u_1) := hS1
              refine hK.out _ _ (hS1.alloc hS1.size _) (fun hS11 => ?_)
              clear hK K
              try simp only [Act.put, List.setIfInBounds_toArray, List.set_cons_zero, List.set_cons_succ]
              refine wpAnyH_ready (rs := [2]) (by kernel_rfl) (by simp) (AllReadyH.cons rfl (fun K hK => ?_) AllReadyH.nil)
              go_simp
              refine (at_any 2 0 _).mono ?_
              rintro e u_12 ⟨rfl, hq_12⟩
              have hB_12 : Below V7.heap.size V7 u_12 := hS11.trans (hq_12.mono hS11.size)
              have lb_12 := lb_11.below hq_12 lb_11.lt
              refine hK.out _ _ (hB_12) (fun hS12 => ?_)
              clear hK K
              try simp only [Act.put, List.setIfInBounds_toArray, List.set_cons_zero, List.set_cons_succ]
              refine wpAnyH_ready (rs := [3]) (by kernel_rfl) (by simp) (AllReadyH.cons rfl (fun K hK => ?_) AllReadyH.nil)
              go_simp
              refine (HOP.out _ hS12).mono ?_
              rintro e u_13 ⟨A_13, c_13, rfl, hN_13, hq_13⟩
              have hB_13 : Below V7.heap.size V7 u_13 := hS12.trans (hq_13.mono hS12.size)
              have lb_13 := lb_12.below hq_13 lb_12.lt
              refine hK.out _ _ (hB_13) (fun hS13 => ?_)
              clear hK K
              try simp only [Act.put, List.setIfInBounds_toArray, List.set_cons_zero, List.set_cons_succ]
              refine wpAnyH_take (i := 4) (oi := ⟨some 53, _, _, _, _, _⟩) (v := .tuple #[.agg #[.slice A_13 3 c_13, .int .i64 9], .int .i64 0]) rfl (by kernel_rfl) (by kernel_rfl) (by kernel_rfl) (fun _ _ _ h => h) (.inl ⟨by kernel_rfl, fun X hX => by first | kernel_rfl | go_simp⟩) hS13 ?_
              try simp only [Act.put, List.setIfInBounds_toArray, List.set_cons_zero, List.set_cons_succ]
              refine wpAnyH_take (i := 5) (oi := ⟨some 58, _, _, _, _, _⟩) (v := .agg #[.slice A_13 3 c_13, .int .i64 9]) rfl (by kernel_rfl) (by kernel_rfl) (by kernel_rfl) (fun _ _ _ h => h) (.inl ⟨by kernel_rfl, fun X hX => by first | kernel_rfl | go_simp⟩) hS13 ?_
              try simp only [Act.put, List.setIfInBounds_toArray, List.set_cons_zero, List.set_cons_succ]
              refine wpAnyH_take (i := 6) (oi := ⟨some 59, _, _, _, _, _⟩) (v := .int .i64 0) rfl (by kernel_rfl) (by kernel_rfl) (by kernel_rfl) (fun _ _ _ h => h) (.inl ⟨by kernel_rfl, fun X hX => by first | kernel_rfl | go_simp⟩) hS13 ?_
              try simp only [Act.put, List.setIfInBounds_toArray, List.set_cons_zero, List.set_cons_succ]
              refine wpAnyH_ready (rs := [8]) (by kernel_rfl) (by simp) (AllReadyH.cons rfl (fun K hK => ?_) AllReadyH.nil)
              obtain ⟨b0_14, b1_14⟩ := two_cells lb_13
              have fb0_14 := lb_13.frozen 0
              have fb1_14 := lb_13.frozen 1
              have lp_14 := lies_put2 lb_13 (.slice A_13 3 c_13) (.int .i64 9)
              go_simp
              refine hK.out _ _ ((hS13.setCell (p := ⟨_, 0, none⟩) hle_11 _).setCell (p := ⟨_, 1, none⟩) hle_11 _) (fun hS14 => ?_)
              clear hK K
              try simp only [Act.put, List.setIfInBounds_toArray, List.set_cons_zero, List.set_cons_succ]
              refine wpAnyH_ready (rs := [9]) (by kernel_rfl) (by simp) (AllReadyH.cons rfl (fun K hK => ?_) AllReadyH.nil)
              go_simp
              refine hK.out _ _ (hS14) (fun hS15 => ?_)
              clear hK K
              try simp only [Act.put, List.setIfInBounds_toArray, List.set_cons_zero, List.set_cons_succ]
              refine wpAnyH_done (by kernel_rfl) ?_ _
              go_wp2_with fail
              go_meet
              exact ⟨_, A_13, c_13, rfl, rfl, lp_14, ((hN_13.keep (keep_set ⟨_, 0, none⟩ _ (Nat.not_le_of_lt lb_12.lt))).keep (keep_set ⟨_, 1, none⟩ _ (Nat.not_le_of_lt lb_12.lt))).any, hS15⟩
          · go_simp
            have lb_16 : Lies ((V7.drew).alloc (.cells #[.slice none 0 0, .int .i64 0] 24)) V7.heap.size 24 #[.slice none 0 0, .int .i64 0] := Lies.new (V7.drew) _ _
            have hle_16 : V7.heap.size ≤ V7.heap.size := hS0.size
            have hS_16 : Below V7.heap.size V7 (V7.drew) := hS0
            refine hK.out _ _ (hS0.alloc hS0.size _) (fun hS16 => ?_)
            clear hK K
            try simp only [Act.put, List.setIfInBounds_toArray, List.set_cons_zero, List.set_cons_succ]
            refine wpAnyH_ready (rs := [1]) (by kernel_rfl) (by simp) (AllReadyH.cons rfl (fun K hK => ?_) AllReadyH.nil)
            go_simp
            refine (at_any 0 0 _).mono ?_
            rintro e u_17 ⟨rfl, hq_17⟩
            have hB_17 : Below V7.heap.size V7 u_17 := hS16.trans (hq_17.mono hS16.size)
            have lb_17 := lb_16.below hq_17 lb_16.lt
            refine hK.out _ _ (hB_17) (fun hS17 => ?_)
            clear hK K
            try simp only [Act.put, List.setIfInBounds_toArray, List.set_cons_zero, List.set_cons_succ]
            refine wpAnyH_ready (rs := [2]) (by kernel_rfl) (by simp) (AllReadyH.cons rfl (fun K hK => ?_) AllReadyH.nil)
            go_simp
            refine (at_any 2 0 _).mono ?_
            rintro e u_18 ⟨rfl, hq_18⟩
            have hB_18 : Below V7.heap.size V7 u_18 := hS17.trans (hq_18.mono hS17.size)
            have lb_18 := lb_17.below hq_18 lb_17.lt
            refine hK.out _ _ (hB_18) (fun hS18 => ?_)
            clear hK K
            try simp only [Act.put, List.setIfInBounds_toArray, List.set_cons_zero, List.set_cons_succ]
            refine wpAnyH_ready (rs := [3]) (by kernel_rfl) (by simp) (AllReadyH.cons rfl (fun K hK => ?_) AllReadyH.nil)
            go_simp
            refine (HOP.out _ hS18).mono ?_
            rintro e u_19 ⟨A_19, c_19, rfl, hN_19, hq_19⟩
            have hB_19 : Below V7.heap.size V7 u_19 := hS18.trans (hq_19.mono hS18.size)
            have lb_19 := lb_18.below hq_19 lb_18.lt
            refine hK.out _ _ (hB_19) (fun hS19 => ?_)
            clear hK K
            try simp only [Act.put, List.setIfInBounds_toArray, List.set_cons_zero, List.set_cons_succ]
            refine wpAnyH_take (i := 4) (oi := ⟨some 53, _, _, _, _, _⟩) (v := .tuple #[.agg #[.slice A_19 3 c_19, .int .i64 9], .int .i64 0]) rfl (by kernel_rfl) (by kernel_rfl) (by kernel_rfl) (fun _ _ _ h => h) (.inl ⟨by kernel_rfl, fun X hX => by first | kernel_rfl | go_simp⟩) hS19 ?_
            try simp only [Act.put, List.setIfInBounds_toArray, List.set_cons_zero, List.set_cons_succ]
            refine wpAnyH_take (i := 5) (oi := ⟨some 58, _, _, _, _, _⟩) (v := .agg #[.slice A_19 3 c_19, .int .i64 9]) rfl (by kernel_rfl) (by kernel_rfl) (by kernel_rfl) (fun _ _ _ h => h) (.inl ⟨by kernel_rfl, fun X hX => by first | kernel_rfl | go_simp⟩) hS19 ?_
            try simp only [Act.put, List.setIfInBounds_toArray, List.set_cons_zero, List.set_cons_succ]
            refine wpAnyH_take (i := 6) (oi := ⟨some 59, _, _, _, _, _⟩) (v := .int .i64 0) rfl (by kernel_rfl) (by kernel_rfl) (by kernel_rfl) (fun _ _ _ h => h) (.inl ⟨by kernel_rfl, fun X hX => by first | kernel_rfl | go_simp⟩) hS19 ?_
            try simp only [Act.put, List.setIfInBounds_toArray, List.set_cons_zero, List.set_cons_succ]
            refine wpAnyH_ready (rs := [8]) (by kernel_rfl) (by simp) (AllReadyH.cons rfl (fun K hK => ?_) AllReadyH.nil)
            obtain ⟨b0_20, b1_20⟩ := two_cells lb_19
            have fb0_20 := lb_19.frozen 0
            have fb1_20 := lb_19.frozen 1
            have lp_20 := lies_put2 lb_19 (.slice A_19 3 c_19) (.int .i64 9)
            go_simp
            refine hK.out _ _ ((hS19.setCell (p := ⟨_, 0, none⟩) hle_16 _).setCell (p := ⟨_, 1, none⟩) hle_16 _) (fun hS20 => ?_)
            clear hK K
            try simp only [Act.put, List.setIfInBounds_toArray, List.set_cons_zero, List.set_cons_succ]
            refine wpAnyH_ready (rs := [9]) (by kernel_rfl) (by simp) (AllReadyH.cons rfl (fun K hK => ?_) AllReadyH.nil)
            go_simp
            refine hK.out _ _ (hS20) (fun hS21 => ?_)
            clear hK K
            try simp only [Act.put, List.setIfInBounds_toArray, List.set_cons_zero, List.set_cons_succ]
            refine wpAnyH_done (by kernel_rfl) ?_ _
            go_wp2_with fail
            go_meet
            exact ⟨_, A_19, c_19, rfl, rfl, lp_20, ((hN_19.keep (keep_set ⟨_, 0, none⟩ _ (Nat.not_le_of_lt lb_18.lt))).keep (keep_set ⟨_, 1, none⟩ _ (Nat.not_le_of_lt lb_18.lt))).any, hS21⟩
        case rest =>
          obtain ⟨B9, A9, c9, rfl, rfl, hl, hn, hb⟩ := hcut
          rename World => V9
          replace HB1 := Lib.hid (HB1.out.below hb HB1.out.lt)
          replace HN1 := Lib.hid (HN1.out.below hb (Nat.le_refl _))
          replace HB3 := Lib.hid (HB3.out.below hb HB3.out.lt)
          replace HB5 := Lib.hid (HB5.out.below hb HB5.out.lt)
          replace HN5 := Lib.hid (HN5.out.below hb (Nat.le_refl _))
          replace HB7 := Lib.hid (HB7.out.below hb HB7.out.lt)
          replace HB := Lib.hid (HB.out.trans (hb.mono HB.out.size))
          have HB9 := Lib.hid hl
          have HN9 := Lib.hid hn
          clear hl hb b0 b1 hBlt HOP hn
          go_upto_region 7 with fail
          have HOP : Hid (∀ V, Below V9.heap.size V9 V → Calls Try.prog 10 #[.agg #[.slice A9 3 c9, .int .i64 9], .agg #[.int .i64 1, .int .i64 0]] V (fun e w' => e = .returned (.tuple #[.agg #[.int .i64 2, .int .i64 0], .int .i64 0]) ∧ Below V.heap.size V w')) := Lib.hid fun V hV => by
            have h := wPeer_any f2N A9 3 c9 9 (1, 0) V (by kernel_rfl) (HN9.out.below hV (Nat.le_refl _))
            rw [show peerNV f2N (1, 0) = ((2, 0), 0) by kernel_rfl] at h
            exact h
          have b0 := HB9.out.cell 0
          have b1 := HB9.out.cell 1
          simp at b0 b1
          have hBlt := HB9.out.lt
          go_cut [11, 12] (fun y z wx => ∃ B : Nat, y = .pointer (some ⟨B, 0, none⟩) ∧ z = .int .i64 0 ∧ Lies wx B 26 #[.int .i64 2, .int .i64 0] ∧ Below V9.heap.size V9 wx)
          case first => as_aux_lemma =>
            refine wp_region_held_drew (S := fun V => Below V9.heap.size V9 V) rfl (Below.refl _ _).drew (fun hS0 => ?_)
            change wpAnyH _ _ _ _ _ 9 (Array.replicate 9 false) _ _
            refine wpAnyH_take (i := 0) (oi := ⟨some 61, _, _, _, _, _⟩) (v := .agg #[.slice A9 3 c9, .int .i64 9]) rfl (by kernel_rfl) (by kernel_rfl) (by kernel_rfl) (fun _ _ _ h => h) (.inl ⟨by kernel_rfl, fun X hX => by have n0 := (hX.cell (p := ⟨B9, 0, none⟩) hBlt).trans b0; have n1 := (hX.cell (p := ⟨B9, 1, none⟩) hBlt).trans b1; go_simp⟩) hS0 ?_
            try simp only [Act.put, List.setIfInBounds_toArray, List.set_cons_zero, List.set_cons_succ]
            refine wpAnyH_ready (rs := [1, 6]) (by kernel_rfl) (by simp) (AllReadyH.cons rfl (fun K hK => ?_) (AllReadyH.cons rfl (fun K hK => ?_) AllReadyH.nil))
            · go_simp
              refine (at_any 1 0 _).mono ?_
              rintro e u_1 ⟨rfl, hq_1⟩
              have hB_1 : Below V9.heap.size V9 u_1 := hS0.trans (hq_1.mono hS0.size)
              refine hK.out _ _ (hB_1) (fun hS1 => ?_)
              clear hK K
              try simp only [Act.put, List.setIfInBounds_toArray, List.set_cons_zero, List.set_cons_succ]
              refine wpAnyH_ready (rs := [2, 6]) (by kernel_rfl) (by simp) (AllReadyH.cons rfl (fun K hK => ?_) (AllReadyH.cons rfl (fun K hK => ?_) AllReadyH.nil))
              · go_simp
                refine (HOP.out _ hS1).mono ?_
                rintro e u_2 ⟨rfl, hq_2⟩
                have hB_2 : Below V9.heap.size V9 u_2 := hS1.trans (hq_2.mono hS1.size)
                refine hK.out _ _ (hB_2) (fun hS2 => ?_)
                clear hK K
                try simp only [Act.put, List.setIfInBounds_toArray, List.set_cons_zero, List.set_cons_succ]
                refine wpAnyH_take (i := 3) (oi := ⟨some 60, _, _, _, _, _⟩) (v := .tuple #[.agg #[.int .i64 2, .int .i64 0], .int .i64 0]) rfl (by kernel_rfl) (by kernel_rfl) (by kernel_rfl) (fun _ _ _ h => h) (.inl ⟨by kernel_rfl, fun X hX => by first | kernel_rfl | go_simp⟩) hS2 ?_
                try simp only [Act.put, List.setIfInBounds_toArray, List.set_cons_zero, List.set_cons_succ]
                refine wpAnyH_take (i := 4) (oi := ⟨some 64, _, _, _, _, _⟩) (v := .agg #[.int .i64 2, .int .i64 0]) rfl (by kernel_rfl) (by kernel_rfl) (by kernel_rfl) (fun _ _ _ h => h) (.inl ⟨by kernel_rfl, fun X hX => by first | kernel_rfl | go_simp⟩) hS2 ?_
                try simp only [Act.put, List.setIfInBounds_toArray, List.set_cons_zero, List.set_cons_succ]
                refine wpAnyH_take (i := 5) (oi := ⟨some 65, _, _, _, _, _⟩) (v := .int .i64 0) rfl (by kernel_rfl) (by kernel_rfl) (by kernel_rfl) (fun _ _ _ h => h) (.inl ⟨by kernel_rfl, fun X hX => by first | kernel_rfl | go_simp⟩) hS2 ?_
                try simp only [Act.put, List.setIfInBounds_toArray, List.set_cons_zero, List.set_cons_succ]
                refine wpAnyH_ready (rs := [6]) (by kernel_rfl) (by simp) (AllReadyH.cons rfl (fun K hK => ?_) AllReadyH.nil)
                go_simp
                have lb_3 : Lies ((u_2).alloc (.cells #[.int .i64 0, .int .i64 0] 26)) u_2.heap.size 26 #[.int .i64 0, .int .i64 0] := Lies.new (u_2) _ _
                have hle_3 : V9.heap.size ≤ u_2.heap.size := hS2.size
                have hS_3 : Below V9.heap.size V9 (u_2) := hS2
                refine hK.out _ _ (hS2.alloc hS2.size _) (fun hS3 => ?_)
                clear hK K
                try simp only [Act.put, List.setIfInBounds_toArray, List.set_cons_zero, List.set_cons_succ]
                refine wpAnyH_ready (rs := [7]) (by kernel_rfl) (by simp) (AllReadyH.cons rfl (fun K hK => ?_) AllReadyH.nil)
                obtain ⟨b0_4, b1_4⟩ := two_cells lb_3
                have fb0_4 := lb_3.frozen 0
                have fb1_4 := lb_3.frozen 1
                have lp_4 : Lies ((u_2).alloc (.cells #[.int .i64 2, .int .i64 0] 26)) u_2.heap.size 26 #[.int .i64 2, .int .i64 0] := Lies.new (u_2) _ _
                go_simp
                refine hK.out _ _ (hS_3.alloc hS_3.size _) (fun hS4 => ?_)
                clear hK K
                try simp only [Act.put, List.setIfInBounds_toArray, List.set_cons_zero, List.set_cons_succ]
                refine wpAnyH_ready (rs := [8]) (by kernel_rfl) (by simp) (AllReadyH.cons rfl (fun K hK => ?_) AllReadyH.nil)
                go_simp
                refine hK.out _ _ (hS4) (fun hS5 => ?_)
                clear hK K
                try simp only [Act.put, List.setIfInBounds_toArray, List.set_cons_zero, List.set_cons_succ]
                refine wpAnyH_done (by kernel_rfl) ?_ _
                go_wp2_with fail
                go_meet
                exact ⟨_, rfl, rfl, lp_4, hS5⟩
              · go_simp
                have lb_6 : Lies ((u_1).alloc (.cells #[.int .i64 0, .int .i64 0] 26)) u_1.heap.size 26 #[.int .i64 0, .int .i64 0] := Lies.new (u_1) _ _
                have hle_6 : V9.heap.size ≤ u_1.heap.size := hS1.size
                have hS_6 : Below V9.heap.size V9 (u_1) := hS1
                refine hK.out _ _ (hS1.alloc hS1.size _) (fun hS6 => ?_)
                clear hK K
                try simp only [Act.put, List.setIfInBounds_toArray, List.set_cons_zero, List.set_cons_succ]
                refine wpAnyH_ready (rs := [2]) (by kernel_rfl) (by simp) (AllReadyH.cons rfl (fun K hK => ?_) AllReadyH.nil)
                go_simp
                refine (HOP.out _ hS6).mono ?_
                rintro e u_7 ⟨rfl, hq_7⟩
                have hB_7 : Below V9.heap.size V9 u_7 := hS6.trans (hq_7.mono hS6.size)
                have lb_7 := lb_6.below hq_7 lb_6.lt
                refine hK.out _ _ (hB_7) (fun hS7 => ?_)
                clear hK K
                try simp only [Act.put, List.setIfInBounds_toArray, List.set_cons_zero, List.set_cons_succ]
                refine wpAnyH_take (i := 3) (oi := ⟨some 60, _, _, _, _, _⟩) (v := .tuple #[.agg #[.int .i64 2, .int .i64 0], .int .i64 0]) rfl (by kernel_rfl) (by kernel_rfl) (by kernel_rfl) (fun _ _ _ h => h) (.inl ⟨by kernel_rfl, fun X hX => by first | kernel_rfl | go_simp⟩) hS7 ?_
                try simp only [Act.put, List.setIfInBounds_toArray, List.set_cons_zero, List.set_cons_succ]
                refine wpAnyH_take (i := 4) (oi := ⟨some 64, _, _, _, _, _⟩) (v := .agg #[.int .i64 2, .int .i64 0]) rfl (by kernel_rfl) (by kernel_rfl) (by kernel_rfl) (fun _ _ _ h => h) (.inl ⟨by kernel_rfl, fun X hX => by first | kernel_rfl | go_simp⟩) hS7 ?_
                try simp only [Act.put, List.setIfInBounds_toArray, List.set_cons_zero, List.set_cons_succ]
                refine wpAnyH_take (i := 5) (oi := ⟨some 65, _, _, _, _, _⟩) (v := .int .i64 0) rfl (by kernel_rfl) (by kernel_rfl) (by kernel_rfl) (fun _ _ _ h => h) (.inl ⟨by kernel_rfl, fun X hX => by first | kernel_rfl | go_simp⟩) hS7 ?_
                try simp only [Act.put, List.setIfInBounds_toArray, List.set_cons_zero, List.set_cons_succ]
                refine wpAnyH_ready (rs := [7]) (by kernel_rfl) (by simp) (AllReadyH.cons rfl (fun K hK => ?_) AllReadyH.nil)
                obtain ⟨b0_8, b1_8⟩ := two_cells lb_7
                have fb0_8 := lb_7.frozen 0
                have fb1_8 := lb_7.frozen 1
                have lp_8 := lies_put2 lb_7 (.int .i64 2) (.int .i64 0)
                go_simp
                refine hK.out _ _ ((hS7.setCell (p := ⟨_, 0, none⟩) hle_6 _).setCell (p := ⟨_, 1, none⟩) hle_6 _) (fun hS8 => ?_)
                clear hK K
                try simp only [Act.put, List.setIfInBounds_toArray, List.set_cons_zero, List.set_cons_succ]
                refine wpAnyH_ready (rs := [8]) (by kernel_rfl) (by simp) (AllReadyH.cons rfl (fun K hK => ?_) AllReadyH.nil)
                go_simp
                refine hK.out _ _ (hS8) (fun hS9 => ?_)
                clear hK K
                try simp only [Act.put, List.setIfInBounds_toArray, List.set_cons_zero, List.set_cons_succ]
                refine wpAnyH_done (by kernel_rfl) ?_ _
                go_wp2_with fail
                go_meet
                exact ⟨_, rfl, rfl, lp_8, hS9⟩
            · go_simp
              have lb_10 : Lies ((V9.drew).alloc (.cells #[.int .i64 0, .int .i64 0] 26)) V9.heap.size 26 #[.int .i64 0, .int .i64 0] := Lies.new (V9.drew) _ _
              have hle_10 : V9.heap.size ≤ V9.heap.size := hS0.size
              have hS_10 : Below V9.heap.size V9 (V9.drew) := hS0
              refine hK.out _ _ (hS0.alloc hS0.size _) (fun hS10 => ?_)
              clear hK K
              try simp only [Act.put, List.setIfInBounds_toArray, List.set_cons_zero, List.set_cons_succ]
              refine wpAnyH_ready (rs := [1]) (by kernel_rfl) (by simp) (AllReadyH.cons rfl (fun K hK => ?_) AllReadyH.nil)
              go_simp
              refine (at_any 1 0 _).mono ?_
              rintro e u_11 ⟨rfl, hq_11⟩
              have hB_11 : Below V9.heap.size V9 u_11 := hS10.trans (hq_11.mono hS10.size)
              have lb_11 := lb_10.below hq_11 lb_10.lt
              refine hK.out _ _ (hB_11) (fun hS11 => ?_)
              clear hK K
              try simp only [Act.put, List.setIfInBounds_toArray, List.set_cons_zero, List.set_cons_succ]
              refine wpAnyH_ready (rs := [2]) (by kernel_rfl) (by simp) (AllReadyH.cons rfl (fun K hK => ?_) AllReadyH.nil)
              go_simp
              refine (HOP.out _ hS11).mono ?_
              rintro e u_12 ⟨rfl, hq_12⟩
              have hB_12 : Below V9.heap.size V9 u_12 := hS11.trans (hq_12.mono hS11.size)
              have lb_12 := lb_11.below hq_12 lb_11.lt
              refine hK.out _ _ (hB_12) (fun hS12 => ?_)
              clear hK K
              try simp only [Act.put, List.setIfInBounds_toArray, List.set_cons_zero, List.set_cons_succ]
              refine wpAnyH_take (i := 3) (oi := ⟨some 60, _, _, _, _, _⟩) (v := .tuple #[.agg #[.int .i64 2, .int .i64 0], .int .i64 0]) rfl (by kernel_rfl) (by kernel_rfl) (by kernel_rfl) (fun _ _ _ h => h) (.inl ⟨by kernel_rfl, fun X hX => by first | kernel_rfl | go_simp⟩) hS12 ?_
              try simp only [Act.put, List.setIfInBounds_toArray, List.set_cons_zero, List.set_cons_succ]
              refine wpAnyH_take (i := 4) (oi := ⟨some 64, _, _, _, _, _⟩) (v := .agg #[.int .i64 2, .int .i64 0]) rfl (by kernel_rfl) (by kernel_rfl) (by kernel_rfl) (fun _ _ _ h => h) (.inl ⟨by kernel_rfl, fun X hX => by first | kernel_rfl | go_simp⟩) hS12 ?_
              try simp only [Act.put, List.setIfInBounds_toArray, List.set_cons_zero, List.set_cons_succ]
              refine wpAnyH_take (i := 5) (oi := ⟨some 65, _, _, _, _, _⟩) (v := .int .i64 0) rfl (by kernel_rfl) (by kernel_rfl) (by kernel_rfl) (fun _ _ _ h => h) (.inl ⟨by kernel_rfl, fun X hX => by first | kernel_rfl | go_simp⟩) hS12 ?_
              try simp only [Act.put, List.setIfInBounds_toArray, List.set_cons_zero, List.set_cons_succ]
              refine wpAnyH_ready (rs := [7]) (by kernel_rfl) (by simp) (AllReadyH.cons rfl (fun K hK => ?_) AllReadyH.nil)
              obtain ⟨b0_13, b1_13⟩ := two_cells lb_12
              have fb0_13 := lb_12.frozen 0
              have fb1_13 := lb_12.frozen 1
              have lp_13 := lies_put2 lb_12 (.int .i64 2) (.int .i64 0)
              go_simp
              refine hK.out _ _ ((hS12.setCell (p := ⟨_, 0, none⟩) hle_10 _).setCell (p := ⟨_, 1, none⟩) hle_10 _) (fun hS13 => ?_)
              clear hK K
              try simp only [Act.put, List.setIfInBounds_toArray, List.set_cons_zero, List.set_cons_succ]
              refine wpAnyH_ready (rs := [8]) (by kernel_rfl) (by simp) (AllReadyH.cons rfl (fun K hK => ?_) AllReadyH.nil)
              go_simp
              refine hK.out _ _ (hS13) (fun hS14 => ?_)
              clear hK K
              try simp only [Act.put, List.setIfInBounds_toArray, List.set_cons_zero, List.set_cons_succ]
              refine wpAnyH_done (by kernel_rfl) ?_ _
              go_wp2_with fail
              go_meet
              exact ⟨_, rfl, rfl, lp_13, hS14⟩
          case rest =>
            obtain ⟨B11, rfl, rfl, hl, hb⟩ := hcut
            rename World => V11
            replace HB1 := Lib.hid (HB1.out.below hb HB1.out.lt)
            replace HN1 := Lib.hid (HN1.out.below hb (Nat.le_refl _))
            replace HB3 := Lib.hid (HB3.out.below hb HB3.out.lt)
            replace HB5 := Lib.hid (HB5.out.below hb HB5.out.lt)
            replace HN5 := Lib.hid (HN5.out.below hb (Nat.le_refl _))
            replace HB7 := Lib.hid (HB7.out.below hb HB7.out.lt)
            replace HB9 := Lib.hid (HB9.out.below hb HB9.out.lt)
            replace HN9 := Lib.hid (HN9.out.below hb (Nat.le_refl _))
            replace HB := Lib.hid (HB.out.trans (hb.mono HB.out.size))
            have HB11 := Lib.hid hl
            clear hl hb b0 b1 hBlt HOP
            go_upto_region 8 with fail
            have HOP : Hid (∀ V, Below V11.heap.size V11 V → Calls Try.prog 16 #[.agg #[.slice A9 3 c9, .int .i64 9], .agg #[.int .i64 2, .int .i64 1], .agg #[.int .i64 2, .int .i64 2]] V (fun e w' => ∃ A c, e = .returned (.tuple #[.agg #[.slice A 3 c, .int .i64 9], .int .i64 0]) ∧ NdsIn w' (fun g => V.heap.size ≤ g) f2N A ∧ Below V.heap.size V w')) := Lib.hid fun V hV => by
              have hr : joinNV f2N (2, 1) (2, 2) = (f2N, 0) := by kernel_rfl
              have h := wjoin_any f2N A9 3 c9 9 (2, 1) (2, 2) V (by kernel_rfl) (by decide) (few_lit _ (by kernel_rfl)) (HN9.out.below hV (Nat.le_refl _))
              rw [hr] at h
              exact h.mono fun _ _ h => givesLit h (by kernel_rfl) rfl
            have b0 := HB9.out.cell 0
            have b1 := HB9.out.cell 1
            simp at b0 b1
            have hBlt := HB9.out.lt
            go_cut [13, 14] (fun y z wx => ∃ (B : Nat) (A : Option Addr) (c : Nat), y = .pointer (some ⟨B, 0, none⟩) ∧ z = .int .i64 0 ∧ Lies wx B 24 #[.slice A 3 c, .int .i64 9] ∧ NdsIn wx AnyB f2N A ∧ Below V11.heap.size V11 wx)
            case first => as_aux_lemma =>
              refine wp_region_held_drew (S := fun V => Below V11.heap.size V11 V) rfl (Below.refl _ _).drew (fun hS0 => ?_)
              change wpAnyH _ _ _ _ _ 10 (Array.replicate 10 false) _ _
              refine wpAnyH_take (i := 0) (oi := ⟨some 67, _, _, _, _, _⟩) (v := .agg #[.slice A9 3 c9, .int .i64 9]) rfl (by kernel_rfl) (by kernel_rfl) (by kernel_rfl) (fun _ _ _ h => h) (.inl ⟨by kernel_rfl, fun X hX => by have n0 := (hX.cell (p := ⟨B9, 0, none⟩) hBlt).trans b0; have n1 := (hX.cell (p := ⟨B9, 1, none⟩) hBlt).trans b1; go_simp⟩) hS0 ?_
              try simp only [Act.put, List.setIfInBounds_toArray, List.set_cons_zero, List.set_cons_succ]
              refine wpAnyH_ready (rs := [1, 7]) (by kernel_rfl) (by simp) (AllReadyH.cons rfl (fun K hK => ?_) (AllReadyH.cons rfl (fun K hK => ?_) AllReadyH.nil))
              · go_simp
                refine (at_any 2 1 _).mono ?_
                rintro e u_1 ⟨rfl, hq_1⟩
                have hB_1 : Below V11.heap.size V11 u_1 := hS0.trans (hq_1.mono hS0.size)
                refine hK.out _ _ (hB_1) (fun hS1 => ?_)
                clear hK K
                try simp only [Act.put, List.setIfInBounds_toArray, List.set_cons_zero, List.set_cons_succ]
                refine wpAnyH_ready (rs := [2, 7]) (by kernel_rfl) (by simp) (AllReadyH.cons rfl (fun K hK => ?_) (AllReadyH.cons rfl (fun K hK => ?_) AllReadyH.nil))
                · go_simp
                  refine (at_any 2 2 _).mono ?_
                  rintro e u_2 ⟨rfl, hq_2⟩
                  have hB_2 : Below V11.heap.size V11 u_2 := hS1.trans (hq_2.mono hS1.size)
                  refine hK.out _ _ (hB_2) (fun hS2 => ?_)
                  clear hK K
                  try simp only [Act.put, List.setIfInBounds_toArray, List.set_cons_zero, List.set_cons_succ]
                  refine wpAnyH_ready (rs := [3, 7]) (by kernel_rfl) (by simp) (AllReadyH.cons rfl (fun K hK => ?_) (AllReadyH.cons rfl (fun K hK => ?_) AllReadyH.nil))
                  · go_simp
                    refine (HOP.out _ hS2).mono ?_
                    rintro e u_3 ⟨A_3, c_3, rfl, hN_3, hq_3⟩
                    have hB_3 : Below V11.heap.size V11 u_3 := hS2.trans (hq_3.mono hS2.size)
                    refine hK.out _ _ (hB_3) (fun hS3 => ?_)
                    clear hK K
                    try simp only [Act.put, List.setIfInBounds_toArray, List.set_cons_zero, List.set_cons_succ]
                    refine wpAnyH_take (i := 4) (oi := ⟨some 66, _, _, _, _, _⟩) (v := .tuple #[.agg #[.slice A_3 3 c_3, .int .i64 9], .int .i64 0]) rfl (by kernel_rfl) (by kernel_rfl) (by kernel_rfl) (fun _ _ _ h => h) (.inl ⟨by kernel_rfl, fun X hX => by first | kernel_rfl | go_simp⟩) hS3 ?_
                    try simp only [Act.put, List.setIfInBounds_toArray, List.set_cons_zero, List.set_cons_succ]
                    refine wpAnyH_take (i := 5) (oi := ⟨some 71, _, _, _, _, _⟩) (v := .agg #[.slice A_3 3 c_3, .int .i64 9]) rfl (by kernel_rfl) (by kernel_rfl) (by kernel_rfl) (fun _ _ _ h => h) (.inl ⟨by kernel_rfl, fun X hX => by first | kernel_rfl | go_simp⟩) hS3 ?_
                    try simp only [Act.put, List.setIfInBounds_toArray, List.set_cons_zero, List.set_cons_succ]
                    refine wpAnyH_take (i := 6) (oi := ⟨some 72, _, _, _, _, _⟩) (v := .int .i64 0) rfl (by kernel_rfl) (by kernel_rfl) (by kernel_rfl) (fun _ _ _ h => h) (.inl ⟨by kernel_rfl, fun X hX => by first | kernel_rfl | go_simp⟩) hS3 ?_
                    try simp only [Act.put, List.setIfInBounds_toArray, List.set_cons_zero, List.set_cons_succ]
                    refine wpAnyH_ready (rs := [7]) (by kernel_rfl) (by simp) (AllReadyH.cons rfl (fun K hK => ?_) AllReadyH.nil)
                    go_simp
                    have lb_4 : Lies ((u_3).alloc (.cells #[.slice none 0 0, .int .i64 0] 24)) u_3.heap.size 24 #[.slice none 0 0, .int .i64 0] := Lies.new (u_3) _ _
                    have hle_4 : V11.heap.size ≤ u_3.heap.size := hS3.size
                    have hS_4 : Below V11.heap.size V11 (u_3) := hS3
                    refine hK.out _ _ (hS3.alloc hS3.size _) (fun hS4 => ?_)
                    clear hK K
                    try simp only [Act.put, List.setIfInBounds_toArray, List.set_cons_zero, List.set_cons_succ]
                    refine wpAnyH_ready (rs := [8]) (by kernel_rfl) (by simp) (AllReadyH.cons rfl (fun K hK => ?_) AllReadyH.nil)
                    obtain ⟨b0_5, b1_5⟩ := two_cells lb_4
                    have fb0_5 := lb_4.frozen 0
                    have fb1_5 := lb_4.frozen 1
                    have lp_5 : Lies ((u_3).alloc (.cells #[.slice A_3 3 c_3, .int .i64 9] 24)) u_3.heap.size 24 #[.slice A_3 3 c_3, .int .i64 9] := Lies.new (u_3) _ _
                    go_simp
                    refine hK.out _ _ (hS_4.alloc hS_4.size _) (fun hS5 => ?_)
                    clear hK K
                    try simp only [Act.put, List.setIfInBounds_toArray, List.set_cons_zero, List.set_cons_succ]
                    refine wpAnyH_ready (rs := [9]) (by kernel_rfl) (by simp) (AllReadyH.cons rfl (fun K hK => ?_) AllReadyH.nil)
                    go_simp
                    refine hK.out _ _ (hS5) (fun hS6 => ?_)
                    clear hK K
                    try simp only [Act.put, List.setIfInBounds_toArray, List.set_cons_zero, List.set_cons_succ]
                    refine wpAnyH_done (by kernel_rfl) ?_ _
                    go_wp2_with fail
                    go_meet
                    exact ⟨_, A_3, c_3, rfl, rfl, lp_5, hN_3.any.below ((Below.refl _ _).alloc (Nat.le_refl _) _) (Nat.le_refl _), hS6⟩
                  · go_simp
                    have lb_7 : Lies ((u_2).alloc (.cells #[.slice none 0 0, .int .i64 0] 24)) u_2.heap.size 24 #[.slice none 0 0, .int .i64 0] := Lies.new (u_2) _ _
                    have hle_7 : V11.heap.size ≤ u_2.heap.size := hS2.size
                    have hS_7 : Below V11.heap.size V11 (u_2) := hS2
                    refine hK.out _ _ (hS2.alloc hS2.size _) (fun hS7 => ?_)
                    clear hK K
                    try simp only [Act.put, List.setIfInBounds_toArray, List.set_cons_zero, List.set_cons_succ]
                    refine wpAnyH_ready (rs := [3]) (by kernel_rfl) (by simp) (AllReadyH.cons rfl (fun K hK => ?_) AllReadyH.nil)
                    go_simp
                    refine (HOP.out _ hS7).mono ?_
                    rintro e u_8 ⟨A_8, c_8, rfl, hN_8, hq_8⟩
                    have hB_8 : Below V11.heap.size V11 u_8 := hS7.trans (hq_8.mono hS7.size)
                    have lb_8 := lb_7.below hq_8 lb_7.lt
                    refine hK.out _ _ (hB_8) (fun hS8 => ?_)
                    clear hK K
                    try simp only [Act.put, List.setIfInBounds_toArray, List.set_cons_zero, List.set_cons_succ]
                    refine wpAnyH_take (i := 4) (oi := ⟨some 66, _, _, _, _, _⟩) (v := .tuple #[.agg #[.slice A_8 3 c_8, .int .i64 9], .int .i64 0]) rfl (by kernel_rfl) (by kernel_rfl) (by kernel_rfl) (fun _ _ _ h => h) (.inl ⟨by kernel_rfl, fun X hX => by first | kernel_rfl | go_simp⟩) hS8 ?_
                    try simp only [Act.put, List.setIfInBounds_toArray, List.set_cons_zero, List.set_cons_succ]
                    refine wpAnyH_take (i := 5) (oi := ⟨some 71, _, _, _, _, _⟩) (v := .agg #[.slice A_8 3 c_8, .int .i64 9]) rfl (by kernel_rfl) (by kernel_rfl) (by kernel_rfl) (fun _ _ _ h => h) (.inl ⟨by kernel_rfl, fun X hX => by first | kernel_rfl | go_simp⟩) hS8 ?_
                    try simp only [Act.put, List.setIfInBounds_toArray, List.set_cons_zero, List.set_cons_succ]
                    refine wpAnyH_take (i := 6) (oi := ⟨some 72, _, _, _, _, _⟩) (v := .int .i64 0) rfl (by kernel_rfl) (by kernel_rfl) (by kernel_rfl) (fun _ _ _ h => h) (.inl ⟨by kernel_rfl, fun X hX => by first | kernel_rfl | go_simp⟩) hS8 ?_
                    try simp only [Act.put, List.setIfInBounds_toArray, List.set_cons_zero, List.set_cons_succ]
                    refine wpAnyH_ready (rs := [8]) (by kernel_rfl) (by simp) (AllReadyH.cons rfl (fun K hK => ?_) AllReadyH.nil)
                    obtain ⟨b0_9, b1_9⟩ := two_cells lb_8
                    have fb0_9 := lb_8.frozen 0
                    have fb1_9 := lb_8.frozen 1
                    have lp_9 := lies_put2 lb_8 (.slice A_8 3 c_8) (.int .i64 9)
                    go_simp
                    refine hK.out _ _ ((hS8.setCell (p := ⟨_, 0, none⟩) hle_7 _).setCell (p := ⟨_, 1, none⟩) hle_7 _) (fun hS9 => ?_)
                    clear hK K
                    try simp only [Act.put, List.setIfInBounds_toArray, List.set_cons_zero, List.set_cons_succ]
                    refine wpAnyH_ready (rs := [9]) (by kernel_rfl) (by simp) (AllReadyH.cons rfl (fun K hK => ?_) AllReadyH.nil)
                    go_simp
                    refine hK.out _ _ (hS9) (fun hS10 => ?_)
                    clear hK K
                    try simp only [Act.put, List.setIfInBounds_toArray, List.set_cons_zero, List.set_cons_succ]
                    refine wpAnyH_done (by kernel_rfl) ?_ _
                    go_wp2_with fail
                    go_meet
                    exact ⟨_, A_8, c_8, rfl, rfl, lp_9, ((hN_8.keep (keep_set ⟨_, 0, none⟩ _ (Nat.not_le_of_lt lb_7.lt))).keep (keep_set ⟨_, 1, none⟩ _ (Nat.not_le_of_lt lb_7.lt))).any, hS10⟩
                · go_simp
                  have lb_11 : Lies ((u_1).alloc (.cells #[.slice none 0 0, .int .i64 0] 24)) u_1.heap.size 24 #[.slice none 0 0, .int .i64 0] := Lies.new (u_1) _ _
                  have hle_11 : V11.heap.size ≤ u_1.heap.size := hS1.size
                  have hS_11 : Below V11.heap.size V11 (u_1) := hS1
                  refine hK.out _ _ (hS1.alloc hS1.size _) (fun hS11 => ?_)
                  clear hK K
                  try simp only [Act.put, List.setIfInBounds_toArray, List.set_cons_zero, List.set_cons_succ]
                  refine wpAnyH_ready (rs := [2]) (by kernel_rfl) (by simp) (AllReadyH.cons rfl (fun K hK => ?_) AllReadyH.nil)
                  go_simp
                  refine (at_any 2 2 _).mono ?_
                  rintro e u_12 ⟨rfl, hq_12⟩
                  have hB_12 : Below V11.heap.size V11 u_12 := hS11.trans (hq_12.mono hS11.size)
                  have lb_12 := lb_11.below hq_12 lb_11.lt
                  refine hK.out _ _ (hB_12) (fun hS12 => ?_)
                  clear hK K
                  try simp only [Act.put, List.setIfInBounds_toArray, List.set_cons_zero, List.set_cons_succ]
                  refine wpAnyH_ready (rs := [3]) (by kernel_rfl) (by simp) (AllReadyH.cons rfl (fun K hK => ?_) AllReadyH.nil)
                  go_simp
                  refine (HOP.out _ hS12).mono ?_
                  rintro e u_13 ⟨A_13, c_13, rfl, hN_13, hq_13⟩
                  have hB_13 : Below V11.heap.size V11 u_13 := hS12.trans (hq_13.mono hS12.size)
                  have lb_13 := lb_12.below hq_13 lb_12.lt
                  refine hK.out _ _ (hB_13) (fun hS13 => ?_)
                  clear hK K
                  try simp only [Act.put, List.setIfInBounds_toArray, List.set_cons_zero, List.set_cons_succ]
                  refine wpAnyH_take (i := 4) (oi := ⟨some 66, _, _, _, _, _⟩) (v := .tuple #[.agg #[.slice A_13 3 c_13, .int .i64 9], .int .i64 0]) rfl (by kernel_rfl) (by kernel_rfl) (by kernel_rfl) (fun _ _ _ h => h) (.inl ⟨by kernel_rfl, fun X hX => by first | kernel_rfl | go_simp⟩) hS13 ?_
                  try simp only [Act.put, List.setIfInBounds_toArray, List.set_cons_zero, List.set_cons_succ]
                  refine wpAnyH_take (i := 5) (oi := ⟨some 71, _, _, _, _, _⟩) (v := .agg #[.slice A_13 3 c_13, .int .i64 9]) rfl (by kernel_rfl) (by kernel_rfl) (by kernel_rfl) (fun _ _ _ h => h) (.inl ⟨by kernel_rfl, fun X hX => by first | kernel_rfl | go_simp⟩) hS13 ?_
                  try simp only [Act.put, List.setIfInBounds_toArray, List.set_cons_zero, List.set_cons_succ]
                  refine wpAnyH_take (i := 6) (oi := ⟨some 72, _, _, _, _, _⟩) (v := .int .i64 0) rfl (by kernel_rfl) (by kernel_rfl) (by kernel_rfl) (fun _ _ _ h => h) (.inl ⟨by kernel_rfl, fun X hX => by first | kernel_rfl | go_simp⟩) hS13 ?_
                  try simp only [Act.put, List.setIfInBounds_toArray, List.set_cons_zero, List.set_cons_succ]
                  refine wpAnyH_ready (rs := [8]) (by kernel_rfl) (by simp) (AllReadyH.cons rfl (fun K hK => ?_) AllReadyH.nil)
                  obtain ⟨b0_14, b1_14⟩ := two_cells lb_13
                  have fb0_14 := lb_13.frozen 0
                  have fb1_14 := lb_13.frozen 1
                  have lp_14 := lies_put2 lb_13 (.slice A_13 3 c_13) (.int .i64 9)
                  go_simp
                  refine hK.out _ _ ((hS13.setCell (p := ⟨_, 0, none⟩) hle_11 _).setCell (p := ⟨_, 1, none⟩) hle_11 _) (fun hS14 => ?_)
                  clear hK K
                  try simp only [Act.put, List.setIfInBounds_toArray, List.set_cons_zero, List.set_cons_succ]
                  refine wpAnyH_ready (rs := [9]) (by kernel_rfl) (by simp) (AllReadyH.cons rfl (fun K hK => ?_) AllReadyH.nil)
                  go_simp
                  refine hK.out _ _ (hS14) (fun hS15 => ?_)
                  clear hK K
                  try simp only [Act.put, List.setIfInBounds_toArray, List.set_cons_zero, List.set_cons_succ]
                  refine wpAnyH_done (by kernel_rfl) ?_ _
                  go_wp2_with fail
                  go_meet
                  exact ⟨_, A_13, c_13, rfl, rfl, lp_14, ((hN_13.keep (keep_set ⟨_, 0, none⟩ _ (Nat.not_le_of_lt lb_12.lt))).keep (keep_set ⟨_, 1, none⟩ _ (Nat.not_le_of_lt lb_12.lt))).any, hS15⟩
              · go_simp
                have lb_16 : Lies ((V11.drew).alloc (.cells #[.slice none 0 0, .int .i64 0] 24)) V11.heap.size 24 #[.slice none 0 0, .int .i64 0] := Lies.new (V11.drew) _ _
                have hle_16 : V11.heap.size ≤ V11.heap.size := hS0.size
                have hS_16 : Below V11.heap.size V11 (V11.drew) := hS0
                refine hK.out _ _ (hS0.alloc hS0.size _) (fun hS16 => ?_)
                clear hK K
                try simp only [Act.put, List.setIfInBounds_toArray, List.set_cons_zero, List.set_cons_succ]
                refine wpAnyH_ready (rs := [1]) (by kernel_rfl) (by simp) (AllReadyH.cons rfl (fun K hK => ?_) AllReadyH.nil)
                go_simp
                refine (at_any 2 1 _).mono ?_
                rintro e u_17 ⟨rfl, hq_17⟩
                have hB_17 : Below V11.heap.size V11 u_17 := hS16.trans (hq_17.mono hS16.size)
                have lb_17 := lb_16.below hq_17 lb_16.lt
                refine hK.out _ _ (hB_17) (fun hS17 => ?_)
                clear hK K
                try simp only [Act.put, List.setIfInBounds_toArray, List.set_cons_zero, List.set_cons_succ]
                refine wpAnyH_ready (rs := [2]) (by kernel_rfl) (by simp) (AllReadyH.cons rfl (fun K hK => ?_) AllReadyH.nil)
                go_simp
                refine (at_any 2 2 _).mono ?_
                rintro e u_18 ⟨rfl, hq_18⟩
                have hB_18 : Below V11.heap.size V11 u_18 := hS17.trans (hq_18.mono hS17.size)
                have lb_18 := lb_17.below hq_18 lb_17.lt
                refine hK.out _ _ (hB_18) (fun hS18 => ?_)
                clear hK K
                try simp only [Act.put, List.setIfInBounds_toArray, List.set_cons_zero, List.set_cons_succ]
                refine wpAnyH_ready (rs := [3]) (by kernel_rfl) (by simp) (AllReadyH.cons rfl (fun K hK => ?_) AllReadyH.nil)
                go_simp
                refine (HOP.out _ hS18).mono ?_
                rintro e u_19 ⟨A_19, c_19, rfl, hN_19, hq_19⟩
                have hB_19 : Below V11.heap.size V11 u_19 := hS18.trans (hq_19.mono hS18.size)
                have lb_19 := lb_18.below hq_19 lb_18.lt
                refine hK.out _ _ (hB_19) (fun hS19 => ?_)
                clear hK K
                try simp only [Act.put, List.setIfInBounds_toArray, List.set_cons_zero, List.set_cons_succ]
                refine wpAnyH_take (i := 4) (oi := ⟨some 66, _, _, _, _, _⟩) (v := .tuple #[.agg #[.slice A_19 3 c_19, .int .i64 9], .int .i64 0]) rfl (by kernel_rfl) (by kernel_rfl) (by kernel_rfl) (fun _ _ _ h => h) (.inl ⟨by kernel_rfl, fun X hX => by first | kernel_rfl | go_simp⟩) hS19 ?_
                try simp only [Act.put, List.setIfInBounds_toArray, List.set_cons_zero, List.set_cons_succ]
                refine wpAnyH_take (i := 5) (oi := ⟨some 71, _, _, _, _, _⟩) (v := .agg #[.slice A_19 3 c_19, .int .i64 9]) rfl (by kernel_rfl) (by kernel_rfl) (by kernel_rfl) (fun _ _ _ h => h) (.inl ⟨by kernel_rfl, fun X hX => by first | kernel_rfl | go_simp⟩) hS19 ?_
                try simp only [Act.put, List.setIfInBounds_toArray, List.set_cons_zero, List.set_cons_succ]
                refine wpAnyH_take (i := 6) (oi := ⟨some 72, _, _, _, _, _⟩) (v := .int .i64 0) rfl (by kernel_rfl) (by kernel_rfl) (by kernel_rfl) (fun _ _ _ h => h) (.inl ⟨by kernel_rfl, fun X hX => by first | kernel_rfl | go_simp⟩) hS19 ?_
                try simp only [Act.put, List.setIfInBounds_toArray, List.set_cons_zero, List.set_cons_succ]
                refine wpAnyH_ready (rs := [8]) (by kernel_rfl) (by simp) (AllReadyH.cons rfl (fun K hK => ?_) AllReadyH.nil)
                obtain ⟨b0_20, b1_20⟩ := two_cells lb_19
                have fb0_20 := lb_19.frozen 0
                have fb1_20 := lb_19.frozen 1
                have lp_20 := lies_put2 lb_19 (.slice A_19 3 c_19) (.int .i64 9)
                go_simp
                refine hK.out _ _ ((hS19.setCell (p := ⟨_, 0, none⟩) hle_16 _).setCell (p := ⟨_, 1, none⟩) hle_16 _) (fun hS20 => ?_)
                clear hK K
                try simp only [Act.put, List.setIfInBounds_toArray, List.set_cons_zero, List.set_cons_succ]
                refine wpAnyH_ready (rs := [9]) (by kernel_rfl) (by simp) (AllReadyH.cons rfl (fun K hK => ?_) AllReadyH.nil)
                go_simp
                refine hK.out _ _ (hS20) (fun hS21 => ?_)
                clear hK K
                try simp only [Act.put, List.setIfInBounds_toArray, List.set_cons_zero, List.set_cons_succ]
                refine wpAnyH_done (by kernel_rfl) ?_ _
                go_wp2_with fail
                go_meet
                exact ⟨_, A_19, c_19, rfl, rfl, lp_20, ((hN_19.keep (keep_set ⟨_, 0, none⟩ _ (Nat.not_le_of_lt lb_18.lt))).keep (keep_set ⟨_, 1, none⟩ _ (Nat.not_le_of_lt lb_18.lt))).any, hS21⟩
            case rest =>
              obtain ⟨B13, A13, c13, rfl, rfl, hl, hn, hb⟩ := hcut
              rename World => V13
              replace HB1 := Lib.hid (HB1.out.below hb HB1.out.lt)
              replace HN1 := Lib.hid (HN1.out.below hb (Nat.le_refl _))
              replace HB3 := Lib.hid (HB3.out.below hb HB3.out.lt)
              replace HB5 := Lib.hid (HB5.out.below hb HB5.out.lt)
              replace HN5 := Lib.hid (HN5.out.below hb (Nat.le_refl _))
              replace HB7 := Lib.hid (HB7.out.below hb HB7.out.lt)
              replace HB9 := Lib.hid (HB9.out.below hb HB9.out.lt)
              replace HN9 := Lib.hid (HN9.out.below hb (Nat.le_refl _))
              replace HB11 := Lib.hid (HB11.out.below hb HB11.out.lt)
              replace HB := Lib.hid (HB.out.trans (hb.mono HB.out.size))
              have HB13 := Lib.hid hl
              have HN13 := Lib.hid hn
              clear hl hb b0 b1 hBlt HOP hn
              go_upto_region 9 with fail
              have HOP : Hid (∀ V, Below V13.heap.size V13 V → Calls Try.prog 12 #[.agg #[.slice A1 3 c1, .int .i64 9], .agg #[.int .i64 0, .int .i64 0], .agg #[.int .i64 0, .int .i64 1]] V (fun e w' => ∃ A c, e = .returned (.tuple #[.agg #[.slice A 3 c, .int .i64 9], .int .i64 130]) ∧ NdsIn w' (fun g => V.heap.size ≤ g) f0N A ∧ Below V.heap.size V w')) := Lib.hid fun V hV => by
                have hr : linkNV f0N (0, 0) (0, 1) = (f0N, 130) := by kernel_rfl
                have h := wlink_any f0N A1 3 c1 9 (0, 0) (0, 1) V (by kernel_rfl) (by decide) (few_lit _ (by kernel_rfl)) (HN1.out.below hV (Nat.le_refl _))
                rw [hr] at h
                exact h.mono fun _ _ h => givesLit h (by kernel_rfl) rfl
              have b0 := HB1.out.cell 0
              have b1 := HB1.out.cell 1
              simp at b0 b1
              have hBlt := HB1.out.lt
              go_cut [15, 16] (fun y z wx => ∃ (B : Nat) (A : Option Addr) (c : Nat), y = .pointer (some ⟨B, 0, none⟩) ∧ z = .int .i64 130 ∧ Lies wx B 24 #[.slice A 3 c, .int .i64 9] ∧ NdsIn wx AnyB f0N A ∧ Below V13.heap.size V13 wx)
              case first => as_aux_lemma =>
                refine wp_region_held_drew (S := fun V => Below V13.heap.size V13 V) rfl (Below.refl _ _).drew (fun hS0 => ?_)
                change wpAnyH _ _ _ _ _ 10 (Array.replicate 10 false) _ _
                refine wpAnyH_take (i := 0) (oi := ⟨some 74, _, _, _, _, _⟩) (v := .agg #[.slice A1 3 c1, .int .i64 9]) rfl (by kernel_rfl) (by kernel_rfl) (by kernel_rfl) (fun _ _ _ h => h) (.inl ⟨by kernel_rfl, fun X hX => by have n0 := (hX.cell (p := ⟨B1, 0, none⟩) hBlt).trans b0; have n1 := (hX.cell (p := ⟨B1, 1, none⟩) hBlt).trans b1; go_simp⟩) hS0 ?_
                try simp only [Act.put, List.setIfInBounds_toArray, List.set_cons_zero, List.set_cons_succ]
                refine wpAnyH_ready (rs := [1, 7]) (by kernel_rfl) (by simp) (AllReadyH.cons rfl (fun K hK => ?_) (AllReadyH.cons rfl (fun K hK => ?_) AllReadyH.nil))
                · go_simp
                  refine (at_any 0 0 _).mono ?_
                  rintro e u_1 ⟨rfl, hq_1⟩
                  have hB_1 : Below V13.heap.size V13 u_1 := hS0.trans (hq_1.mono hS0.size)
                  refine hK.out _ _ (hB_1) (fun hS1 => ?_)
                  clear hK K
                  try simp only [Act.put, List.setIfInBounds_toArray, List.set_cons_zero, List.set_cons_succ]
                  refine wpAnyH_ready (rs := [2, 7]) (by kernel_rfl) (by simp) (AllReadyH.cons rfl (fun K hK => ?_) (AllReadyH.cons rfl (fun K hK => ?_) AllReadyH.nil))
                  · go_simp
                    refine (at_any 0 1 _).mono ?_
                    rintro e u_2 ⟨rfl, hq_2⟩
                    have hB_2 : Below V13.heap.size V13 u_2 := hS1.trans (hq_2.mono hS1.size)
                    refine hK.out _ _ (hB_2) (fun hS2 => ?_)
                    clear hK K
                    try simp only [Act.put, List.setIfInBounds_toArray, List.set_cons_zero, List.set_cons_succ]
                    refine wpAnyH_ready (rs := [3, 7]) (by kernel_rfl) (by simp) (AllReadyH.cons rfl (fun K hK => ?_) (AllReadyH.cons rfl (fun K hK => ?_) AllReadyH.nil))
                    · go_simp
                      refine (HOP.out _ hS2).mono ?_
                      rintro e u_3 ⟨A_3, c_3, rfl, hN_3, hq_3⟩
                      have hB_3 : Below V13.heap.size V13 u_3 := hS2.trans (hq_3.mono hS2.size)
                      refine hK.out _ _ (hB_3) (fun hS3 => ?_)
                      clear hK K
                      try simp only [Act.put, List.setIfInBounds_toArray, List.set_cons_zero, List.set_cons_succ]
                      refine wpAnyH_take (i := 4) (oi := ⟨some 73, _, _, _, _, _⟩) (v := .tuple #[.agg #[.slice A_3 3 c_3, .int .i64 9], .int .i64 130]) rfl (by kernel_rfl) (by kernel_rfl) (by kernel_rfl) (fun _ _ _ h => h) (.inl ⟨by kernel_rfl, fun X hX => by first | kernel_rfl | go_simp⟩) hS3 ?_
                      try simp only [Act.put, List.setIfInBounds_toArray, List.set_cons_zero, List.set_cons_succ]
                      refine wpAnyH_take (i := 5) (oi := ⟨some 78, _, _, _, _, _⟩) (v := .agg #[.slice A_3 3 c_3, .int .i64 9]) rfl (by kernel_rfl) (by kernel_rfl) (by kernel_rfl) (fun _ _ _ h => h) (.inl ⟨by kernel_rfl, fun X hX => by first | kernel_rfl | go_simp⟩) hS3 ?_
                      try simp only [Act.put, List.setIfInBounds_toArray, List.set_cons_zero, List.set_cons_succ]
                      refine wpAnyH_take (i := 6) (oi := ⟨some 79, _, _, _, _, _⟩) (v := .int .i64 130) rfl (by kernel_rfl) (by kernel_rfl) (by kernel_rfl) (fun _ _ _ h => h) (.inl ⟨by kernel_rfl, fun X hX => by first | kernel_rfl | go_simp⟩) hS3 ?_
                      try simp only [Act.put, List.setIfInBounds_toArray, List.set_cons_zero, List.set_cons_succ]
                      refine wpAnyH_ready (rs := [7]) (by kernel_rfl) (by simp) (AllReadyH.cons rfl (fun K hK => ?_) AllReadyH.nil)
                      go_simp
                      have lb_4 : Lies ((u_3).alloc (.cells #[.slice none 0 0, .int .i64 0] 24)) u_3.heap.size 24 #[.slice none 0 0, .int .i64 0] := Lies.new (u_3) _ _
                      have hle_4 : V13.heap.size ≤ u_3.heap.size := hS3.size
                      have hS_4 : Below V13.heap.size V13 (u_3) := hS3
                      refine hK.out _ _ (hS3.alloc hS3.size _) (fun hS4 => ?_)
                      clear hK K
                      try simp only [Act.put, List.setIfInBounds_toArray, List.set_cons_zero, List.set_cons_succ]
                      refine wpAnyH_ready (rs := [8]) (by kernel_rfl) (by simp) (AllReadyH.cons rfl (fun K hK => ?_) AllReadyH.nil)
                      obtain ⟨b0_5, b1_5⟩ := two_cells lb_4
                      have fb0_5 := lb_4.frozen 0
                      have fb1_5 := lb_4.frozen 1
                      have lp_5 : Lies ((u_3).alloc (.cells #[.slice A_3 3 c_3, .int .i64 9] 24)) u_3.heap.size 24 #[.slice A_3 3 c_3, .int .i64 9] := Lies.new (u_3) _ _
                      go_simp
                      refine hK.out _ _ (hS_4.alloc hS_4.size _) (fun hS5 => ?_)
                      clear hK K
                      try simp only [Act.put, List.setIfInBounds_toArray, List.set_cons_zero, List.set_cons_succ]
                      refine wpAnyH_ready (rs := [9]) (by kernel_rfl) (by simp) (AllReadyH.cons rfl (fun K hK => ?_) AllReadyH.nil)
                      go_simp
                      refine hK.out _ _ (hS5) (fun hS6 => ?_)
                      clear hK K
                      try simp only [Act.put, List.setIfInBounds_toArray, List.set_cons_zero, List.set_cons_succ]
                      refine wpAnyH_done (by kernel_rfl) ?_ _
                      go_wp2_with fail
                      go_meet
                      exact ⟨_, A_3, c_3, rfl, rfl, lp_5, hN_3.any.below ((Below.refl _ _).alloc (Nat.le_refl _) _) (Nat.le_refl _), hS6⟩
                    · go_simp
                      have lb_7 : Lies ((u_2).alloc (.cells #[.slice none 0 0, .int .i64 0] 24)) u_2.heap.size 24 #[.slice none 0 0, .int .i64 0] := Lies.new (u_2) _ _
                      have hle_7 : V13.heap.size ≤ u_2.heap.size := hS2.size
                      have hS_7 : Below V13.heap.size V13 (u_2) := hS2
                      refine hK.out _ _ (hS2.alloc hS2.size _) (fun hS7 => ?_)
                      clear hK K
                      try simp only [Act.put, List.setIfInBounds_toArray, List.set_cons_zero, List.set_cons_succ]
                      refine wpAnyH_ready (rs := [3]) (by kernel_rfl) (by simp) (AllReadyH.cons rfl (fun K hK => ?_) AllReadyH.nil)
                      go_simp
                      refine (HOP.out _ hS7).mono ?_
                      rintro e u_8 ⟨A_8, c_8, rfl, hN_8, hq_8⟩
                      have hB_8 : Below V13.heap.size V13 u_8 := hS7.trans (hq_8.mono hS7.size)
                      have lb_8 := lb_7.below hq_8 lb_7.lt
                      refine hK.out _ _ (hB_8) (fun hS8 => ?_)
                      clear hK K
                      try simp only [Act.put, List.setIfInBounds_toArray, List.set_cons_zero, List.set_cons_succ]
                      refine wpAnyH_take (i := 4) (oi := ⟨some 73, _, _, _, _, _⟩) (v := .tuple #[.agg #[.slice A_8 3 c_8, .int .i64 9], .int .i64 130]) rfl (by kernel_rfl) (by kernel_rfl) (by kernel_rfl) (fun _ _ _ h => h) (.inl ⟨by kernel_rfl, fun X hX => by first | kernel_rfl | go_simp⟩) hS8 ?_
                      try simp only [Act.put, List.setIfInBounds_toArray, List.set_cons_zero, List.set_cons_succ]
                      refine wpAnyH_take (i := 5) (oi := ⟨some 78, _, _, _, _, _⟩) (v := .agg #[.slice A_8 3 c_8, .int .i64 9]) rfl (by kernel_rfl) (by kernel_rfl) (by kernel_rfl) (fun _ _ _ h => h) (.inl ⟨by kernel_rfl, fun X hX => by first | kernel_rfl | go_simp⟩) hS8 ?_
                      try simp only [Act.put, List.setIfInBounds_toArray, List.set_cons_zero, List.set_cons_succ]
                      refine wpAnyH_take (i := 6) (oi := ⟨some 79, _, _, _, _, _⟩) (v := .int .i64 130) rfl (by kernel_rfl) (by kernel_rfl) (by kernel_rfl) (fun _ _ _ h => h) (.inl ⟨by kernel_rfl, fun X hX => by first | kernel_rfl | go_simp⟩) hS8 ?_
                      try simp only [Act.put, List.setIfInBounds_toArray, List.set_cons_zero, List.set_cons_succ]
                      refine wpAnyH_ready (rs := [8]) (by kernel_rfl) (by simp) (AllReadyH.cons rfl (fun K hK => ?_) AllReadyH.nil)
                      obtain ⟨b0_9, b1_9⟩ := two_cells lb_8
                      have fb0_9 := lb_8.frozen 0
                      have fb1_9 := lb_8.frozen 1
                      have lp_9 := lies_put2 lb_8 (.slice A_8 3 c_8) (.int .i64 9)
                      go_simp
                      refine hK.out _ _ ((hS8.setCell (p := ⟨_, 0, none⟩) hle_7 _).setCell (p := ⟨_, 1, none⟩) hle_7 _) (fun hS9 => ?_)
                      clear hK K
                      try simp only [Act.put, List.setIfInBounds_toArray, List.set_cons_zero, List.set_cons_succ]
                      refine wpAnyH_ready (rs := [9]) (by kernel_rfl) (by simp) (AllReadyH.cons rfl (fun K hK => ?_) AllReadyH.nil)
                      go_simp
                      refine hK.out _ _ (hS9) (fun hS10 => ?_)
                      clear hK K
                      try simp only [Act.put, List.setIfInBounds_toArray, List.set_cons_zero, List.set_cons_succ]
                      refine wpAnyH_done (by kernel_rfl) ?_ _
                      go_wp2_with fail
                      go_meet
                      exact ⟨_, A_8, c_8, rfl, rfl, lp_9, ((hN_8.keep (keep_set ⟨_, 0, none⟩ _ (Nat.not_le_of_lt lb_7.lt))).keep (keep_set ⟨_, 1, none⟩ _ (Nat.not_le_of_lt lb_7.lt))).any, hS10⟩
                  · go_simp
                    have lb_11 : Lies ((u_1).alloc (.cells #[.slice none 0 0, .int .i64 0] 24)) u_1.heap.size 24 #[.slice none 0 0, .int .i64 0] := Lies.new (u_1) _ _
                    have hle_11 : V13.heap.size ≤ u_1.heap.size := hS1.size
                    have hS_11 : Below V13.heap.size V13 (u_1) := hS1
                    refine hK.out _ _ (hS1.alloc hS1.size _) (fun hS11 => ?_)
                    clear hK K
                    try simp only [Act.put, List.setIfInBounds_toArray, List.set_cons_zero, List.set_cons_succ]
                    refine wpAnyH_ready (rs := [2]) (by kernel_rfl) (by simp) (AllReadyH.cons rfl (fun K hK => ?_) AllReadyH.nil)
                    go_simp
                    refine (at_any 0 1 _).mono ?_
                    rintro e u_12 ⟨rfl, hq_12⟩
                    have hB_12 : Below V13.heap.size V13 u_12 := hS11.trans (hq_12.mono hS11.size)
                    have lb_12 := lb_11.below hq_12 lb_11.lt
                    refine hK.out _ _ (hB_12) (fun hS12 => ?_)
                    clear hK K
                    try simp only [Act.put, List.setIfInBounds_toArray, List.set_cons_zero, List.set_cons_succ]
                    refine wpAnyH_ready (rs := [3]) (by kernel_rfl) (by simp) (AllReadyH.cons rfl (fun K hK => ?_) AllReadyH.nil)
                    go_simp
                    refine (HOP.out _ hS12).mono ?_
                    rintro e u_13 ⟨A_13, c_13, rfl, hN_13, hq_13⟩
                    have hB_13 : Below V13.heap.size V13 u_13 := hS12.trans (hq_13.mono hS12.size)
                    have lb_13 := lb_12.below hq_13 lb_12.lt
                    refine hK.out _ _ (hB_13) (fun hS13 => ?_)
                    clear hK K
                    try simp only [Act.put, List.setIfInBounds_toArray, List.set_cons_zero, List.set_cons_succ]
                    refine wpAnyH_take (i := 4) (oi := ⟨some 73, _, _, _, _, _⟩) (v := .tuple #[.agg #[.slice A_13 3 c_13, .int .i64 9], .int .i64 130]) rfl (by kernel_rfl) (by kernel_rfl) (by kernel_rfl) (fun _ _ _ h => h) (.inl ⟨by kernel_rfl, fun X hX => by first | kernel_rfl | go_simp⟩) hS13 ?_
                    try simp only [Act.put, List.setIfInBounds_toArray, List.set_cons_zero, List.set_cons_succ]
                    refine wpAnyH_take (i := 5) (oi := ⟨some 78, _, _, _, _, _⟩) (v := .agg #[.slice A_13 3 c_13, .int .i64 9]) rfl (by kernel_rfl) (by kernel_rfl) (by kernel_rfl) (fun _ _ _ h => h) (.inl ⟨by kernel_rfl, fun X hX => by first | kernel_rfl | go_simp⟩) hS13 ?_
                    try simp only [Act.put, List.setIfInBounds_toArray, List.set_cons_zero, List.set_cons_succ]
                    refine wpAnyH_take (i := 6) (oi := ⟨some 79, _, _, _, _, _⟩) (v := .int .i64 130) rfl (by kernel_rfl) (by kernel_rfl) (by kernel_rfl) (fun _ _ _ h => h) (.inl ⟨by kernel_rfl, fun X hX => by first | kernel_rfl | go_simp⟩) hS13 ?_
                    try simp only [Act.put, List.setIfInBounds_toArray, List.set_cons_zero, List.set_cons_succ]
                    refine wpAnyH_ready (rs := [8]) (by kernel_rfl) (by simp) (AllReadyH.cons rfl (fun K hK => ?_) AllReadyH.nil)
                    obtain ⟨b0_14, b1_14⟩ := two_cells lb_13
                    have fb0_14 := lb_13.frozen 0
                    have fb1_14 := lb_13.frozen 1
                    have lp_14 := lies_put2 lb_13 (.slice A_13 3 c_13) (.int .i64 9)
                    go_simp
                    refine hK.out _ _ ((hS13.setCell (p := ⟨_, 0, none⟩) hle_11 _).setCell (p := ⟨_, 1, none⟩) hle_11 _) (fun hS14 => ?_)
                    clear hK K
                    try simp only [Act.put, List.setIfInBounds_toArray, List.set_cons_zero, List.set_cons_succ]
                    refine wpAnyH_ready (rs := [9]) (by kernel_rfl) (by simp) (AllReadyH.cons rfl (fun K hK => ?_) AllReadyH.nil)
                    go_simp
                    refine hK.out _ _ (hS14) (fun hS15 => ?_)
                    clear hK K
                    try simp only [Act.put, List.setIfInBounds_toArray, List.set_cons_zero, List.set_cons_succ]
                    refine wpAnyH_done (by kernel_rfl) ?_ _
                    go_wp2_with fail
                    go_meet
                    exact ⟨_, A_13, c_13, rfl, rfl, lp_14, ((hN_13.keep (keep_set ⟨_, 0, none⟩ _ (Nat.not_le_of_lt lb_12.lt))).keep (keep_set ⟨_, 1, none⟩ _ (Nat.not_le_of_lt lb_12.lt))).any, hS15⟩
                · go_simp
                  have lb_16 : Lies ((V13.drew).alloc (.cells #[.slice none 0 0, .int .i64 0] 24)) V13.heap.size 24 #[.slice none 0 0, .int .i64 0] := Lies.new (V13.drew) _ _
                  have hle_16 : V13.heap.size ≤ V13.heap.size := hS0.size
                  have hS_16 : Below V13.heap.size V13 (V13.drew) := hS0
                  refine hK.out _ _ (hS0.alloc hS0.size _) (fun hS16 => ?_)
                  clear hK K
                  try simp only [Act.put, List.setIfInBounds_toArray, List.set_cons_zero, List.set_cons_succ]
                  refine wpAnyH_ready (rs := [1]) (by kernel_rfl) (by simp) (AllReadyH.cons rfl (fun K hK => ?_) AllReadyH.nil)
                  go_simp
                  refine (at_any 0 0 _).mono ?_
                  rintro e u_17 ⟨rfl, hq_17⟩
                  have hB_17 : Below V13.heap.size V13 u_17 := hS16.trans (hq_17.mono hS16.size)
                  have lb_17 := lb_16.below hq_17 lb_16.lt
                  refine hK.out _ _ (hB_17) (fun hS17 => ?_)
                  clear hK K
                  try simp only [Act.put, List.setIfInBounds_toArray, List.set_cons_zero, List.set_cons_succ]
                  refine wpAnyH_ready (rs := [2]) (by kernel_rfl) (by simp) (AllReadyH.cons rfl (fun K hK => ?_) AllReadyH.nil)
                  go_simp
                  refine (at_any 0 1 _).mono ?_
                  rintro e u_18 ⟨rfl, hq_18⟩
                  have hB_18 : Below V13.heap.size V13 u_18 := hS17.trans (hq_18.mono hS17.size)
                  have lb_18 := lb_17.below hq_18 lb_17.lt
                  refine hK.out _ _ (hB_18) (fun hS18 => ?_)
                  clear hK K
                  try simp only [Act.put, List.setIfInBounds_toArray, List.set_cons_zero, List.set_cons_succ]
                  refine wpAnyH_ready (rs := [3]) (by kernel_rfl) (by simp) (AllReadyH.cons rfl (fun K hK => ?_) AllReadyH.nil)
                  go_simp
                  refine (HOP.out _ hS18).mono ?_
                  rintro e u_19 ⟨A_19, c_19, rfl, hN_19, hq_19⟩
                  have hB_19 : Below V13.heap.size V13 u_19 := hS18.trans (hq_19.mono hS18.size)
                  have lb_19 := lb_18.below hq_19 lb_18.lt
                  refine hK.out _ _ (hB_19) (fun hS19 => ?_)
                  clear hK K
                  try simp only [Act.put, List.setIfInBounds_toArray, List.set_cons_zero, List.set_cons_succ]
                  refine wpAnyH_take (i := 4) (oi := ⟨some 73, _, _, _, _, _⟩) (v := .tuple #[.agg #[.slice A_19 3 c_19, .int .i64 9], .int .i64 130]) rfl (by kernel_rfl) (by kernel_rfl) (by kernel_rfl) (fun _ _ _ h => h) (.inl ⟨by kernel_rfl, fun X hX => by first | kernel_rfl | go_simp⟩) hS19 ?_
                  try simp only [Act.put, List.setIfInBounds_toArray, List.set_cons_zero, List.set_cons_succ]
                  refine wpAnyH_take (i := 5) (oi := ⟨some 78, _, _, _, _, _⟩) (v := .agg #[.slice A_19 3 c_19, .int .i64 9]) rfl (by kernel_rfl) (by kernel_rfl) (by kernel_rfl) (fun _ _ _ h => h) (.inl ⟨by kernel_rfl, fun X hX => by first | kernel_rfl | go_simp⟩) hS19 ?_
                  try simp only [Act.put, List.setIfInBounds_toArray, List.set_cons_zero, List.set_cons_succ]
                  refine wpAnyH_take (i := 6) (oi := ⟨some 79, _, _, _, _, _⟩) (v := .int .i64 130) rfl (by kernel_rfl) (by kernel_rfl) (by kernel_rfl) (fun _ _ _ h => h) (.inl ⟨by kernel_rfl, fun X hX => by first | kernel_rfl | go_simp⟩) hS19 ?_
                  try simp only [Act.put, List.setIfInBounds_toArray, List.set_cons_zero, List.set_cons_succ]
                  refine wpAnyH_ready (rs := [8]) (by kernel_rfl) (by simp) (AllReadyH.cons rfl (fun K hK => ?_) AllReadyH.nil)
                  obtain ⟨b0_20, b1_20⟩ := two_cells lb_19
                  have fb0_20 := lb_19.frozen 0
                  have fb1_20 := lb_19.frozen 1
                  have lp_20 := lies_put2 lb_19 (.slice A_19 3 c_19) (.int .i64 9)
                  go_simp
                  refine hK.out _ _ ((hS19.setCell (p := ⟨_, 0, none⟩) hle_16 _).setCell (p := ⟨_, 1, none⟩) hle_16 _) (fun hS20 => ?_)
                  clear hK K
                  try simp only [Act.put, List.setIfInBounds_toArray, List.set_cons_zero, List.set_cons_succ]
                  refine wpAnyH_ready (rs := [9]) (by kernel_rfl) (by simp) (AllReadyH.cons rfl (fun K hK => ?_) AllReadyH.nil)
                  go_simp
                  refine hK.out _ _ (hS20) (fun hS21 => ?_)
                  clear hK K
                  try simp only [Act.put, List.setIfInBounds_toArray, List.set_cons_zero, List.set_cons_succ]
                  refine wpAnyH_done (by kernel_rfl) ?_ _
                  go_wp2_with fail
                  go_meet
                  exact ⟨_, A_19, c_19, rfl, rfl, lp_20, ((hN_19.keep (keep_set ⟨_, 0, none⟩ _ (Nat.not_le_of_lt lb_18.lt))).keep (keep_set ⟨_, 1, none⟩ _ (Nat.not_le_of_lt lb_18.lt))).any, hS21⟩
              case rest =>
                obtain ⟨B15, A15, c15, rfl, rfl, hl, hn, hb⟩ := hcut
                rename World => V15
                replace HB1 := Lib.hid (HB1.out.below hb HB1.out.lt)
                replace HN1 := Lib.hid (HN1.out.below hb (Nat.le_refl _))
                replace HB3 := Lib.hid (HB3.out.below hb HB3.out.lt)
                replace HB5 := Lib.hid (HB5.out.below hb HB5.out.lt)
                replace HN5 := Lib.hid (HN5.out.below hb (Nat.le_refl _))
                replace HB7 := Lib.hid (HB7.out.below hb HB7.out.lt)
                replace HB9 := Lib.hid (HB9.out.below hb HB9.out.lt)
                replace HN9 := Lib.hid (HN9.out.below hb (Nat.le_refl _))
                replace HB11 := Lib.hid (HB11.out.below hb HB11.out.lt)
                replace HB13 := Lib.hid (HB13.out.below hb HB13.out.lt)
                replace HN13 := Lib.hid (HN13.out.below hb (Nat.le_refl _))
                replace HB := Lib.hid (HB.out.trans (hb.mono HB.out.size))
                have HB15 := Lib.hid hl
                have HN15 := Lib.hid hn
                clear hl hb b0 b1 hBlt HOP hn
                go_upto_region 10 with fail
                have HOP : Hid (∀ V, Below V15.heap.size V15 V → Calls Try.prog 10 #[.agg #[.slice A1 3 c1, .int .i64 9], .agg #[.int .i64 3, .int .i64 0]] V (fun e w' => e = .returned (.tuple #[.agg #[.int .i64 0, .int .i64 0], .int .i64 130]) ∧ Below V.heap.size V w')) := Lib.hid fun V hV => by
                  have h := wPeer_any f0N A1 3 c1 9 (3, 0) V (by kernel_rfl) (HN1.out.below hV (Nat.le_refl _))
                  rw [show peerNV f0N (3, 0) = ((0, 0), 130) by kernel_rfl] at h
                  exact h
                have b0 := HB1.out.cell 0
                have b1 := HB1.out.cell 1
                simp at b0 b1
                have hBlt := HB1.out.lt
                go_cut [17, 18] (fun y z wx => ∃ B : Nat, y = .pointer (some ⟨B, 0, none⟩) ∧ z = .int .i64 130 ∧ Lies wx B 26 #[.int .i64 0, .int .i64 0] ∧ Below V15.heap.size V15 wx)
                case first => as_aux_lemma =>
                  refine wp_region_held_drew (S := fun V => Below V15.heap.size V15 V) rfl (Below.refl _ _).drew (fun hS0 => ?_)
                  change wpAnyH _ _ _ _ _ 9 (Array.replicate 9 false) _ _
                  refine wpAnyH_take (i := 0) (oi := ⟨some 81, _, _, _, _, _⟩) (v := .agg #[.slice A1 3 c1, .int .i64 9]) rfl (by kernel_rfl) (by kernel_rfl) (by kernel_rfl) (fun _ _ _ h => h) (.inl ⟨by kernel_rfl, fun X hX => by have n0 := (hX.cell (p := ⟨B1, 0, none⟩) hBlt).trans b0; have n1 := (hX.cell (p := ⟨B1, 1, none⟩) hBlt).trans b1; go_simp⟩) hS0 ?_
                  try simp only [Act.put, List.setIfInBounds_toArray, List.set_cons_zero, List.set_cons_succ]
                  refine wpAnyH_ready (rs := [1, 6]) (by kernel_rfl) (by simp) (AllReadyH.cons rfl (fun K hK => ?_) (AllReadyH.cons rfl (fun K hK => ?_) AllReadyH.nil))
                  · go_simp
                    refine (at_any 3 0 _).mono ?_
                    rintro e u_1 ⟨rfl, hq_1⟩
                    have hB_1 : Below V15.heap.size V15 u_1 := hS0.trans (hq_1.mono hS0.size)
                    refine hK.out _ _ (hB_1) (fun hS1 => ?_)
                    clear hK K
                    try simp only [Act.put, List.setIfInBounds_toArray, List.set_cons_zero, List.set_cons_succ]
                    refine wpAnyH_ready (rs := [2, 6]) (by kernel_rfl) (by simp) (AllReadyH.cons rfl (fun K hK => ?_) (AllReadyH.cons rfl (fun K hK => ?_) AllReadyH.nil))
                    · go_simp
                      refine (HOP.out _ hS1).mono ?_
                      rintro e u_2 ⟨rfl, hq_2⟩
                      have hB_2 : Below V15.heap.size V15 u_2 := hS1.trans (hq_2.mono hS1.size)
                      refine hK.out _ _ (hB_2) (fun hS2 => ?_)
                      clear hK K
                      try simp only [Act.put, List.setIfInBounds_toArray, List.set_cons_zero, List.set_cons_succ]
                      refine wpAnyH_take (i := 3) (oi := ⟨some 80, _, _, _, _, _⟩) (v := .tuple #[.agg #[.int .i64 0, .int .i64 0], .int .i64 130]) rfl (by kernel_rfl) (by kernel_rfl) (by kernel_rfl) (fun _ _ _ h => h) (.inl ⟨by kernel_rfl, fun X hX => by first | kernel_rfl | go_simp⟩) hS2 ?_
                      try simp only [Act.put, List.setIfInBounds_toArray, List.set_cons_zero, List.set_cons_succ]
                      refine wpAnyH_take (i := 4) (oi := ⟨some 84, _, _, _, _, _⟩) (v := .agg #[.int .i64 0, .int .i64 0]) rfl (by kernel_rfl) (by kernel_rfl) (by kernel_rfl) (fun _ _ _ h => h) (.inl ⟨by kernel_rfl, fun X hX => by first | kernel_rfl | go_simp⟩) hS2 ?_
                      try simp only [Act.put, List.setIfInBounds_toArray, List.set_cons_zero, List.set_cons_succ]
                      refine wpAnyH_take (i := 5) (oi := ⟨some 85, _, _, _, _, _⟩) (v := .int .i64 130) rfl (by kernel_rfl) (by kernel_rfl) (by kernel_rfl) (fun _ _ _ h => h) (.inl ⟨by kernel_rfl, fun X hX => by first | kernel_rfl | go_simp⟩) hS2 ?_
                      try simp only [Act.put, List.setIfInBounds_toArray, List.set_cons_zero, List.set_cons_succ]
                      refine wpAnyH_ready (rs := [6]) (by kernel_rfl) (by simp) (AllReadyH.cons rfl (fun K hK => ?_) AllReadyH.nil)
                      go_simp
                      have lb_3 : Lies ((u_2).alloc (.cells #[.int .i64 0, .int .i64 0] 26)) u_2.heap.size 26 #[.int .i64 0, .int .i64 0] := Lies.new (u_2) _ _
                      have hle_3 : V15.heap.size ≤ u_2.heap.size := hS2.size
                      have hS_3 : Below V15.heap.size V15 (u_2) := hS2
                      refine hK.out _ _ (hS2.alloc hS2.size _) (fun hS3 => ?_)
                      clear hK K
                      try simp only [Act.put, List.setIfInBounds_toArray, List.set_cons_zero, List.set_cons_succ]
                      refine wpAnyH_ready (rs := [7]) (by kernel_rfl) (by simp) (AllReadyH.cons rfl (fun K hK => ?_) AllReadyH.nil)
                      obtain ⟨b0_4, b1_4⟩ := two_cells lb_3
                      have fb0_4 := lb_3.frozen 0
                      have fb1_4 := lb_3.frozen 1
                      have lp_4 : Lies ((u_2).alloc (.cells #[.int .i64 0, .int .i64 0] 26)) u_2.heap.size 26 #[.int .i64 0, .int .i64 0] := Lies.new (u_2) _ _
                      go_simp
                      refine hK.out _ _ (hS_3.alloc hS_3.size _) (fun hS4 => ?_)
                      clear hK K
                      try simp only [Act.put, List.setIfInBounds_toArray, List.set_cons_zero, List.set_cons_succ]
                      refine wpAnyH_ready (rs := [8]) (by kernel_rfl) (by simp) (AllReadyH.cons rfl (fun K hK => ?_) AllReadyH.nil)
                      go_simp
                      refine hK.out _ _ (hS4) (fun hS5 => ?_)
                      clear hK K
                      try simp only [Act.put, List.setIfInBounds_toArray, List.set_cons_zero, List.set_cons_succ]
                      refine wpAnyH_done (by kernel_rfl) ?_ _
                      go_wp2_with fail
                      go_meet
                      exact ⟨_, rfl, rfl, lp_4, hS5⟩
                    · go_simp
                      have lb_6 : Lies ((u_1).alloc (.cells #[.int .i64 0, .int .i64 0] 26)) u_1.heap.size 26 #[.int .i64 0, .int .i64 0] := Lies.new (u_1) _ _
                      have hle_6 : V15.heap.size ≤ u_1.heap.size := hS1.size
                      have hS_6 : Below V15.heap.size V15 (u_1) := hS1
                      refine hK.out _ _ (hS1.alloc hS1.size _) (fun hS6 => ?_)
                      clear hK K
                      try simp only [Act.put, List.setIfInBounds_toArray, List.set_cons_zero, List.set_cons_succ]
                      refine wpAnyH_ready (rs := [2]) (by kernel_rfl) (by simp) (AllReadyH.cons rfl (fun K hK => ?_) AllReadyH.nil)
                      go_simp
                      refine (HOP.out _ hS6).mono ?_
                      rintro e u_7 ⟨rfl, hq_7⟩
                      have hB_7 : Below V15.heap.size V15 u_7 := hS6.trans (hq_7.mono hS6.size)
                      have lb_7 := lb_6.below hq_7 lb_6.lt
                      refine hK.out _ _ (hB_7) (fun hS7 => ?_)
                      clear hK K
                      try simp only [Act.put, List.setIfInBounds_toArray, List.set_cons_zero, List.set_cons_succ]
                      refine wpAnyH_take (i := 3) (oi := ⟨some 80, _, _, _, _, _⟩) (v := .tuple #[.agg #[.int .i64 0, .int .i64 0], .int .i64 130]) rfl (by kernel_rfl) (by kernel_rfl) (by kernel_rfl) (fun _ _ _ h => h) (.inl ⟨by kernel_rfl, fun X hX => by first | kernel_rfl | go_simp⟩) hS7 ?_
                      try simp only [Act.put, List.setIfInBounds_toArray, List.set_cons_zero, List.set_cons_succ]
                      refine wpAnyH_take (i := 4) (oi := ⟨some 84, _, _, _, _, _⟩) (v := .agg #[.int .i64 0, .int .i64 0]) rfl (by kernel_rfl) (by kernel_rfl) (by kernel_rfl) (fun _ _ _ h => h) (.inl ⟨by kernel_rfl, fun X hX => by first | kernel_rfl | go_simp⟩) hS7 ?_
                      try simp only [Act.put, List.setIfInBounds_toArray, List.set_cons_zero, List.set_cons_succ]
                      refine wpAnyH_take (i := 5) (oi := ⟨some 85, _, _, _, _, _⟩) (v := .int .i64 130) rfl (by kernel_rfl) (by kernel_rfl) (by kernel_rfl) (fun _ _ _ h => h) (.inl ⟨by kernel_rfl, fun X hX => by first | kernel_rfl | go_simp⟩) hS7 ?_
                      try simp only [Act.put, List.setIfInBounds_toArray, List.set_cons_zero, List.set_cons_succ]
                      refine wpAnyH_ready (rs := [7]) (by kernel_rfl) (by simp) (AllReadyH.cons rfl (fun K hK => ?_) AllReadyH.nil)
                      obtain ⟨b0_8, b1_8⟩ := two_cells lb_7
                      have fb0_8 := lb_7.frozen 0
                      have fb1_8 := lb_7.frozen 1
                      have lp_8 := lies_put2 lb_7 (.int .i64 0) (.int .i64 0)
                      go_simp
                      refine hK.out _ _ ((hS7.setCell (p := ⟨_, 0, none⟩) hle_6 _).setCell (p := ⟨_, 1, none⟩) hle_6 _) (fun hS8 => ?_)
                      clear hK K
                      try simp only [Act.put, List.setIfInBounds_toArray, List.set_cons_zero, List.set_cons_succ]
                      refine wpAnyH_ready (rs := [8]) (by kernel_rfl) (by simp) (AllReadyH.cons rfl (fun K hK => ?_) AllReadyH.nil)
                      go_simp
                      refine hK.out _ _ (hS8) (fun hS9 => ?_)
                      clear hK K
                      try simp only [Act.put, List.setIfInBounds_toArray, List.set_cons_zero, List.set_cons_succ]
                      refine wpAnyH_done (by kernel_rfl) ?_ _
                      go_wp2_with fail
                      go_meet
                      exact ⟨_, rfl, rfl, lp_8, hS9⟩
                  · go_simp
                    have lb_10 : Lies ((V15.drew).alloc (.cells #[.int .i64 0, .int .i64 0] 26)) V15.heap.size 26 #[.int .i64 0, .int .i64 0] := Lies.new (V15.drew) _ _
                    have hle_10 : V15.heap.size ≤ V15.heap.size := hS0.size
                    have hS_10 : Below V15.heap.size V15 (V15.drew) := hS0
                    refine hK.out _ _ (hS0.alloc hS0.size _) (fun hS10 => ?_)
                    clear hK K
                    try simp only [Act.put, List.setIfInBounds_toArray, List.set_cons_zero, List.set_cons_succ]
                    refine wpAnyH_ready (rs := [1]) (by kernel_rfl) (by simp) (AllReadyH.cons rfl (fun K hK => ?_) AllReadyH.nil)
                    go_simp
                    refine (at_any 3 0 _).mono ?_
                    rintro e u_11 ⟨rfl, hq_11⟩
                    have hB_11 : Below V15.heap.size V15 u_11 := hS10.trans (hq_11.mono hS10.size)
                    have lb_11 := lb_10.below hq_11 lb_10.lt
                    refine hK.out _ _ (hB_11) (fun hS11 => ?_)
                    clear hK K
                    try simp only [Act.put, List.setIfInBounds_toArray, List.set_cons_zero, List.set_cons_succ]
                    refine wpAnyH_ready (rs := [2]) (by kernel_rfl) (by simp) (AllReadyH.cons rfl (fun K hK => ?_) AllReadyH.nil)
                    go_simp
                    refine (HOP.out _ hS11).mono ?_
                    rintro e u_12 ⟨rfl, hq_12⟩
                    have hB_12 : Below V15.heap.size V15 u_12 := hS11.trans (hq_12.mono hS11.size)
                    have lb_12 := lb_11.below hq_12 lb_11.lt
                    refine hK.out _ _ (hB_12) (fun hS12 => ?_)
                    clear hK K
                    try simp only [Act.put, List.setIfInBounds_toArray, List.set_cons_zero, List.set_cons_succ]
                    refine wpAnyH_take (i := 3) (oi := ⟨some 80, _, _, _, _, _⟩) (v := .tuple #[.agg #[.int .i64 0, .int .i64 0], .int .i64 130]) rfl (by kernel_rfl) (by kernel_rfl) (by kernel_rfl) (fun _ _ _ h => h) (.inl ⟨by kernel_rfl, fun X hX => by first | kernel_rfl | go_simp⟩) hS12 ?_
                    try simp only [Act.put, List.setIfInBounds_toArray, List.set_cons_zero, List.set_cons_succ]
                    refine wpAnyH_take (i := 4) (oi := ⟨some 84, _, _, _, _, _⟩) (v := .agg #[.int .i64 0, .int .i64 0]) rfl (by kernel_rfl) (by kernel_rfl) (by kernel_rfl) (fun _ _ _ h => h) (.inl ⟨by kernel_rfl, fun X hX => by first | kernel_rfl | go_simp⟩) hS12 ?_
                    try simp only [Act.put, List.setIfInBounds_toArray, List.set_cons_zero, List.set_cons_succ]
                    refine wpAnyH_take (i := 5) (oi := ⟨some 85, _, _, _, _, _⟩) (v := .int .i64 130) rfl (by kernel_rfl) (by kernel_rfl) (by kernel_rfl) (fun _ _ _ h => h) (.inl ⟨by kernel_rfl, fun X hX => by first | kernel_rfl | go_simp⟩) hS12 ?_
                    try simp only [Act.put, List.setIfInBounds_toArray, List.set_cons_zero, List.set_cons_succ]
                    refine wpAnyH_ready (rs := [7]) (by kernel_rfl) (by simp) (AllReadyH.cons rfl (fun K hK => ?_) AllReadyH.nil)
                    obtain ⟨b0_13, b1_13⟩ := two_cells lb_12
                    have fb0_13 := lb_12.frozen 0
                    have fb1_13 := lb_12.frozen 1
                    have lp_13 := lies_put2 lb_12 (.int .i64 0) (.int .i64 0)
                    go_simp
                    refine hK.out _ _ ((hS12.setCell (p := ⟨_, 0, none⟩) hle_10 _).setCell (p := ⟨_, 1, none⟩) hle_10 _) (fun hS13 => ?_)
                    clear hK K
                    try simp only [Act.put, List.setIfInBounds_toArray, List.set_cons_zero, List.set_cons_succ]
                    refine wpAnyH_ready (rs := [8]) (by kernel_rfl) (by simp) (AllReadyH.cons rfl (fun K hK => ?_) AllReadyH.nil)
                    go_simp
                    refine hK.out _ _ (hS13) (fun hS14 => ?_)
                    clear hK K
                    try simp only [Act.put, List.setIfInBounds_toArray, List.set_cons_zero, List.set_cons_succ]
                    refine wpAnyH_done (by kernel_rfl) ?_ _
                    go_wp2_with fail
                    go_meet
                    exact ⟨_, rfl, rfl, lp_13, hS14⟩
                case rest =>
                  obtain ⟨B17, rfl, rfl, hl, hb⟩ := hcut
                  rename World => V17
                  replace HB1 := Lib.hid (HB1.out.below hb HB1.out.lt)
                  replace HN1 := Lib.hid (HN1.out.below hb (Nat.le_refl _))
                  replace HB3 := Lib.hid (HB3.out.below hb HB3.out.lt)
                  replace HB5 := Lib.hid (HB5.out.below hb HB5.out.lt)
                  replace HN5 := Lib.hid (HN5.out.below hb (Nat.le_refl _))
                  replace HB7 := Lib.hid (HB7.out.below hb HB7.out.lt)
                  replace HB9 := Lib.hid (HB9.out.below hb HB9.out.lt)
                  replace HN9 := Lib.hid (HN9.out.below hb (Nat.le_refl _))
                  replace HB11 := Lib.hid (HB11.out.below hb HB11.out.lt)
                  replace HB13 := Lib.hid (HB13.out.below hb HB13.out.lt)
                  replace HN13 := Lib.hid (HN13.out.below hb (Nat.le_refl _))
                  replace HB15 := Lib.hid (HB15.out.below hb HB15.out.lt)
                  replace HN15 := Lib.hid (HN15.out.below hb (Nat.le_refl _))
                  replace HB := Lib.hid (HB.out.trans (hb.mono HB.out.size))
                  have HB17 := Lib.hid hl
                  clear hl hb b0 b1 hBlt HOP
                  go_upto_region 11 with fail
                  have HOP : Hid (∀ V, Below V17.heap.size V17 V → Calls Try.prog 16 #[.agg #[.slice A9 3 c9, .int .i64 9], .agg #[.int .i64 2, .int .i64 0], .agg #[.int .i64 2, .int .i64 1]] V (fun e w' => ∃ A c, e = .returned (.tuple #[.agg #[.slice A 3 c, .int .i64 9], .int .i64 0]) ∧ NdsIn w' (fun g => V.heap.size ≤ g) f3N A ∧ Below V.heap.size V w')) := Lib.hid fun V hV => by
                    have hr : joinNV f2N (2, 0) (2, 1) = (f3N, 0) := by kernel_rfl
                    have h := wjoin_any f2N A9 3 c9 9 (2, 0) (2, 1) V (by kernel_rfl) (by decide) (few_lit _ (by kernel_rfl)) (HN9.out.below hV (Nat.le_refl _))
                    rw [hr] at h
                    exact h.mono fun _ _ h => givesLit h (by kernel_rfl) rfl
                  have b0 := HB9.out.cell 0
                  have b1 := HB9.out.cell 1
                  simp at b0 b1
                  have hBlt := HB9.out.lt
                  go_cut [19, 20] (fun y z wx => ∃ (B : Nat) (A : Option Addr) (c : Nat), y = .pointer (some ⟨B, 0, none⟩) ∧ z = .int .i64 0 ∧ Lies wx B 24 #[.slice A 3 c, .int .i64 9] ∧ NdsIn wx AnyB f3N A ∧ Below V17.heap.size V17 wx)
                  case first => as_aux_lemma =>
                    refine wp_region_held_drew (S := fun V => Below V17.heap.size V17 V) rfl (Below.refl _ _).drew (fun hS0 => ?_)
                    change wpAnyH _ _ _ _ _ 10 (Array.replicate 10 false) _ _
                    refine wpAnyH_take (i := 0) (oi := ⟨some 87, _, _, _, _, _⟩) (v := .agg #[.slice A9 3 c9, .int .i64 9]) rfl (by kernel_rfl) (by kernel_rfl) (by kernel_rfl) (fun _ _ _ h => h) (.inl ⟨by kernel_rfl, fun X hX => by have n0 := (hX.cell (p := ⟨B9, 0, none⟩) hBlt).trans b0; have n1 := (hX.cell (p := ⟨B9, 1, none⟩) hBlt).trans b1; go_simp⟩) hS0 ?_
                    try simp only [Act.put, List.setIfInBounds_toArray, List.set_cons_zero, List.set_cons_succ]
                    refine wpAnyH_ready (rs := [1, 7]) (by kernel_rfl) (by simp) (AllReadyH.cons rfl (fun K hK => ?_) (AllReadyH.cons rfl (fun K hK => ?_) AllReadyH.nil))
                    · go_simp
                      refine (at_any 2 0 _).mono ?_
                      rintro e u_1 ⟨rfl, hq_1⟩
                      have hB_1 : Below V17.heap.size V17 u_1 := hS0.trans (hq_1.mono hS0.size)
                      refine hK.out _ _ (hB_1) (fun hS1 => ?_)
                      clear hK K
                      try simp only [Act.put, List.setIfInBounds_toArray, List.set_cons_zero, List.set_cons_succ]
                      refine wpAnyH_ready (rs := [2, 7]) (by kernel_rfl) (by simp) (AllReadyH.cons rfl (fun K hK => ?_) (AllReadyH.cons rfl (fun K hK => ?_) AllReadyH.nil))
                      · go_simp
                        refine (at_any 2 1 _).mono ?_
                        rintro e u_2 ⟨rfl, hq_2⟩
                        have hB_2 : Below V17.heap.size V17 u_2 := hS1.trans (hq_2.mono hS1.size)
                        refine hK.out _ _ (hB_2) (fun hS2 => ?_)
                        clear hK K
                        try simp only [Act.put, List.setIfInBounds_toArray, List.set_cons_zero, List.set_cons_succ]
                        refine wpAnyH_ready (rs := [3, 7]) (by kernel_rfl) (by simp) (AllReadyH.cons rfl (fun K hK => ?_) (AllReadyH.cons rfl (fun K hK => ?_) AllReadyH.nil))
                        · go_simp
                          refine (HOP.out _ hS2).mono ?_
                          rintro e u_3 ⟨A_3, c_3, rfl, hN_3, hq_3⟩
                          have hB_3 : Below V17.heap.size V17 u_3 := hS2.trans (hq_3.mono hS2.size)
                          refine hK.out _ _ (hB_3) (fun hS3 => ?_)
                          clear hK K
                          try simp only [Act.put, List.setIfInBounds_toArray, List.set_cons_zero, List.set_cons_succ]
                          refine wpAnyH_take (i := 4) (oi := ⟨some 86, _, _, _, _, _⟩) (v := .tuple #[.agg #[.slice A_3 3 c_3, .int .i64 9], .int .i64 0]) rfl (by kernel_rfl) (by kernel_rfl) (by kernel_rfl) (fun _ _ _ h => h) (.inl ⟨by kernel_rfl, fun X hX => by first | kernel_rfl | go_simp⟩) hS3 ?_
                          try simp only [Act.put, List.setIfInBounds_toArray, List.set_cons_zero, List.set_cons_succ]
                          refine wpAnyH_take (i := 5) (oi := ⟨some 91, _, _, _, _, _⟩) (v := .agg #[.slice A_3 3 c_3, .int .i64 9]) rfl (by kernel_rfl) (by kernel_rfl) (by kernel_rfl) (fun _ _ _ h => h) (.inl ⟨by kernel_rfl, fun X hX => by first | kernel_rfl | go_simp⟩) hS3 ?_
                          try simp only [Act.put, List.setIfInBounds_toArray, List.set_cons_zero, List.set_cons_succ]
                          refine wpAnyH_take (i := 6) (oi := ⟨some 92, _, _, _, _, _⟩) (v := .int .i64 0) rfl (by kernel_rfl) (by kernel_rfl) (by kernel_rfl) (fun _ _ _ h => h) (.inl ⟨by kernel_rfl, fun X hX => by first | kernel_rfl | go_simp⟩) hS3 ?_
                          try simp only [Act.put, List.setIfInBounds_toArray, List.set_cons_zero, List.set_cons_succ]
                          refine wpAnyH_ready (rs := [7]) (by kernel_rfl) (by simp) (AllReadyH.cons rfl (fun K hK => ?_) AllReadyH.nil)
                          go_simp
                          have lb_4 : Lies ((u_3).alloc (.cells #[.slice none 0 0, .int .i64 0] 24)) u_3.heap.size 24 #[.slice none 0 0, .int .i64 0] := Lies.new (u_3) _ _
                          have hle_4 : V17.heap.size ≤ u_3.heap.size := hS3.size
                          have hS_4 : Below V17.heap.size V17 (u_3) := hS3
                          refine hK.out _ _ (hS3.alloc hS3.size _) (fun hS4 => ?_)
                          clear hK K
                          try simp only [Act.put, List.setIfInBounds_toArray, List.set_cons_zero, List.set_cons_succ]
                          refine wpAnyH_ready (rs := [8]) (by kernel_rfl) (by simp) (AllReadyH.cons rfl (fun K hK => ?_) AllReadyH.nil)
                          obtain ⟨b0_5, b1_5⟩ := two_cells lb_4
                          have fb0_5 := lb_4.frozen 0
                          have fb1_5 := lb_4.frozen 1
                          have lp_5 : Lies ((u_3).alloc (.cells #[.slice A_3 3 c_3, .int .i64 9] 24)) u_3.heap.size 24 #[.slice A_3 3 c_3, .int .i64 9] := Lies.new (u_3) _ _
                          go_simp
                          refine hK.out _ _ (hS_4.alloc hS_4.size _) (fun hS5 => ?_)
                          clear hK K
                          try simp only [Act.put, List.setIfInBounds_toArray, List.set_cons_zero, List.set_cons_succ]
                          refine wpAnyH_ready (rs := [9]) (by kernel_rfl) (by simp) (AllReadyH.cons rfl (fun K hK => ?_) AllReadyH.nil)
                          go_simp
                          refine hK.out _ _ (hS5) (fun hS6 => ?_)
                          clear hK K
                          try simp only [Act.put, List.setIfInBounds_toArray, List.set_cons_zero, List.set_cons_succ]
                          refine wpAnyH_done (by kernel_rfl) ?_ _
                          go_wp2_with fail
                          go_meet
                          exact ⟨_, A_3, c_3, rfl, rfl, lp_5, hN_3.any.below ((Below.refl _ _).alloc (Nat.le_refl _) _) (Nat.le_refl _), hS6⟩
                        · go_simp
                          have lb_7 : Lies ((u_2).alloc (.cells #[.slice none 0 0, .int .i64 0] 24)) u_2.heap.size 24 #[.slice none 0 0, .int .i64 0] := Lies.new (u_2) _ _
                          have hle_7 : V17.heap.size ≤ u_2.heap.size := hS2.size
                          have hS_7 : Below V17.heap.size V17 (u_2) := hS2
                          refine hK.out _ _ (hS2.alloc hS2.size _) (fun hS7 => ?_)
                          clear hK K
                          try simp only [Act.put, List.setIfInBounds_toArray, List.set_cons_zero, List.set_cons_succ]
                          refine wpAnyH_ready (rs := [3]) (by kernel_rfl) (by simp) (AllReadyH.cons rfl (fun K hK => ?_) AllReadyH.nil)
                          go_simp
                          refine (HOP.out _ hS7).mono ?_
                          rintro e u_8 ⟨A_8, c_8, rfl, hN_8, hq_8⟩
                          have hB_8 : Below V17.heap.size V17 u_8 := hS7.trans (hq_8.mono hS7.size)
                          have lb_8 := lb_7.below hq_8 lb_7.lt
                          refine hK.out _ _ (hB_8) (fun hS8 => ?_)
                          clear hK K
                          try simp only [Act.put, List.setIfInBounds_toArray, List.set_cons_zero, List.set_cons_succ]
                          refine wpAnyH_take (i := 4) (oi := ⟨some 86, _, _, _, _, _⟩) (v := .tuple #[.agg #[.slice A_8 3 c_8, .int .i64 9], .int .i64 0]) rfl (by kernel_rfl) (by kernel_rfl) (by kernel_rfl) (fun _ _ _ h => h) (.inl ⟨by kernel_rfl, fun X hX => by first | kernel_rfl | go_simp⟩) hS8 ?_
                          try simp only [Act.put, List.setIfInBounds_toArray, List.set_cons_zero, List.set_cons_succ]
                          refine wpAnyH_take (i := 5) (oi := ⟨some 91, _, _, _, _, _⟩) (v := .agg #[.slice A_8 3 c_8, .int .i64 9]) rfl (by kernel_rfl) (by kernel_rfl) (by kernel_rfl) (fun _ _ _ h => h) (.inl ⟨by kernel_rfl, fun X hX => by first | kernel_rfl | go_simp⟩) hS8 ?_
                          try simp only [Act.put, List.setIfInBounds_toArray, List.set_cons_zero, List.set_cons_succ]
                          refine wpAnyH_take (i := 6) (oi := ⟨some 92, _, _, _, _, _⟩) (v := .int .i64 0) rfl (by kernel_rfl) (by kernel_rfl) (by kernel_rfl) (fun _ _ _ h => h) (.inl ⟨by kernel_rfl, fun X hX => by first | kernel_rfl | go_simp⟩) hS8 ?_
                          try simp only [Act.put, List.setIfInBounds_toArray, List.set_cons_zero, List.set_cons_succ]
                          refine wpAnyH_ready (rs := [8]) (by kernel_rfl) (by simp) (AllReadyH.cons rfl (fun K hK => ?_) AllReadyH.nil)
                          obtain ⟨b0_9, b1_9⟩ := two_cells lb_8
                          have fb0_9 := lb_8.frozen 0
                          have fb1_9 := lb_8.frozen 1
                          have lp_9 := lies_put2 lb_8 (.slice A_8 3 c_8) (.int .i64 9)
                          go_simp
                          refine hK.out _ _ ((hS8.setCell (p := ⟨_, 0, none⟩) hle_7 _).setCell (p := ⟨_, 1, none⟩) hle_7 _) (fun hS9 => ?_)
                          clear hK K
                          try simp only [Act.put, List.setIfInBounds_toArray, List.set_cons_zero, List.set_cons_succ]
                          refine wpAnyH_ready (rs := [9]) (by kernel_rfl) (by simp) (AllReadyH.cons rfl (fun K hK => ?_) AllReadyH.nil)
                          go_simp
                          refine hK.out _ _ (hS9) (fun hS10 => ?_)
                          clear hK K
                          try simp only [Act.put, List.setIfInBounds_toArray, List.set_cons_zero, List.set_cons_succ]
                          refine wpAnyH_done (by kernel_rfl) ?_ _
                          go_wp2_with fail
                          go_meet
                          exact ⟨_, A_8, c_8, rfl, rfl, lp_9, ((hN_8.keep (keep_set ⟨_, 0, none⟩ _ (Nat.not_le_of_lt lb_7.lt))).keep (keep_set ⟨_, 1, none⟩ _ (Nat.not_le_of_lt lb_7.lt))).any, hS10⟩
                      · go_simp
                        have lb_11 : Lies ((u_1).alloc (.cells #[.slice none 0 0, .int .i64 0] 24)) u_1.heap.size 24 #[.slice none 0 0, .int .i64 0] := Lies.new (u_1) _ _
                        have hle_11 : V17.heap.size ≤ u_1.heap.size := hS1.size
                        have hS_11 : Below V17.heap.size V17 (u_1) := hS1
                        refine hK.out _ _ (hS1.alloc hS1.size _) (fun hS11 => ?_)
                        clear hK K
                        try simp only [Act.put, List.setIfInBounds_toArray, List.set_cons_zero, List.set_cons_succ]
                        refine wpAnyH_ready (rs := [2]) (by kernel_rfl) (by simp) (AllReadyH.cons rfl (fun K hK => ?_) AllReadyH.nil)
                        go_simp
                        refine (at_any 2 1 _).mono ?_
                        rintro e u_12 ⟨rfl, hq_12⟩
                        have hB_12 : Below V17.heap.size V17 u_12 := hS11.trans (hq_12.mono hS11.size)
                        have lb_12 := lb_11.below hq_12 lb_11.lt
                        refine hK.out _ _ (hB_12) (fun hS12 => ?_)
                        clear hK K
                        try simp only [Act.put, List.setIfInBounds_toArray, List.set_cons_zero, List.set_cons_succ]
                        refine wpAnyH_ready (rs := [3]) (by kernel_rfl) (by simp) (AllReadyH.cons rfl (fun K hK => ?_) AllReadyH.nil)
                        go_simp
                        refine (HOP.out _ hS12).mono ?_
                        rintro e u_13 ⟨A_13, c_13, rfl, hN_13, hq_13⟩
                        have hB_13 : Below V17.heap.size V17 u_13 := hS12.trans (hq_13.mono hS12.size)
                        have lb_13 := lb_12.below hq_13 lb_12.lt
                        refine hK.out _ _ (hB_13) (fun hS13 => ?_)
                        clear hK K
                        try simp only [Act.put, List.setIfInBounds_toArray, List.set_cons_zero, List.set_cons_succ]
                        refine wpAnyH_take (i := 4) (oi := ⟨some 86, _, _, _, _, _⟩) (v := .tuple #[.agg #[.slice A_13 3 c_13, .int .i64 9], .int .i64 0]) rfl (by kernel_rfl) (by kernel_rfl) (by kernel_rfl) (fun _ _ _ h => h) (.inl ⟨by kernel_rfl, fun X hX => by first | kernel_rfl | go_simp⟩) hS13 ?_
                        try simp only [Act.put, List.setIfInBounds_toArray, List.set_cons_zero, List.set_cons_succ]
                        refine wpAnyH_take (i := 5) (oi := ⟨some 91, _, _, _, _, _⟩) (v := .agg #[.slice A_13 3 c_13, .int .i64 9]) rfl (by kernel_rfl) (by kernel_rfl) (by kernel_rfl) (fun _ _ _ h => h) (.inl ⟨by kernel_rfl, fun X hX => by first | kernel_rfl | go_simp⟩) hS13 ?_
                        try simp only [Act.put, List.setIfInBounds_toArray, List.set_cons_zero, List.set_cons_succ]
                        refine wpAnyH_take (i := 6) (oi := ⟨some 92, _, _, _, _, _⟩) (v := .int .i64 0) rfl (by kernel_rfl) (by kernel_rfl) (by kernel_rfl) (fun _ _ _ h => h) (.inl ⟨by kernel_rfl, fun X hX => by first | kernel_rfl | go_simp⟩) hS13 ?_
                        try simp only [Act.put, List.setIfInBounds_toArray, List.set_cons_zero, List.set_cons_succ]
                        refine wpAnyH_ready (rs := [8]) (by kernel_rfl) (by simp) (AllReadyH.cons rfl (fun K hK => ?_) AllReadyH.nil)
                        obtain ⟨b0_14, b1_14⟩ := two_cells lb_13
                        have fb0_14 := lb_13.frozen 0
                        have fb1_14 := lb_13.frozen 1
                        have lp_14 := lies_put2 lb_13 (.slice A_13 3 c_13) (.int .i64 9)
                        go_simp
                        refine hK.out _ _ ((hS13.setCell (p := ⟨_, 0, none⟩) hle_11 _).setCell (p := ⟨_, 1, none⟩) hle_11 _) (fun hS14 => ?_)
                        clear hK K
                        try simp only [Act.put, List.setIfInBounds_toArray, List.set_cons_zero, List.set_cons_succ]
                        refine wpAnyH_ready (rs := [9]) (by kernel_rfl) (by simp) (AllReadyH.cons rfl (fun K hK => ?_) AllReadyH.nil)
                        go_simp
                        refine hK.out _ _ (hS14) (fun hS15 => ?_)
                        clear hK K
                        try simp only [Act.put, List.setIfInBounds_toArray, List.set_cons_zero, List.set_cons_succ]
                        refine wpAnyH_done (by kernel_rfl) ?_ _
                        go_wp2_with fail
                        go_meet
                        exact ⟨_, A_13, c_13, rfl, rfl, lp_14, ((hN_13.keep (keep_set ⟨_, 0, none⟩ _ (Nat.not_le_of_lt lb_12.lt))).keep (keep_set ⟨_, 1, none⟩ _ (Nat.not_le_of_lt lb_12.lt))).any, hS15⟩
                    · go_simp
                      have lb_16 : Lies ((V17.drew).alloc (.cells #[.slice none 0 0, .int .i64 0] 24)) V17.heap.size 24 #[.slice none 0 0, .int .i64 0] := Lies.new (V17.drew) _ _
                      have hle_16 : V17.heap.size ≤ V17.heap.size := hS0.size
                      have hS_16 : Below V17.heap.size V17 (V17.drew) := hS0
                      refine hK.out _ _ (hS0.alloc hS0.size _) (fun hS16 => ?_)
                      clear hK K
                      try simp only [Act.put, List.setIfInBounds_toArray, List.set_cons_zero, List.set_cons_succ]
                      refine wpAnyH_ready (rs := [1]) (by kernel_rfl) (by simp) (AllReadyH.cons rfl (fun K hK => ?_) AllReadyH.nil)
                      go_simp
                      refine (at_any 2 0 _).mono ?_
                      rintro e u_17 ⟨rfl, hq_17⟩
                      have hB_17 : Below V17.heap.size V17 u_17 := hS16.trans (hq_17.mono hS16.size)
                      have lb_17 := lb_16.below hq_17 lb_16.lt
                      refine hK.out _ _ (hB_17) (fun hS17 => ?_)
                      clear hK K
                      try simp only [Act.put, List.setIfInBounds_toArray, List.set_cons_zero, List.set_cons_succ]
                      refine wpAnyH_ready (rs := [2]) (by kernel_rfl) (by simp) (AllReadyH.cons rfl (fun K hK => ?_) AllReadyH.nil)
                      go_simp
                      refine (at_any 2 1 _).mono ?_
                      rintro e u_18 ⟨rfl, hq_18⟩
                      have hB_18 : Below V17.heap.size V17 u_18 := hS17.trans (hq_18.mono hS17.size)
                      have lb_18 := lb_17.below hq_18 lb_17.lt
                      refine hK.out _ _ (hB_18) (fun hS18 => ?_)
                      clear hK K
                      try simp only [Act.put, List.setIfInBounds_toArray, List.set_cons_zero, List.set_cons_succ]
                      refine wpAnyH_ready (rs := [3]) (by kernel_rfl) (by simp) (AllReadyH.cons rfl (fun K hK => ?_) AllReadyH.nil)
                      go_simp
                      refine (HOP.out _ hS18).mono ?_
                      rintro e u_19 ⟨A_19, c_19, rfl, hN_19, hq_19⟩
                      have hB_19 : Below V17.heap.size V17 u_19 := hS18.trans (hq_19.mono hS18.size)
                      have lb_19 := lb_18.below hq_19 lb_18.lt
                      refine hK.out _ _ (hB_19) (fun hS19 => ?_)
                      clear hK K
                      try simp only [Act.put, List.setIfInBounds_toArray, List.set_cons_zero, List.set_cons_succ]
                      refine wpAnyH_take (i := 4) (oi := ⟨some 86, _, _, _, _, _⟩) (v := .tuple #[.agg #[.slice A_19 3 c_19, .int .i64 9], .int .i64 0]) rfl (by kernel_rfl) (by kernel_rfl) (by kernel_rfl) (fun _ _ _ h => h) (.inl ⟨by kernel_rfl, fun X hX => by first | kernel_rfl | go_simp⟩) hS19 ?_
                      try simp only [Act.put, List.setIfInBounds_toArray, List.set_cons_zero, List.set_cons_succ]
                      refine wpAnyH_take (i := 5) (oi := ⟨some 91, _, _, _, _, _⟩) (v := .agg #[.slice A_19 3 c_19, .int .i64 9]) rfl (by kernel_rfl) (by kernel_rfl) (by kernel_rfl) (fun _ _ _ h => h) (.inl ⟨by kernel_rfl, fun X hX => by first | kernel_rfl | go_simp⟩) hS19 ?_
                      try simp only [Act.put, List.setIfInBounds_toArray, List.set_cons_zero, List.set_cons_succ]
                      refine wpAnyH_take (i := 6) (oi := ⟨some 92, _, _, _, _, _⟩) (v := .int .i64 0) rfl (by kernel_rfl) (by kernel_rfl) (by kernel_rfl) (fun _ _ _ h => h) (.inl ⟨by kernel_rfl, fun X hX => by first | kernel_rfl | go_simp⟩) hS19 ?_
                      try simp only [Act.put, List.setIfInBounds_toArray, List.set_cons_zero, List.set_cons_succ]
                      refine wpAnyH_ready (rs := [8]) (by kernel_rfl) (by simp) (AllReadyH.cons rfl (fun K hK => ?_) AllReadyH.nil)
                      obtain ⟨b0_20, b1_20⟩ := two_cells lb_19
                      have fb0_20 := lb_19.frozen 0
                      have fb1_20 := lb_19.frozen 1
                      have lp_20 := lies_put2 lb_19 (.slice A_19 3 c_19) (.int .i64 9)
                      go_simp
                      refine hK.out _ _ ((hS19.setCell (p := ⟨_, 0, none⟩) hle_16 _).setCell (p := ⟨_, 1, none⟩) hle_16 _) (fun hS20 => ?_)
                      clear hK K
                      try simp only [Act.put, List.setIfInBounds_toArray, List.set_cons_zero, List.set_cons_succ]
                      refine wpAnyH_ready (rs := [9]) (by kernel_rfl) (by simp) (AllReadyH.cons rfl (fun K hK => ?_) AllReadyH.nil)
                      go_simp
                      refine hK.out _ _ (hS20) (fun hS21 => ?_)
                      clear hK K
                      try simp only [Act.put, List.setIfInBounds_toArray, List.set_cons_zero, List.set_cons_succ]
                      refine wpAnyH_done (by kernel_rfl) ?_ _
                      go_wp2_with fail
                      go_meet
                      exact ⟨_, A_19, c_19, rfl, rfl, lp_20, ((hN_19.keep (keep_set ⟨_, 0, none⟩ _ (Nat.not_le_of_lt lb_18.lt))).keep (keep_set ⟨_, 1, none⟩ _ (Nat.not_le_of_lt lb_18.lt))).any, hS21⟩
                  case rest =>
                    obtain ⟨B19, A19, c19, rfl, rfl, hl, hn, hb⟩ := hcut
                    rename World => V19
                    replace HB1 := Lib.hid (HB1.out.below hb HB1.out.lt)
                    replace HN1 := Lib.hid (HN1.out.below hb (Nat.le_refl _))
                    replace HB3 := Lib.hid (HB3.out.below hb HB3.out.lt)
                    replace HB5 := Lib.hid (HB5.out.below hb HB5.out.lt)
                    replace HN5 := Lib.hid (HN5.out.below hb (Nat.le_refl _))
                    replace HB7 := Lib.hid (HB7.out.below hb HB7.out.lt)
                    replace HB9 := Lib.hid (HB9.out.below hb HB9.out.lt)
                    replace HN9 := Lib.hid (HN9.out.below hb (Nat.le_refl _))
                    replace HB11 := Lib.hid (HB11.out.below hb HB11.out.lt)
                    replace HB13 := Lib.hid (HB13.out.below hb HB13.out.lt)
                    replace HN13 := Lib.hid (HN13.out.below hb (Nat.le_refl _))
                    replace HB15 := Lib.hid (HB15.out.below hb HB15.out.lt)
                    replace HN15 := Lib.hid (HN15.out.below hb (Nat.le_refl _))
                    replace HB17 := Lib.hid (HB17.out.below hb HB17.out.lt)
                    replace HB := Lib.hid (HB.out.trans (hb.mono HB.out.size))
                    have HB19 := Lib.hid hl
                    have HN19 := Lib.hid hn
                    clear hl hb b0 b1 hBlt HOP hn
                    go_upto_region 12 with fail
                    have HOP : Hid (∀ V, Below V19.heap.size V19 V → Calls Try.prog 10 #[.agg #[.slice A19 3 c19, .int .i64 9], .agg #[.int .i64 1, .int .i64 0]] V (fun e w' => e = .returned (.tuple #[.agg #[.int .i64 2, .int .i64 2], .int .i64 0]) ∧ Below V.heap.size V w')) := Lib.hid fun V hV => by
                      have h := wPeer_any f3N A19 3 c19 9 (1, 0) V (by kernel_rfl) (HN19.out.below hV (Nat.le_refl _))
                      rw [show peerNV f3N (1, 0) = ((2, 2), 0) by kernel_rfl] at h
                      exact h
                    have b0 := HB19.out.cell 0
                    have b1 := HB19.out.cell 1
                    simp at b0 b1
                    have hBlt := HB19.out.lt
                    go_cut [21, 22] (fun y z wx => ∃ B : Nat, y = .pointer (some ⟨B, 0, none⟩) ∧ z = .int .i64 0 ∧ Lies wx B 26 #[.int .i64 2, .int .i64 2] ∧ Below V19.heap.size V19 wx)
                    case first => as_aux_lemma =>
                      refine wp_region_held_drew (S := fun V => Below V19.heap.size V19 V) rfl (Below.refl _ _).drew (fun hS0 => ?_)
                      change wpAnyH _ _ _ _ _ 9 (Array.replicate 9 false) _ _
                      refine wpAnyH_take (i := 0) (oi := ⟨some 94, _, _, _, _, _⟩) (v := .agg #[.slice A19 3 c19, .int .i64 9]) rfl (by kernel_rfl) (by kernel_rfl) (by kernel_rfl) (fun _ _ _ h => h) (.inl ⟨by kernel_rfl, fun X hX => by have n0 := (hX.cell (p := ⟨B19, 0, none⟩) hBlt).trans b0; have n1 := (hX.cell (p := ⟨B19, 1, none⟩) hBlt).trans b1; go_simp⟩) hS0 ?_
                      try simp only [Act.put, List.setIfInBounds_toArray, List.set_cons_zero, List.set_cons_succ]
                      refine wpAnyH_ready (rs := [1, 6]) (by kernel_rfl) (by simp) (AllReadyH.cons rfl (fun K hK => ?_) (AllReadyH.cons rfl (fun K hK => ?_) AllReadyH.nil))
                      · go_simp
                        refine (at_any 1 0 _).mono ?_
                        rintro e u_1 ⟨rfl, hq_1⟩
                        have hB_1 : Below V19.heap.size V19 u_1 := hS0.trans (hq_1.mono hS0.size)
                        refine hK.out _ _ (hB_1) (fun hS1 => ?_)
                        clear hK K
                        try simp only [Act.put, List.setIfInBounds_toArray, List.set_cons_zero, List.set_cons_succ]
                        refine wpAnyH_ready (rs := [2, 6]) (by kernel_rfl) (by simp) (AllReadyH.cons rfl (fun K hK => ?_) (AllReadyH.cons rfl (fun K hK => ?_) AllReadyH.nil))
                        · go_simp
                          refine (HOP.out _ hS1).mono ?_
                          rintro e u_2 ⟨rfl, hq_2⟩
                          have hB_2 : Below V19.heap.size V19 u_2 := hS1.trans (hq_2.mono hS1.size)
                          refine hK.out _ _ (hB_2) (fun hS2 => ?_)
                          clear hK K
                          try simp only [Act.put, List.setIfInBounds_toArray, List.set_cons_zero, List.set_cons_succ]
                          refine wpAnyH_take (i := 3) (oi := ⟨some 93, _, _, _, _, _⟩) (v := .tuple #[.agg #[.int .i64 2, .int .i64 2], .int .i64 0]) rfl (by kernel_rfl) (by kernel_rfl) (by kernel_rfl) (fun _ _ _ h => h) (.inl ⟨by kernel_rfl, fun X hX => by first | kernel_rfl | go_simp⟩) hS2 ?_
                          try simp only [Act.put, List.setIfInBounds_toArray, List.set_cons_zero, List.set_cons_succ]
                          refine wpAnyH_take (i := 4) (oi := ⟨some 97, _, _, _, _, _⟩) (v := .agg #[.int .i64 2, .int .i64 2]) rfl (by kernel_rfl) (by kernel_rfl) (by kernel_rfl) (fun _ _ _ h => h) (.inl ⟨by kernel_rfl, fun X hX => by first | kernel_rfl | go_simp⟩) hS2 ?_
                          try simp only [Act.put, List.setIfInBounds_toArray, List.set_cons_zero, List.set_cons_succ]
                          refine wpAnyH_take (i := 5) (oi := ⟨some 98, _, _, _, _, _⟩) (v := .int .i64 0) rfl (by kernel_rfl) (by kernel_rfl) (by kernel_rfl) (fun _ _ _ h => h) (.inl ⟨by kernel_rfl, fun X hX => by first | kernel_rfl | go_simp⟩) hS2 ?_
                          try simp only [Act.put, List.setIfInBounds_toArray, List.set_cons_zero, List.set_cons_succ]
                          refine wpAnyH_ready (rs := [6]) (by kernel_rfl) (by simp) (AllReadyH.cons rfl (fun K hK => ?_) AllReadyH.nil)
                          go_simp
                          have lb_3 : Lies ((u_2).alloc (.cells #[.int .i64 0, .int .i64 0] 26)) u_2.heap.size 26 #[.int .i64 0, .int .i64 0] := Lies.new (u_2) _ _
                          have hle_3 : V19.heap.size ≤ u_2.heap.size := hS2.size
                          have hS_3 : Below V19.heap.size V19 (u_2) := hS2
                          refine hK.out _ _ (hS2.alloc hS2.size _) (fun hS3 => ?_)
                          clear hK K
                          try simp only [Act.put, List.setIfInBounds_toArray, List.set_cons_zero, List.set_cons_succ]
                          refine wpAnyH_ready (rs := [7]) (by kernel_rfl) (by simp) (AllReadyH.cons rfl (fun K hK => ?_) AllReadyH.nil)
                          obtain ⟨b0_4, b1_4⟩ := two_cells lb_3
                          have fb0_4 := lb_3.frozen 0
                          have fb1_4 := lb_3.frozen 1
                          have lp_4 : Lies ((u_2).alloc (.cells #[.int .i64 2, .int .i64 2] 26)) u_2.heap.size 26 #[.int .i64 2, .int .i64 2] := Lies.new (u_2) _ _
                          go_simp
                          refine hK.out _ _ (hS_3.alloc hS_3.size _) (fun hS4 => ?_)
                          clear hK K
                          try simp only [Act.put, List.setIfInBounds_toArray, List.set_cons_zero, List.set_cons_succ]
                          refine wpAnyH_ready (rs := [8]) (by kernel_rfl) (by simp) (AllReadyH.cons rfl (fun K hK => ?_) AllReadyH.nil)
                          go_simp
                          refine hK.out _ _ (hS4) (fun hS5 => ?_)
                          clear hK K
                          try simp only [Act.put, List.setIfInBounds_toArray, List.set_cons_zero, List.set_cons_succ]
                          refine wpAnyH_done (by kernel_rfl) ?_ _
                          go_wp2_with fail
                          go_meet
                          exact ⟨_, rfl, rfl, lp_4, hS5⟩
                        · go_simp
                          have lb_6 : Lies ((u_1).alloc (.cells #[.int .i64 0, .int .i64 0] 26)) u_1.heap.size 26 #[.int .i64 0, .int .i64 0] := Lies.new (u_1) _ _
                          have hle_6 : V19.heap.size ≤ u_1.heap.size := hS1.size
                          have hS_6 : Below V19.heap.size V19 (u_1) := hS1
                          refine hK.out _ _ (hS1.alloc hS1.size _) (fun hS6 => ?_)
                          clear hK K
                          try simp only [Act.put, List.setIfInBounds_toArray, List.set_cons_zero, List.set_cons_succ]
                          refine wpAnyH_ready (rs := [2]) (by kernel_rfl) (by simp) (AllReadyH.cons rfl (fun K hK => ?_) AllReadyH.nil)
                          go_simp
                          refine (HOP.out _ hS6).mono ?_
                          rintro e u_7 ⟨rfl, hq_7⟩
                          have hB_7 : Below V19.heap.size V19 u_7 := hS6.trans (hq_7.mono hS6.size)
                          have lb_7 := lb_6.below hq_7 lb_6.lt
                          refine hK.out _ _ (hB_7) (fun hS7 => ?_)
                          clear hK K
                          try simp only [Act.put, List.setIfInBounds_toArray, List.set_cons_zero, List.set_cons_succ]
                          refine wpAnyH_take (i := 3) (oi := ⟨some 93, _, _, _, _, _⟩) (v := .tuple #[.agg #[.int .i64 2, .int .i64 2], .int .i64 0]) rfl (by kernel_rfl) (by kernel_rfl) (by kernel_rfl) (fun _ _ _ h => h) (.inl ⟨by kernel_rfl, fun X hX => by first | kernel_rfl | go_simp⟩) hS7 ?_
                          try simp only [Act.put, List.setIfInBounds_toArray, List.set_cons_zero, List.set_cons_succ]
                          refine wpAnyH_take (i := 4) (oi := ⟨some 97, _, _, _, _, _⟩) (v := .agg #[.int .i64 2, .int .i64 2]) rfl (by kernel_rfl) (by kernel_rfl) (by kernel_rfl) (fun _ _ _ h => h) (.inl ⟨by kernel_rfl, fun X hX => by first | kernel_rfl | go_simp⟩) hS7 ?_
                          try simp only [Act.put, List.setIfInBounds_toArray, List.set_cons_zero, List.set_cons_succ]
                          refine wpAnyH_take (i := 5) (oi := ⟨some 98, _, _, _, _, _⟩) (v := .int .i64 0) rfl (by kernel_rfl) (by kernel_rfl) (by kernel_rfl) (fun _ _ _ h => h) (.inl ⟨by kernel_rfl, fun X hX => by first | kernel_rfl | go_simp⟩) hS7 ?_
                          try simp only [Act.put, List.setIfInBounds_toArray, List.set_cons_zero, List.set_cons_succ]
                          refine wpAnyH_ready (rs := [7]) (by kernel_rfl) (by simp) (AllReadyH.cons rfl (fun K hK => ?_) AllReadyH.nil)
                          obtain ⟨b0_8, b1_8⟩ := two_cells lb_7
                          have fb0_8 := lb_7.frozen 0
                          have fb1_8 := lb_7.frozen 1
                          have lp_8 := lies_put2 lb_7 (.int .i64 2) (.int .i64 2)
                          go_simp
                          refine hK.out _ _ ((hS7.setCell (p := ⟨_, 0, none⟩) hle_6 _).setCell (p := ⟨_, 1, none⟩) hle_6 _) (fun hS8 => ?_)
                          clear hK K
                          try simp only [Act.put, List.setIfInBounds_toArray, List.set_cons_zero, List.set_cons_succ]
                          refine wpAnyH_ready (rs := [8]) (by kernel_rfl) (by simp) (AllReadyH.cons rfl (fun K hK => ?_) AllReadyH.nil)
                          go_simp
                          refine hK.out _ _ (hS8) (fun hS9 => ?_)
                          clear hK K
                          try simp only [Act.put, List.setIfInBounds_toArray, List.set_cons_zero, List.set_cons_succ]
                          refine wpAnyH_done (by kernel_rfl) ?_ _
                          go_wp2_with fail
                          go_meet
                          exact ⟨_, rfl, rfl, lp_8, hS9⟩
                      · go_simp
                        have lb_10 : Lies ((V19.drew).alloc (.cells #[.int .i64 0, .int .i64 0] 26)) V19.heap.size 26 #[.int .i64 0, .int .i64 0] := Lies.new (V19.drew) _ _
                        have hle_10 : V19.heap.size ≤ V19.heap.size := hS0.size
                        have hS_10 : Below V19.heap.size V19 (V19.drew) := hS0
                        refine hK.out _ _ (hS0.alloc hS0.size _) (fun hS10 => ?_)
                        clear hK K
                        try simp only [Act.put, List.setIfInBounds_toArray, List.set_cons_zero, List.set_cons_succ]
                        refine wpAnyH_ready (rs := [1]) (by kernel_rfl) (by simp) (AllReadyH.cons rfl (fun K hK => ?_) AllReadyH.nil)
                        go_simp
                        refine (at_any 1 0 _).mono ?_
                        rintro e u_11 ⟨rfl, hq_11⟩
                        have hB_11 : Below V19.heap.size V19 u_11 := hS10.trans (hq_11.mono hS10.size)
                        have lb_11 := lb_10.below hq_11 lb_10.lt
                        refine hK.out _ _ (hB_11) (fun hS11 => ?_)
                        clear hK K
                        try simp only [Act.put, List.setIfInBounds_toArray, List.set_cons_zero, List.set_cons_succ]
                        refine wpAnyH_ready (rs := [2]) (by kernel_rfl) (by simp) (AllReadyH.cons rfl (fun K hK => ?_) AllReadyH.nil)
                        go_simp
                        refine (HOP.out _ hS11).mono ?_
                        rintro e u_12 ⟨rfl, hq_12⟩
                        have hB_12 : Below V19.heap.size V19 u_12 := hS11.trans (hq_12.mono hS11.size)
                        have lb_12 := lb_11.below hq_12 lb_11.lt
                        refine hK.out _ _ (hB_12) (fun hS12 => ?_)
                        clear hK K
                        try simp only [Act.put, List.setIfInBounds_toArray, List.set_cons_zero, List.set_cons_succ]
                        refine wpAnyH_take (i := 3) (oi := ⟨some 93, _, _, _, _, _⟩) (v := .tuple #[.agg #[.int .i64 2, .int .i64 2], .int .i64 0]) rfl (by kernel_rfl) (by kernel_rfl) (by kernel_rfl) (fun _ _ _ h => h) (.inl ⟨by kernel_rfl, fun X hX => by first | kernel_rfl | go_simp⟩) hS12 ?_
                        try simp only [Act.put, List.setIfInBounds_toArray, List.set_cons_zero, List.set_cons_succ]
                        refine wpAnyH_take (i := 4) (oi := ⟨some 97, _, _, _, _, _⟩) (v := .agg #[.int .i64 2, .int .i64 2]) rfl (by kernel_rfl) (by kernel_rfl) (by kernel_rfl) (fun _ _ _ h => h) (.inl ⟨by kernel_rfl, fun X hX => by first | kernel_rfl | go_simp⟩) hS12 ?_
                        try simp only [Act.put, List.setIfInBounds_toArray, List.set_cons_zero, List.set_cons_succ]
                        refine wpAnyH_take (i := 5) (oi := ⟨some 98, _, _, _, _, _⟩) (v := .int .i64 0) rfl (by kernel_rfl) (by kernel_rfl) (by kernel_rfl) (fun _ _ _ h => h) (.inl ⟨by kernel_rfl, fun X hX => by first | kernel_rfl | go_simp⟩) hS12 ?_
                        try simp only [Act.put, List.setIfInBounds_toArray, List.set_cons_zero, List.set_cons_succ]
                        refine wpAnyH_ready (rs := [7]) (by kernel_rfl) (by simp) (AllReadyH.cons rfl (fun K hK => ?_) AllReadyH.nil)
                        obtain ⟨b0_13, b1_13⟩ := two_cells lb_12
                        have fb0_13 := lb_12.frozen 0
                        have fb1_13 := lb_12.frozen 1
                        have lp_13 := lies_put2 lb_12 (.int .i64 2) (.int .i64 2)
                        go_simp
                        refine hK.out _ _ ((hS12.setCell (p := ⟨_, 0, none⟩) hle_10 _).setCell (p := ⟨_, 1, none⟩) hle_10 _) (fun hS13 => ?_)
                        clear hK K
                        try simp only [Act.put, List.setIfInBounds_toArray, List.set_cons_zero, List.set_cons_succ]
                        refine wpAnyH_ready (rs := [8]) (by kernel_rfl) (by simp) (AllReadyH.cons rfl (fun K hK => ?_) AllReadyH.nil)
                        go_simp
                        refine hK.out _ _ (hS13) (fun hS14 => ?_)
                        clear hK K
                        try simp only [Act.put, List.setIfInBounds_toArray, List.set_cons_zero, List.set_cons_succ]
                        refine wpAnyH_done (by kernel_rfl) ?_ _
                        go_wp2_with fail
                        go_meet
                        exact ⟨_, rfl, rfl, lp_13, hS14⟩
                    case rest =>
                      obtain ⟨B21, rfl, rfl, hl, hb⟩ := hcut
                      rename World => V21
                      replace HB1 := Lib.hid (HB1.out.below hb HB1.out.lt)
                      replace HN1 := Lib.hid (HN1.out.below hb (Nat.le_refl _))
                      replace HB3 := Lib.hid (HB3.out.below hb HB3.out.lt)
                      replace HB5 := Lib.hid (HB5.out.below hb HB5.out.lt)
                      replace HN5 := Lib.hid (HN5.out.below hb (Nat.le_refl _))
                      replace HB7 := Lib.hid (HB7.out.below hb HB7.out.lt)
                      replace HB9 := Lib.hid (HB9.out.below hb HB9.out.lt)
                      replace HN9 := Lib.hid (HN9.out.below hb (Nat.le_refl _))
                      replace HB11 := Lib.hid (HB11.out.below hb HB11.out.lt)
                      replace HB13 := Lib.hid (HB13.out.below hb HB13.out.lt)
                      replace HN13 := Lib.hid (HN13.out.below hb (Nat.le_refl _))
                      replace HB15 := Lib.hid (HB15.out.below hb HB15.out.lt)
                      replace HN15 := Lib.hid (HN15.out.below hb (Nat.le_refl _))
                      replace HB17 := Lib.hid (HB17.out.below hb HB17.out.lt)
                      replace HB19 := Lib.hid (HB19.out.below hb HB19.out.lt)
                      replace HN19 := Lib.hid (HN19.out.below hb (Nat.le_refl _))
                      replace HB := Lib.hid (HB.out.trans (hb.mono HB.out.size))
                      have HB21 := Lib.hid hl
                      clear hl hb b0 b1 hBlt HOP
                      go_upto_region 13 with fail
                      obtain ⟨HB3a, HB3b⟩ := two_cells HB3.out
                      replace HB3a := Abv.cell HB3a
                      replace HB3b := Abv.cell HB3b
                      obtain ⟨HB7a, HB7b⟩ := two_cells HB7.out
                      replace HB7a := Abv.cell HB7a
                      replace HB7b := Abv.cell HB7b
                      obtain ⟨HB11a, HB11b⟩ := two_cells HB11.out
                      replace HB11a := Abv.cell HB11a
                      replace HB11b := Abv.cell HB11b
                      obtain ⟨HB13a, HB13b⟩ := two_cells HB13.out
                      replace HB13a := Abv.cell HB13a
                      replace HB13b := Abv.cell HB13b
                      obtain ⟨HB9a, HB9b⟩ := two_cells HB9.out
                      replace HB9a := Abv.cell HB9a
                      replace HB9b := Abv.cell HB9b
                      obtain ⟨HB21a, HB21b⟩ := two_cells HB21.out
                      replace HB21a := Abv.cell HB21a
                      replace HB21b := Abv.cell HB21b
                      have HAT : ∀ (a b : Int) (V : Abv V21), Calls Try.prog 24 #[.int .i64 a, .int .i64 b] V.1 fun e w' => e = .returned (.agg #[.int .i64 a, .int .i64 b]) ∧ Below V.1.heap.size V.1 w' := fun a b V => at_any a b V.1
                      have HSM : ∀ V : Abv V21, Calls Try.prog 18 #[.agg #[.slice A13 3 c13, .int .i64 9], .agg #[.slice A9 3 c9, .int .i64 9]] V.1 fun e w' => e = .returned (.bool true) ∧ Below V.1.heap.size V.1 w' := fun V => same_any f2N A13 A9 3 c13 c9 9 V.1 (by kernel_rfl) (by decide) (HN13.out.below V.2 (Nat.le_refl _)) (HN9.out.below V.2 (Nat.le_refl _))
                      refine region_calm (by kernel_rfl) (by kernel_rfl) ?_
                      repeat (go_big_quiet_step (first | exact calm_of (HAT _ _ _) | exact calm_of (HSM _)))
                      refine wpQuiet_nil ?_
                      rintro _ ⟨V, rfl⟩
                      go_wp2_with fail
                      go_ret
                      exact ⟨rfl, HB.out.trans (V.2.mono HB.out.size)⟩
end Lx
end Go.Proofs.Ytceblpjlklogpaa
