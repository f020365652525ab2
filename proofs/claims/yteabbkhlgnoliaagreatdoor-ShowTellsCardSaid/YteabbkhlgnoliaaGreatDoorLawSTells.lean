/-
  Walk of the law ShowTells.
-/
import Derived.Test.YteabbkhlgnoliaaGreatDoorKR
import Derived.Test.YteabbkhlgnoliaaGreatDoorK3
import Derived.Test.YteabbkhlgnoliaaGreatDoorKB
import Derived.Test.YteabbkhlgnoliaaGreatDoorK9
import Derived.Deep.RegionHeld
import Derived.Deep.Cut
namespace Go.Proofs.YteabbkhlgnoliaaGreatDoor
open Go.RowKit Go.Sort
namespace Lx
set_option maxRecDepth 100000
set_option maxHeartbeats 4000000 in
/-- A tree that may not be has no text. -/
theorem stext_no (t : Tr) (A : Option Addr) (c : Nat) (w : World) (hI : TIn w Any t A) (hg : Signs w) (hm : mayV t = false) :
    Calls Tryz.prog 11 #[tv t A c] w fun e w' => e = .returned (.string ⟨#[]⟩) ∧ Below w.heap.size w w' := by
  have HM := fun (W : World) (h : Below w.heap.size w W) => tmay_any t A c W (TIn.below _ hI h (Nat.le_refl _)) (hg.below h hg.pos)
  rw [hm] at HM
  obtain ⟨k, s, n, a, l⟩ := t
  simp only [tv, Tr.kind, Tr.name, Tr.n, Tr.place, Tr.parts] at HM ⊢
  have HM := Lib.hid HM
  obtain ⟨m, hm'⟩ : ∃ m, m = l.length := ⟨_, rfl⟩
  rw [← hm'] at HM ⊢
  generalize capF m c = c at HM ⊢
  clear hm hm' hI hg
  have hb1 : Below w.heap.size w (w.alloc (.cells #[.int .i64 k, .string s, .int .i64 n, .int .i64 a, .slice A m c] 24)) := (Below.refl _ w).alloc (Nat.le_refl _) _
  go_enter Tryz.func11, Tryz.ntmps11
  go_wp2_with fail
  refine (HM.out _ hb1).mono ?_
  rintro e w2 ⟨rfl, hb2⟩
  go_wp2_with fail
  go_ret
  exact ⟨rfl, hb1.trans (hb2.mono (by simp))⟩
set_option maxHeartbeats 8000000 in
theorem stells_any (t : Tr) (A : Option Addr) (c : Nat) (w : World) (hT : TIn w Any t A) (hg : Tabs w) :
    Calls Tryz.prog 3 #[tv t A c] w fun e w' => e = .returned (.bool true) ∧ Below w.heap.size w w' := by
  have HSM := Lib.hid (fun (W : World) (h : Below w.heap.size w W) => tsmall_any t A c 300 W (TIn.below _ hT h (Nat.le_refl _)) (by omega) (by omega))
  have HF := Lib.hid (fun (W : World) (h : Below w.heap.size w W) => fix4_any W (hg.below h))
  have HTX : 0 ≤ fewT t 300 200 → (∃ S : ByteArray, ∀ W, Below w.heap.size w W → (Calls Tryz.prog 11 #[tv t A c] W fun e W' => e = .returned (.string S) ∧ Below W.heap.size W W') ∧ (Calls Tryz.prog 12 #[tv t A c] W fun e W' => e = .returned (.string S) ∧ Below W.heap.size W W')) := fun h => by
    obtain ⟨f1, f2⟩ := few_ok (decide_eq_true h)
    refine ⟨⟨(textT t).toArray⟩, fun W hW => ⟨?_, rtop_any t A c W (TIn.below _ hT hW (Nat.le_refl _)) (by omega)⟩⟩
    have hgW := hg.below hW
    cases hm : mayV t with
    | true =>
      have hl : (showT t).length ≤ 1000000 := by
        simp only [mayV, Bool.and_eq_true, decide_eq_true_eq] at hm
        have := show_len t hm.2
        omega
      exact stext_any t A c W (TIn.below _ hT hW (Nat.le_refl _)) hgW.sg hgW.pw hl
    | false =>
      have h9 : textT t = [] := by unfold textT; rw [hm]; rfl
      rw [h9]
      exact stext_no t A c W (TIn.below _ hT hW (Nat.le_refl _)) hgW.sg hm
  have HTX := Lib.hid HTX
  obtain ⟨f, hf⟩ : ∃ f, f = fewT t 300 200 := ⟨_, rfl⟩
  rw [← hf] at HSM HTX
  obtain ⟨k, s, n, a, l⟩ := t
  simp only [tv, Tr.kind, Tr.name, Tr.n, Tr.place, Tr.parts] at HSM HTX ⊢
  obtain ⟨m, hm'⟩ : ∃ m, m = l.length := ⟨_, rfl⟩
  rw [← hm'] at HSM HTX ⊢
  generalize capF m c = c at HSM HTX ⊢
  clear hf hm' hT hg
  have hb0 := below_alloc1 w (.cells #[.int .i64 k, .string s, .int .i64 n, .int .i64 a, .slice A m c] 24)
  have hL := Lies.new w 24 #[.int .i64 k, .string s, .int .i64 n, .int .i64 a, .slice A m c]
  obtain ⟨O, hO⟩ : ∃ O, O = Obj.cells #[.int .i64 k, .string s, .int .i64 n, .int .i64 a, .slice A m c] 24 := ⟨_, rfl⟩
  go_enter Tryz.func3, Tryz.ntmps3
  go_wp2_with fail
  refine (HSM.out _ hb0).mono ?_
  rintro e w4 ⟨rfl, hb4⟩
  have hL := hL.below hb4 (by simp)
  have hb0 := hb0.trans (hb4.mono (by simp))
  have hls := hL.lt
  clear hb4
  by_cases q1 : 0 ≤ f
  · obtain ⟨S, HTS⟩ := HTX.out q1
    have hd : decide (0 ≤ f) = true := decide_eq_true q1
    go_upto_region 3 with fail
    have hd0 : Below w4.heap.size w4 w4.drew := (Below.refl _ w4).drew
    have HF2 : Hid (∀ W, Below w4.heap.size w4 W → Calls Tryz.prog 10 #[] W fun e W' => e = .returned (.bool true) ∧ Below w4.heap.size w4 W') := Lib.hid fun W h => (HF.out W (hb0.trans (h.mono hb0.size))).mono fun e w' q => ⟨q.1, h.trans (q.2.mono h.size)⟩
    have HS1 : Hid (∀ W, Below w4.heap.size w4 W → Calls Tryz.prog 11 #[.agg #[.int .i64 k, .string s, .int .i64 n, .int .i64 a, .slice A m c]] W fun e W' => e = .returned (.string S) ∧ Below w4.heap.size w4 W') := Lib.hid fun W h => ((HTS W (hb0.trans (h.mono hb0.size))).1).mono fun e w' q => ⟨q.1, h.trans (q.2.mono h.size)⟩
    have HS2 : Hid (∀ W, Below w4.heap.size w4 W → Calls Tryz.prog 12 #[.agg #[.int .i64 k, .string s, .int .i64 n, .int .i64 a, .slice A m c]] W fun e W' => e = .returned (.string S) ∧ Below w4.heap.size w4 W') := Lib.hid fun W h => ((HTS W (hb0.trans (h.mono hb0.size))).2).mono fun e w' q => ⟨q.1, h.trans (q.2.mono h.size)⟩
    have HS : Hid (∀ V', Below w4.heap.size w4 V' → (fun V' : World => (V'.cell? ⟨w.heap.size, 0, none⟩ = some (.int .i64 k) ∧ V'.cell? ⟨w.heap.size, 1, none⟩ = some (.string s) ∧ V'.cell? ⟨w.heap.size, 2, none⟩ = some (.int .i64 n) ∧ V'.cell? ⟨w.heap.size, 3, none⟩ = some (.int .i64 a) ∧ V'.cell? ⟨w.heap.size, 4, none⟩ = some (.slice A m c))) V') := Lib.hid fun V' h => by
      have l9 := hL.below h hls
      exact ⟨l9.cell 0, l9.cell 1, l9.cell 2, l9.cell 3, l9.cell 4⟩
    have hS0 := HS.out _ (Below.refl _ w4)
    have HZ := Lib.hid hb0
    clear HTS HF HSM HTX hL hb0 hls hO q1 hd
    refine wp_region_held_drew (S := (fun V' : World => (V'.cell? ⟨w.heap.size, 0, none⟩ = some (.int .i64 k) ∧ V'.cell? ⟨w.heap.size, 1, none⟩ = some (.string s) ∧ V'.cell? ⟨w.heap.size, 2, none⟩ = some (.int .i64 n) ∧ V'.cell? ⟨w.heap.size, 3, none⟩ = some (.int .i64 a) ∧ V'.cell? ⟨w.heap.size, 4, none⟩ = some (.slice A m c)))) rfl hS0 (fun hSs => ?_)
    change wpAnyH _ _ _ _ _ 9 (Array.replicate 9 false) _ _
    refine wpAnyH_ready (rs := [0]) (by kernel_rfl) (by simp) (AllReadyH.cons rfl (fun K hK => ?_) AllReadyH.nil)
    go_simp
    refine (HF2.out _ hd0).mono ?_
    rintro e u1 ⟨rfl, hd1⟩
    refine hK.out _ _ (HS.out _ hd1) (fun hS1 => ?_)
    clear hK K
    try simp only [Act.put, List.setIfInBounds_toArray, List.set_cons_zero, List.set_cons_succ]
    refine wpAnyH_take (i := 1) (oi := ⟨some 8, _, _, _, _, _⟩) (v := .bool true) rfl (by kernel_rfl) (by kernel_rfl) (by kernel_rfl) (fun _ _ _ h => h) (.inl ⟨by kernel_rfl, fun W hW => by kernel_rfl⟩) hS1 ?_
    try simp only [Act.put, List.setIfInBounds_toArray, List.set_cons_zero, List.set_cons_succ]
    refine wpAnyH_take (i := 2) (oi := ⟨some 9, _, _, _, _, _⟩) (v := .agg #[.int .i64 k, .string s, .int .i64 n, .int .i64 a, .slice A m c]) rfl (by kernel_rfl) (by kernel_rfl) (by kernel_rfl) (fun _ _ _ h => h) (.inl ⟨by kernel_rfl, fun W hW => by first | (obtain ⟨z0, z1, z2, z3, z4⟩ := hW; go_simp; done) | (obtain ⟨z0, z1, z2, z3, z4⟩ := hW; go_simp; omega) | (obtain ⟨z0, z1, z2, z3, z4⟩ := hW; go_simp; simp [*]; done)⟩) hS1 ?_
    try simp only [Act.put, List.setIfInBounds_toArray, List.set_cons_zero, List.set_cons_succ]
    refine wpAnyH_take (i := 4) (oi := ⟨some 11, _, _, _, _, _⟩) (v := .agg #[.int .i64 k, .string s, .int .i64 n, .int .i64 a, .slice A m c]) rfl (by kernel_rfl) (by kernel_rfl) (by kernel_rfl) (fun _ _ _ h => h) (.inl ⟨by kernel_rfl, fun W hW => by first | (obtain ⟨z0, z1, z2, z3, z4⟩ := hW; go_simp; done) | (obtain ⟨z0, z1, z2, z3, z4⟩ := hW; go_simp; omega) | (obtain ⟨z0, z1, z2, z3, z4⟩ := hW; go_simp; simp [*]; done)⟩) hS1 ?_
    try simp only [Act.put, List.setIfInBounds_toArray, List.set_cons_zero, List.set_cons_succ]
    refine wpAnyH_ready (rs := [3]) (by kernel_rfl) (by simp) (AllReadyH.cons rfl (fun K hK => ?_) AllReadyH.nil)
    go_simp
    refine (HS1.out _ hd1).mono ?_
    rintro e u2 ⟨rfl, hd2⟩
    refine hK.out _ _ (HS.out _ hd2) (fun hS2 => ?_)
    clear hK K
    try simp only [Act.put, List.setIfInBounds_toArray, List.set_cons_zero, List.set_cons_succ]
    refine wpAnyH_ready (rs := [5]) (by kernel_rfl) (by simp) (AllReadyH.cons rfl (fun K hK => ?_) AllReadyH.nil)
    go_simp
    refine (HS2.out _ hd2).mono ?_
    rintro e u3 ⟨rfl, hd3⟩
    refine hK.out _ _ (HS.out _ hd3) (fun hS3 => ?_)
    clear hK K
    try simp only [Act.put, List.setIfInBounds_toArray, List.set_cons_zero, List.set_cons_succ]
    refine wpAnyH_take (i := 6) (oi := ⟨some 13, _, _, _, _, _⟩) (v := .bool true) rfl (by kernel_rfl) (by kernel_rfl) (by kernel_rfl) (fun _ _ _ h => h) (.inl ⟨by kernel_rfl, fun W hW => by first | (obtain ⟨z0, z1, z2, z3, z4⟩ := hW; go_simp; done) | (obtain ⟨z0, z1, z2, z3, z4⟩ := hW; go_simp; omega) | (obtain ⟨z0, z1, z2, z3, z4⟩ := hW; go_simp; simp [*]; done)⟩) hS3 ?_
    try simp only [Act.put, List.setIfInBounds_toArray, List.set_cons_zero, List.set_cons_succ]
    refine wpAnyH_take (i := 7) (oi := ⟨some 14, _, _, _, _, _⟩) (v := .bool true) rfl (by kernel_rfl) (by kernel_rfl) (by kernel_rfl) (fun _ _ _ h => h) (.inl ⟨by kernel_rfl, fun W hW => by kernel_rfl⟩) hS3 ?_
    try simp only [Act.put, List.setIfInBounds_toArray, List.set_cons_zero, List.set_cons_succ]
    refine wpAnyH_take (i := 8) (oi := ⟨some 2, _, _, _, _, _⟩) (v := .bool true) rfl (by kernel_rfl) (by kernel_rfl) (by kernel_rfl) (fun _ _ _ h => h) (.inl ⟨by kernel_rfl, fun W hW => by kernel_rfl⟩) hS3 ?_
    try simp only [Act.put, List.setIfInBounds_toArray, List.set_cons_zero, List.set_cons_succ]
    refine wpAnyH_done (by kernel_rfl) ?_ _
    go_wp2_with fail
    go_ret
    exact ⟨rfl, HZ.out.trans (hd3.mono HZ.out.size)⟩
  · have hd : decide (0 ≤ f) = false := decide_eq_false q1
    go_wp2_with fail
    refine (HF.out _ hb0).mono ?_
    rintro e wz ⟨rfl, hbz⟩
    go_wp2_with fail
    go_ret
    exact ⟨rfl, hb0.trans (hbz.mono hb0.size)⟩
end Lx
end Go.Proofs.YteabbkhlgnoliaaGreatDoor
