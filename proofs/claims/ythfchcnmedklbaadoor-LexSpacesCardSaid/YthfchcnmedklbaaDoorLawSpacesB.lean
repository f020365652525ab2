/-
  Walk of the law LexSpaces, where the text has tokens.
-/
import Derived.Test.YthfchcnmedklbaaDoorLawSpaces
import Derived.Deep.RegionHeld3
import Derived.IntWalk
namespace Go.Proofs.YthfchcnmedklbaaDoor
open Go.RowKit
namespace Lx
set_option maxHeartbeats 4000000 in
theorem spaces_ok (s : ByteArray) (N : Nat) (w : World) (hg : Signs w) (h : s.size ≤ 1000) (hN : N ≤ 50) (ts : List Tok) (n : Nat) (hn : ts.length = n) (hk : allK s.data.toList = .ok ts) :
    Calls Tryd.prog 7 #[.string s, .int .i64 N] w fun e w' => e = .returned (.bool true) ∧ Below w.heap.size w w' := by
  have hpos := hg.pos
  have hn2 : n ≤ 60000 := by have := (allK_places hk).2; rw [← Lib.size_eq] at this; omega
  have hka : allK ((⟨(gapS N).toArray⟩ : ByteArray) ++ s).data.toList = .ok (ts.map (moved N)) := by
    rw [Joins.data_append]
    show allK (gapS N ++ s.data.toList) = _
    rw [allK_gap_ahead, hk]; rfl
  have hkb : allK (s ++ (⟨(gapS N).toArray⟩ : ByteArray)).data.toList = .ok ts := by
    rw [Joins.data_append]
    show allK (s.data.toList ++ gapS N) = _
    rw [allK_gap_behind, hk]
  have hsa : ((⟨(gapS N).toArray⟩ : ByteArray) ++ s).size ≤ 60000 := by
    rw [Lib.size_eq, Joins.data_append, List.length_append, ← Lib.size_eq s]
    show (gapS N).length + _ ≤ _
    rw [gapS_length]; omega
  have hsb : (s ++ (⟨(gapS N).toArray⟩ : ByteArray)).size ≤ 60000 := by
    rw [Lib.size_eq, Joins.data_append, List.length_append, ← Lib.size_eq s]
    show _ + (gapS N).length ≤ _
    rw [gapS_length]; omega
  have hnm : (ts.map (moved N)).length = n := by simpa using hn
  have hmp : (ts.map (moved N)).map noPlace = ts.map noPlace := moved_noPlace N ts
  have HPl := Lib.hid (allK_places hk).1
  have HK := Lib.hid hk
  have HA := Lib.hid hka
  have HB := Lib.hid hkb
  have HSA := Lib.hid hsa
  have HSB := Lib.hid hsb
  have HN := Lib.hid hn
  have HNM := Lib.hid hnm
  have HMP := Lib.hid hmp
  clear hk hka hkb hsa hsb hn hnm hmp
  go_enter Tryd.func7, Tryd.ntmps7
  go_wp2_with fail
  refine (fixed_any _ hg).mono ?_
  rintro e w1 ⟨rfl, hb1⟩
  have hg1 := hg.below hb1 hpos
  have hs1 := hb1.size
  go_wp2_with fail
  go_loop [5, 6] (fun v a => ∃ i : Nat, i ≤ N ∧ a = .int .i64 i ∧ v = .string ⟨(gapS i).toArray⟩) (fun _ a => N - (intOf a).toNat)
  case atStart => exact ⟨0, by omega, rfl, rfl⟩
  case round =>
    obtain ⟨i, hi, rfl, rfl⟩ := hrel
    by_cases hlt : i < N
    · obtain ⟨gi, hgi⟩ : ∃ gi : ByteArray, gi = ⟨(gapS i).toArray⟩ := ⟨_, rfl⟩
      rw [← hgi]
      have hgs : gi.size ≤ 50 := by
        rw [hgi, Lib.size_eq]
        show (gapS i).length ≤ 50
        rw [gapS_length]; omega
      have HGI := Lib.hid hgi
      clear hgi
      have hr3 : i % 3 = 0 ∨ i % 3 = 1 ∨ i % 3 = 2 := by omega
      rcases hr3 with hr | hr | hr
      · have hri : (i : Int) % 3 = 0 := by omega
        have HG := Lib.hid (gap_step i 32 (.inl ⟨hr, rfl⟩))
        have hc := cut0
        clear hr
        go_wp2_with fail
        go_round
        case rel => exact ⟨i + 1, by omega, by go_num, by rw [HGI.out, HG.out]⟩
        case measure => simp [intOf]; omega
      · have hri : (i : Int) % 3 = 1 := by omega
        have HG := Lib.hid (gap_step i 10 (.inr (.inl ⟨hr, rfl⟩)))
        have hc := cut1
        clear hr
        go_wp2_with fail
        go_round
        case rel => exact ⟨i + 1, by omega, by go_num, by rw [HGI.out, HG.out]⟩
        case measure => simp [intOf]; omega
      · have hri : (i : Int) % 3 = 2 := by omega
        have HG := Lib.hid (gap_step i 9 (.inr (.inr ⟨hr, rfl⟩)))
        have hc := cut2
        clear hr
        go_wp2_with fail
        go_round
        case rel => exact ⟨i + 1, by omega, by go_num, by rw [HGI.out, HG.out]⟩
        case measure => simp [intOf]; omega
    · obtain rfl : i = N := by omega
      obtain ⟨gi, hgi⟩ : ∃ gi : ByteArray, gi = ⟨(gapS i).toArray⟩ := ⟨_, rfl⟩
      rw [← hgi] at HA HB HSA HSB ⊢
      have hgs : gi.size ≤ 50 := by
        rw [hgi, Lib.size_eq]
        show (gapS i).length ≤ 50
        rw [gapS_length]; omega
      clear hgi
      go_wp2_with fail
      refine (all_row s ts n HN.out _ (by omega) hg1 HK.out).mono ?_
      rintro e w2 ⟨A2, c2, rfl, hr2, hb2⟩
      have hg2 := hg1.below hb2 (by omega)
      have hB2 := hb1.trans (hb2.mono hs1)
      have hs2 := hb2.size
      clear hb1 hb2 hg1 hg
      go_wp2_with fail
      refine (all_row (gi ++ s) _ n HNM.out _ HSA.out hg2 HA.out).mono ?_
      rintro e w3 ⟨A3, c3, rfl, hr3, hb3⟩
      have hg3 := hg2.below hb3 (by omega)
      have hB3 := hB2.trans (hb3.mono (by omega))
      have hr2' := hr2.below hb3 (Nat.le_refl _)
      have hs3 := hb3.size
      clear hB2 hb3 hg2 hr2
      go_wp2_with fail
      refine (all_row (s ++ gi) ts n HN.out _ HSB.out hg3 HB.out).mono ?_
      rintro e w4 ⟨A4, c4, rfl, hr4, hb4⟩
      have hB4 := hB3.trans (hb4.mono (by omega))
      have hr2 := hr2'.below hb4 (Nat.le_refl _)
      have hr3' := hr3.below hb4 (Nat.le_refl _)
      have hs4 := hb4.size
      clear hB3 hb4 hg3 hr2' hr3
      go_wp2_with fail
      by_cases h0 : n = 0
      · subst h0
        have hnl : ts = [] := List.eq_nil_of_length_eq_zero HN.out
        subst hnl
        refine wp_region_held_drew (S := fun _ => True) (by kernel_rfl) trivial fun _ => ?_
        change wpAnyH _ _ _ _ _ 37 (Array.replicate 37 false) _ _
        refine wpAnyH_take (i := 0) (v := .int .i64 0) rfl (by kernel_rfl) (by kernel_rfl) (by kernel_rfl) (fun _ _ _ h => h) (.inl ⟨by kernel_rfl, fun w _ => by kernel_rfl⟩) trivial ?_
        refine wpAnyH_take (i := 1) (v := .bool true) rfl (by kernel_rfl) (by kernel_rfl) (by kernel_rfl) (fun _ _ _ h => h) (.inl ⟨by kernel_rfl, fun w _ => by kernel_rfl⟩) trivial ?_
        refine wpAnyH_take (i := 2) (v := .bool true) rfl (by kernel_rfl) (by kernel_rfl) (by kernel_rfl) (fun _ _ _ h => h) (.inl ⟨by kernel_rfl, fun w _ => by kernel_rfl⟩) trivial ?_
        refine wpAnyH_take (i := 3) (v := .int .i64 0) rfl (by kernel_rfl) (by kernel_rfl) (by kernel_rfl) (fun _ _ _ h => h) (.inl ⟨by kernel_rfl, fun w _ => by kernel_rfl⟩) trivial ?_
        refine wpAnyH_take (i := 4) (v := .bool true) rfl (by kernel_rfl) (by kernel_rfl) (by kernel_rfl) (fun _ _ _ h => h) (.inl ⟨by kernel_rfl, fun w _ => by kernel_rfl⟩) trivial ?_
        refine wpAnyH_take (i := 5) (v := .bool true) rfl (by kernel_rfl) (by kernel_rfl) (by kernel_rfl) (fun _ _ _ h => h) (.inl ⟨by kernel_rfl, fun w _ => by kernel_rfl⟩) trivial ?_
        refine wpAnyH_take (i := 6) (v := .bool true) rfl (by kernel_rfl) (by kernel_rfl) (by kernel_rfl) (fun _ _ _ h => h) (.inl ⟨by kernel_rfl, fun w _ => by kernel_rfl⟩) trivial ?_
        refine wpAnyH_take (i := 7) (v := .slice A4 0 c4) rfl (by kernel_rfl) (by kernel_rfl) (by kernel_rfl) (fun _ _ _ h => h) (.inl ⟨by kernel_rfl, fun w _ => by kernel_rfl⟩) trivial ?_
        refine wpAnyH_take (i := 8) (v := .slice A2 0 c2) rfl (by kernel_rfl) (by kernel_rfl) (by kernel_rfl) (fun _ _ _ h => h) (.inl ⟨by kernel_rfl, fun w _ => by kernel_rfl⟩) trivial ?_
        refine wpAnyH_ready (rs := [9]) (by kernel_rfl) (by simp) (AllReadyH.cons (i := 9) rfl (fun K' hK => ?_) .nil)
        rw [if_pos (by kernel_rfl)]
        go_wp2_with fail
        refine (same_self A4 A2 [] 0 c4 c2 rfl _ ?_ ?_ (by decide)).mono ?_
        · exact hr4
        · exact hr2
        rintro e w5 ⟨rfl, k, rfl⟩
        refine hK.out _ _ trivial fun _ => ?_
        clear hK
        refine wpAnyH_take (i := 10) (v := .bool true) rfl (by kernel_rfl) (by kernel_rfl) (by kernel_rfl) (fun _ _ _ h => h) (.inl ⟨by kernel_rfl, fun w _ => by kernel_rfl⟩) trivial ?_
        refine wpAnyH_take (i := 11) (v := .bool true) rfl (by kernel_rfl) (by kernel_rfl) (by kernel_rfl) (fun _ _ _ h => h) (.inl ⟨by kernel_rfl, fun w _ => by kernel_rfl⟩) trivial ?_
        refine wpAnyH_take (i := 12) (v := .slice A2 0 c2) rfl (by kernel_rfl) (by kernel_rfl) (by kernel_rfl) (fun _ _ _ h => h) (.inl ⟨by kernel_rfl, fun w _ => by kernel_rfl⟩) trivial ?_
        refine wpAnyH_take (i := 14) (v := .slice A3 0 c3) rfl (by kernel_rfl) (by kernel_rfl) (by kernel_rfl) (fun _ _ _ h => h) (.inl ⟨by kernel_rfl, fun w _ => by kernel_rfl⟩) trivial ?_
        refine wpAnyH_ready (rs := [13]) (by kernel_rfl) (by simp) (AllReadyH.cons (i := 13) rfl (fun K' hK => ?_) .nil)
        rw [if_pos (by kernel_rfl)]
        go_wp2_with fail
        refine (place_row A2 [] 0 c2 rfl _ ?_ (by decide)).mono ?_
        · exact hr2
        rintro e w6 ⟨A6, c6, rfl, hr6, hb6⟩
        refine hK.out _ _ trivial fun _ => ?_
        clear hK
        refine wpAnyH_ready (rs := [15]) (by kernel_rfl) (by simp) (AllReadyH.cons (i := 15) rfl (fun K' hK => ?_) .nil)
        rw [if_pos (by kernel_rfl)]
        go_wp2_with fail
        refine (place_row A3 (List.map (moved i) []) 0 c3 rfl _ ?_ (by decide)).mono ?_
        · exact Row.below (by exact hr3') hb6 (by exact Nat.le_refl _)
        rintro e w7 ⟨A7, c7, rfl, hr7, hb7⟩
        refine hK.out _ _ trivial fun _ => ?_
        clear hK
        refine wpAnyH_ready (rs := [16]) (by kernel_rfl) (by simp) (AllReadyH.cons (i := 16) rfl (fun K' hK => ?_) .nil)
        rw [if_pos (by kernel_rfl)]
        go_wp2_with fail
        refine (same_self A6 A7 [] 0 c6 c7 rfl _ ?_ ?_ (by decide)).mono ?_
        · (intro hx; exact absurd rfl hx)
        · (intro hx; exact absurd rfl hx)
        rintro e w8 ⟨rfl, k2, rfl⟩
        refine hK.out _ _ trivial fun _ => ?_
        clear hK
        refine wpAnyH_take (i := 17) (v := .bool true) rfl (by kernel_rfl) (by kernel_rfl) (by kernel_rfl) (fun _ _ _ h => h) (.inl ⟨by kernel_rfl, fun w _ => by kernel_rfl⟩) trivial ?_
        refine wpAnyH_take (i := 18) (v := .bool true) rfl (by kernel_rfl) (by kernel_rfl) (by kernel_rfl) (fun _ _ _ h => h) (.inl ⟨by kernel_rfl, fun w _ => by kernel_rfl⟩) trivial ?_
        refine wpAnyH_take (i := 19) (v := .slice A2 0 c2) rfl (by kernel_rfl) (by kernel_rfl) (by kernel_rfl) (fun _ _ _ h => h) (.inl ⟨by kernel_rfl, fun w _ => by kernel_rfl⟩) trivial ?_
        refine wpAnyH_take (i := 20) (v := .int .i64 0) rfl (by kernel_rfl) (by kernel_rfl) (by kernel_rfl) (fun _ _ _ h => h) (.inl ⟨by kernel_rfl, fun w _ => by kernel_rfl⟩) trivial ?_
        refine wpAnyH_take (i := 21) (v := .bool true) rfl (by kernel_rfl) (by kernel_rfl) (by kernel_rfl) (fun _ _ _ h => h) (.inl ⟨by kernel_rfl, fun w _ => by kernel_rfl⟩) trivial ?_
        refine wpAnyH_take (i := 22) (v := .bool true) rfl (by kernel_rfl) (by kernel_rfl) (by kernel_rfl) (fun _ _ _ h => h) (.inl ⟨by kernel_rfl, fun w _ => by kernel_rfl⟩) trivial ?_
        refine wpAnyH_take (i := 23) (v := undef) rfl (by kernel_rfl) (by kernel_rfl) (by kernel_rfl) (fun _ _ _ h => h) (.inr ⟨by kernel_rfl, rfl⟩) trivial ?_
        refine wpAnyH_take (i := 24) (v := undef) rfl (by kernel_rfl) (by kernel_rfl) (by kernel_rfl) (fun _ _ _ h => h) (.inr ⟨by kernel_rfl, rfl⟩) trivial ?_
        refine wpAnyH_take (i := 25) (v := undef) rfl (by kernel_rfl) (by kernel_rfl) (by kernel_rfl) (fun _ _ _ h => h) (.inr ⟨by kernel_rfl, rfl⟩) trivial ?_
        refine wpAnyH_take (i := 26) (v := undef) rfl (by kernel_rfl) (by kernel_rfl) (by kernel_rfl) (fun _ _ _ h => h) (.inr ⟨by kernel_rfl, rfl⟩) trivial ?_
        refine wpAnyH_take (i := 27) (v := undef) rfl (by kernel_rfl) (by kernel_rfl) (by kernel_rfl) (fun _ _ _ h => h) (.inr ⟨by kernel_rfl, rfl⟩) trivial ?_
        refine wpAnyH_take (i := 28) (v := undef) rfl (by kernel_rfl) (by kernel_rfl) (by kernel_rfl) (fun _ _ _ h => h) (.inr ⟨by kernel_rfl, rfl⟩) trivial ?_
        refine wpAnyH_take (i := 29) (v := undef) rfl (by kernel_rfl) (by kernel_rfl) (by kernel_rfl) (fun _ _ _ h => h) (.inr ⟨by kernel_rfl, rfl⟩) trivial ?_
        refine wpAnyH_take (i := 30) (v := undef) rfl (by kernel_rfl) (by kernel_rfl) (by kernel_rfl) (fun _ _ _ h => h) (.inr ⟨by kernel_rfl, rfl⟩) trivial ?_
        refine wpAnyH_take (i := 31) (v := undef) rfl (by kernel_rfl) (by kernel_rfl) (by kernel_rfl) (fun _ _ _ h => h) (.inr ⟨by kernel_rfl, rfl⟩) trivial ?_
        refine wpAnyH_take (i := 32) (v := undef) rfl (by kernel_rfl) (by kernel_rfl) (by kernel_rfl) (fun _ _ _ h => h) (.inr ⟨by kernel_rfl, rfl⟩) trivial ?_
        refine wpAnyH_take (i := 33) (v := undef) rfl (by kernel_rfl) (by kernel_rfl) (by kernel_rfl) (fun _ _ _ h => h) (.inr ⟨by kernel_rfl, rfl⟩) trivial ?_
        refine wpAnyH_take (i := 34) (v := .bool true) rfl (by kernel_rfl) (by kernel_rfl) (by kernel_rfl) (fun _ _ _ h => h) (.inl ⟨by kernel_rfl, fun w _ => by kernel_rfl⟩) trivial ?_
        refine wpAnyH_take (i := 35) (v := .bool true) rfl (by kernel_rfl) (by kernel_rfl) (by kernel_rfl) (fun _ _ _ h => h) (.inl ⟨by kernel_rfl, fun w _ => by kernel_rfl⟩) trivial ?_
        refine wpAnyH_take (i := 36) (v := .bool true) rfl (by kernel_rfl) (by kernel_rfl) (by kernel_rfl) (fun _ _ _ h => h) (.inl ⟨by kernel_rfl, fun w _ => by kernel_rfl⟩) trivial ?_
        refine wpAnyH_done (by kernel_rfl) ?_ _
        go_wp2_with fail
        go_ret
        refine ⟨?_, below_drewN (((below_drewN hB4 (1 + k)).trans (hb6.mono hB4.size)).trans (hb7.mono (Nat.le_trans hB4.size hb6.size))) _⟩
        kernel_rfl
      · have hn0 : ((n : Int) == 0) = false := by simp; omega
        have h0l : 0 < ts.length := by rw [HN.out]; omega
        have h0m : 0 < (ts.map (moved i)).length := by rw [HNM.out]; omega
        obtain ⟨g, o, hA, _, _, _, d3⟩ := hr2.at_ h0l
        subst hA
        obtain ⟨g', o', hA, _, _, _, e3⟩ := hr3'.at_ h0m
        subst hA
        simp only [Nat.zero_mul, Nat.add_zero] at d3 e3
        have hmv : ((ts.map (moved i))[0]'h0m).place = (ts[0]'h0l).place + (i : Int) := by simp [moved]
        rw [hmv] at e3
        obtain ⟨q, hq, hql⟩ := HPl.out (ts[0]'h0l) (List.getElem_mem h0l)
        rw [← Lib.size_eq] at hql
        have hp0 : 0 ≤ (ts[0]'h0l).place := by omega
        have hp1 : (ts[0]'h0l).place ≤ 1000 := by omega
        generalize (ts[0]'h0l).place = pl at *
        clear hq hql hmv
        have ld := cell_lt d3
        have le := cell_lt e3
        have hpp : (pl + (i : Int) == pl + (i : Int)) = true := by simp
        have hnp : 0 < n := by omega
        have hni : (0 : Int) < (n : Int) := by omega
        have hwr : IntKind.i64.wrap (pl + (i : Int)) = pl + (i : Int) := IntWalk.i64_in _ (by omega)
        go_region_held3 (fun w' => w'.cell? ⟨g, o + 3, none⟩ = some (.int .i64 pl) ∧ w'.cell? ⟨g', o' + 3, none⟩ = some (.int .i64 (pl + (i : Int))))
          (first
            | go_keep
            | (exact ⟨(hb7.cell (p := ⟨g, o + 3, none⟩) (Nat.lt_of_lt_of_le ld hb6.size)).trans ((hb6.cell (p := ⟨g, o + 3, none⟩) ld).trans d3), (hb7.cell (p := ⟨g', o' + 3, none⟩) (Nat.lt_of_lt_of_le le hb6.size)).trans ((hb6.cell (p := ⟨g', o' + 3, none⟩) le).trans e3)⟩)
            | (exact ⟨(hb6.cell (p := ⟨g, o + 3, none⟩) ld).trans d3, (hb6.cell (p := ⟨g', o' + 3, none⟩) le).trans e3⟩))
          ((first
            | (go_at_call 12; (with_reducible refine (same_self A4 _ ts n c4 c2 HN.out _ ?_ ?_ hn2).mono ?_); exact hr4; exact hr2; rintro e w5 ⟨rfl, k, rfl⟩)
            | (go_at_call 17; (with_reducible refine (place_row (some ⟨g, o, none⟩) ts n c2 HN.out.symm _ ?_ hn2).mono ?_); exact hr2; rintro e w6 ⟨A6, c6, rfl, hr6, hb6⟩)
            | (go_at_call 17; (with_reducible refine (place_row (some ⟨g', o', none⟩) _ n c3 HNM.out.symm _ ?_ hn2).mono ?_); exact Row.below (by exact hr3') hb6 (by exact Nat.le_refl _); rintro e w7 ⟨A7, c7, rfl, hr7, hb7⟩)
            | (go_at_call 12; (with_reducible refine (same_self A6 A7 (ts.map noPlace) n c6 c7 (by simpa using HN.out) _ ?_ ?_ hn2).mono ?_); exact Row.below hr6 hb7 (Nat.le_refl _); rw [← HMP.out]; exact hr7; rintro e w8 ⟨rfl, k2, rfl⟩)))
        all_goals
          clear hwr
          go_wp2_with fail
          go_ret
          exact ⟨ret_bool (by simp), below_drewN (((below_drewN hB4 (1 + k)).trans (hb6.mono hB4.size)).trans (hb7.mono (Nat.le_trans hB4.size hb6.size))) _⟩

theorem lawSpaces_any (s : ByteArray) (n : Int) (w : World) (hg : Signs w) : Calls Tryd.prog 7 #[.string s, .int .i64 n] w fun e w' => e = .returned (.bool true) ∧ Below w.heap.size w w' := by
  by_cases h1 : 1000 < s.size
  · exact spaces_big s n w hg (.inl h1)
  by_cases h2 : n < 0
  · exact spaces_big s n w hg (.inr (.inl ⟨by omega, h2⟩))
  by_cases h3 : 50 < n
  · exact spaces_big s n w hg (.inr (.inr ⟨by omega, by omega, h3⟩))
  obtain ⟨N, rfl⟩ := Int.eq_ofNat_of_zero_le (Int.not_lt.1 h2)
  cases hk : allK s.data.toList with
  | ok ts => exact spaces_ok s N w hg (by omega) (by omega) ts ts.length rfl hk
  | error px =>
    obtain ⟨p, x⟩ := px
    have hx := err_code hk
    exact spaces_bad s N w hg (by omega) (by omega) p x (by rcases hx with rfl | rfl <;> rfl) hk
end Lx
end Go.Proofs.YthfchcnmedklbaaDoor
