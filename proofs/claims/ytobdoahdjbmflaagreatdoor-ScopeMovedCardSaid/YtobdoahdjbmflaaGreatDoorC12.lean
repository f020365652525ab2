/-
  Texts that lie one behind the other: RcF.
-/
import Derived.Test.YtobdoahdjbmflaaGreatDoorC11
import Derived.Test.YtobdoahdjbmflaaGreatDoorC1
import Derived.Test.YtobdoahdjbmflaaGreatDoorC6
import Derived.Maps.AppendAt
import Derived.Deep.RegionHeld3
import Derived.Deep.DrawnRows
namespace Go.Proofs.YtobdoahdjbmflaaGreatDoor
open Go.RowKit
namespace Lx
set_option maxRecDepth 100000
theorem innerN_len (k n : Int) (s : ByteArray) (i : Nat) (l : List Tr) (b : List ByteArray) (h9 : l.length ≤ 9) (h0 : k = 8 → 0 ≤ n) (hn : k = 8 → n ≤ l.length) : (innerN k n s i l b).length ≤ b.length + 9 := by
  unfold innerN
  split
  · simp
  · split
    · split <;> simp
    · split
      · rename_i h; have := varsN_len l n (h0 h) (hn h); simp only [List.length_append]; omega
      · omega
set_option maxHeartbeats 16000000 in
theorem check5_any (AA : List (ByteArray × Int)) (Al : Option Addr) (d : Nat) : ∀ (t : Tr) (A : Option Addr) (c : Nat) (b ah : List ByteArray) (Ab : Option Addr) (cb : Nat) (Ah : Option Addr) (ch cl : Nat) (w : World), depthT t ≤ d → okT t → b.length + 9 * d ≤ 70000 → ah.length ≤ 10000 → TIn w Any t A → SIn w Any b Ab → (Ab = none → cb = 0) → SIn w Any ah Ah → AA.length ≤ 10000 → AIn w Any AA Al →
    Calls Tryz.prog 29 #[tv t A c, .slice Ab b.length cb, .slice Ah ah.length ch, .slice Al AA.length cl] w fun e w' => e = .returned (.tuple #[.int .i64 (badT AA b ah t).1, .int .i64 (badT AA b ah t).2]) ∧ Below w.heap.size w w' := by
  induction d with
  | zero => intro t A c b ah Ab cb Ah ch cl w h; cases t; rw [depthT] at h; omega
  | succ d ih =>
    intro t A c b ah Ab cb Ah ch cl w hd hok hbl hal hI hB hAb hAh haa hAl
    obtain ⟨k, s, n, a, l⟩ := t
    have hdL : depthL l ≤ d := by rw [depthT] at hd; omega
    rw [okT] at hok
    rw [TIn] at hI
    have HI := Lib.hid hI.2.2
    have HOK := Lib.hid hok.2
    have hn8 : k = 8 → 0 ≤ n := fun e => (hok.1.1 e).1
    have h9 : l.length ≤ 9 := hok.1.2.2.2.2.2.2
    have HFM0 : fromN k n ≤ l.length := by
      rw [fromN]
      split
      · rename_i h; have := hok.1.1 h; omega
      · omega
    have HSK : Hid (badL AA k n s l b 0 [] l = badL AA k n s l b (fromN k n) [] (l.drop (fromN k n))) := Lib.hid (by have := badL_skip AA k n s l b 0 (by omega) HFM0; simpa using this)
    show Calls Tryz.prog 29 #[.agg #[.int .i64 k, .string s, .int .i64 n, .int .i64 a, .slice A l.length (capF l.length c)], .slice Ab b.length cb, .slice Ah ah.length ch, .slice Al AA.length cl] w _
    generalize capF l.length c = c
    have h8m : k = 8 → 0 ≤ n ∧ n ≤ (l.length : Int) := fun e => by have := hok.1.1 e; omega
    obtain ⟨m, hm⟩ : ∃ m, m = l.length := ⟨_, rfl⟩
    obtain ⟨mb, hmb⟩ : ∃ m, m = b.length := ⟨_, rfl⟩
    obtain ⟨mh, hmh⟩ : ∃ m, m = ah.length := ⟨_, rfl⟩
    obtain ⟨ml, hml⟩ : ∃ m, m = AA.length := ⟨_, rfl⟩
    rw [← hm] at h8m ⊢
    rw [← hmb, ← hmh, ← hml]
    have HOWN0 := Lib.hid (fun W => own5_any k n a s A l m c W hm)
    obtain ⟨O, hOe⟩ : ∃ O, O = ownN k n l := ⟨_, rfl⟩
    rw [← hOe] at HOWN0
    have hm1 : m ≤ l.length := by omega
    have hm2 : l.length ≤ m := by omega
    have hm9 : m ≤ 9 := by omega
    have hmb9 : mb + 9 * (d + 1) ≤ 70000 := by omega
    have hmh9 : mh ≤ 10000 := by omega
    have hml9 : ml ≤ 10000 := by omega
    have HM := Lib.hid hm
    have HMB := Lib.hid hmb
    have HMH := Lib.hid hmh
    have HML := Lib.hid hml
    have HFM : Hid (fromN k n ≤ m) := Lib.hid (by omega)
    have HB := Lib.hid hB
    have HAB := Lib.hid hAb
    have HAH := Lib.hid hAh
    have HAL0 : Hid (∀ X, Below w.heap.size w X → AIn X Any AA Al) := Lib.hid fun X h => AIn.below hAl h (Nat.le_refl _)
    have HOWN : Hid (∀ X, Below w.heap.size w X → Calls Tryz.prog 45 #[.agg #[.int .i64 k, .string s, .int .i64 n, .int .i64 a, .slice A m c]] X fun e w' => e = .returned (.int .i64 O) ∧ Below X.heap.size X w') := Lib.hid fun X _ => HOWN0.out X
    obtain ⟨q, hq⟩ : ∃ q, q = ofN AA s := ⟨_, rfl⟩
    have HOF0 := Lib.hid (fun X (hX : AIn X Any AA Al) => of5_any AA s Al ml cl X hml (by omega) hX)
    rw [← hq] at HOF0
    have HIN0 := fun (L : List ByteArray) (z : ByteArray) (B : Option Addr) (bm bc : Nat) => Lib.hid (fun (X : World) (h1 : bm = L.length) (h2 : bm ≤ 100000) (hX : SIn X Any L B) => in5_any L z B bm bc X h1 h2 hX)
    obtain ⟨i0, hi0', hz0, hz1, hz2⟩ := info_parts infoS
    have hb00 : Below w.heap.size w (w.alloc (.cells #[.int .i64 k, .string s, .int .i64 n, .int .i64 a, .slice A m c] 24)) := (Below.refl _ w).alloc (Nat.le_refl _) _
    have hL00 := Lies.new w 24 #[.int .i64 k, .string s, .int .i64 n, .int .i64 a, .slice A m c]
    clear hm hmb hmh hml hd hok hI hAl hB hAb hAh hbl hal haa HOWN0 HFM0 h9
    go_enter Tryz.func29, Tryz.ntmps29
    go_upto_region 1 with fail
    have hb := hb00
    have hL := hL00
    clear hb00 hL00
    generalize w.alloc (.cells #[.int .i64 k, .string s, .int .i64 n, .int .i64 a, .slice A m c] 24) = W0 at *
    obtain ⟨⟨x0, x1, x2, x3, x4⟩, _⟩ := hL.five
    go_cut [23] from 14 (fun v wx => ∃ bb : Bool, v = .bool bb ∧ Hid (bb = true ↔ (k = 1 ∧ inN b s = false)) ∧ Lies wx w.heap.size 24 #[.int .i64 k, .string s, .int .i64 n, .int .i64 a, .slice A m c] ∧ Below w.heap.size w wx)
    case first =>
      by_cases hk : k = 1
      · have e1 : (k == 1) = true := by simpa using hk
        have HK := Lib.hid hk
        clear hk
        have HIA2 := (HIN0 b s Ab mb cb).out W0 HMB.out (by omega) (SIn.below HB.out hb (Nat.le_refl _))
        cases hib : inN b s with
        | false =>
          rw [hib] at HIA2
          replace HIA2 := Lib.hid HIA2
          replace hib := Lib.hid hib
          go_wp2_with fail
          refine HIA2.out.mono ?_
          rintro e w4 ⟨rfl, hb4⟩
          replace hb := hb.trans (hb4.mono hb.size)
          replace hL := hL.below hb4 hL.lt
          clear x0 x1 x2 x3 x4 hb4
          go_wp2_with fail
          go_meet
          exact ⟨true, rfl, Lib.hid (⟨fun _ => ⟨HK.out, hib.out⟩, fun _ => rfl⟩), hL, hb⟩
        | true =>
          rw [hib] at HIA2
          replace HIA2 := Lib.hid HIA2
          replace hib := Lib.hid hib
          go_wp2_with fail
          refine HIA2.out.mono ?_
          rintro e w4 ⟨rfl, hb4⟩
          replace hb := hb.trans (hb4.mono hb.size)
          replace hL := hL.below hb4 hL.lt
          clear x0 x1 x2 x3 x4 hb4
          go_wp2_with fail
          go_meet
          exact ⟨false, rfl, Lib.hid (⟨fun h => Bool.noConfusion h, fun h => by rw [hib.out] at h; cases h.2⟩), hL, hb⟩
      · have e1 : (k == 1) = false := by simpa using hk
        have HK := Lib.hid hk
        clear hk
        go_wp2_with fail
        go_meet
        exact ⟨false, rfl, Lib.hid (⟨fun h => Bool.noConfusion h, fun h => absurd h.1 HK.out⟩), hL, hb⟩
    case rest =>
      clear x0 x1 x2 x3 x4 hL hb
      obtain ⟨bb, rfl, HBB, hL, hb⟩ := hcut
      obtain ⟨⟨x0, x1, x2, x3, x4⟩, _⟩ := hL.five
      cases bb with
      | true =>
        have HP : Hid (k = 1 ∧ inN b s = false) := Lib.hid (HBB.out.1 rfl)
        have HR : Hid (badT AA b ah (.node k s n a l) = (a, 50)) := Lib.hid (by rw [badT, if_pos HP.out])
        go_wp2_with fail
        go_ret2
        exact ⟨by show Ending.returned (.tuple #[.int .i64 a, .int .i64 50]) = _; rw [HR.out], hb⟩
      | false =>
        have HP : Hid (¬ (k = 1 ∧ inN b s = false)) := Lib.hid (fun h => by have := HBB.out.2 h; cases this)
        clear HBB
        have h1f := HP
        clear HP
        go_upto_region 3 with fail
        go_cut [37] from 26 (fun v wx => ∃ bb : Bool, v = .bool bb ∧ Hid (bb = true ↔ (0 ≤ ownN k n l ∧ ofN AA s ≠ ownN k n l)) ∧ Lies wx w.heap.size 24 #[.int .i64 k, .string s, .int .i64 n, .int .i64 a, .slice A m c] ∧ Below w.heap.size w wx)
        case first =>
          clear x0 x1 x2 x3 x4
          by_cases hO : 0 ≤ O
          · have hd : decide (0 ≤ O) = true := decide_eq_true hO
            by_cases hqO : q = O
            · have HPX : Hid (¬ (0 ≤ ownN k n l ∧ ofN AA s ≠ ownN k n l)) := Lib.hid (fun h => absurd (by rw [← hq, ← hOe]; exact hqO) h.2)
              have hne : (q != O) = false := by simpa using hqO
              clear hqO hq hOe
              have HSS : Hid (∀ V', Below wc.heap.size wc V' → (fun V' : World => (V'.cell? ⟨w.heap.size, 0, none⟩ = some (.int .i64 k) ∧ V'.cell? ⟨w.heap.size, 1, none⟩ = some (.string s) ∧ V'.cell? ⟨w.heap.size, 2, none⟩ = some (.int .i64 n) ∧ V'.cell? ⟨w.heap.size, 3, none⟩ = some (.int .i64 a) ∧ V'.cell? ⟨w.heap.size, 4, none⟩ = some (.slice A m c))) V') := Lib.hid fun V' h =>
                ⟨(h.cell (p := ⟨w.heap.size, 0, none⟩) hL.lt).trans (hL.cell 0), (h.cell (p := ⟨w.heap.size, 1, none⟩) hL.lt).trans (hL.cell 1), (h.cell (p := ⟨w.heap.size, 2, none⟩) hL.lt).trans (hL.cell 2), (h.cell (p := ⟨w.heap.size, 3, none⟩) hL.lt).trans (hL.cell 3), (h.cell (p := ⟨w.heap.size, 4, none⟩) hL.lt).trans (hL.cell 4)⟩
              replace HOWN : Hid (∀ X, Below wc.heap.size wc X → Calls Tryz.prog 45 #[.agg #[.int .i64 k, .string s, .int .i64 n, .int .i64 a, .slice A m c]] X fun e w' => e = .returned (.int .i64 O) ∧ Below X.heap.size X w') := Lib.hid fun X hX => HOWN.out X (hb.trans (hX.mono hb.size))
              have HOFC : Hid (∀ X, Below wc.heap.size wc X → Calls Tryz.prog 21 #[.slice Al ml cl, .string s] X fun e w' => e = .returned (.int .i64 q) ∧ Below X.heap.size X w') := Lib.hid fun X hX => HOF0.out X (HAL0.out X (hb.trans (hX.mono hb.size)))
              have hb_1 : Below wc.heap.size wc wc := Below.refl _ _
              refine wp_region_held_drew (S := (fun V' : World => (V'.cell? ⟨w.heap.size, 0, none⟩ = some (.int .i64 k) ∧ V'.cell? ⟨w.heap.size, 1, none⟩ = some (.string s) ∧ V'.cell? ⟨w.heap.size, 2, none⟩ = some (.int .i64 n) ∧ V'.cell? ⟨w.heap.size, 3, none⟩ = some (.int .i64 a) ∧ V'.cell? ⟨w.heap.size, 4, none⟩ = some (.slice A m c)))) rfl (HSS.out _ hb_1.drew) (fun hSs => ?_)
              change wpAnyH _ _ _ _ _ 12 (Array.replicate 12 false) _ _
              refine wpAnyH_take (i := 0) (oi := ⟨some 26, _, _, _, _, _⟩) (v := .agg #[.int .i64 k, .string s, .int .i64 n, .int .i64 a, .slice A m c]) rfl (by kernel_rfl) (by kernel_rfl) (by kernel_rfl) (fun _ _ _ h => h) (.inl ⟨by kernel_rfl, fun W hW => by first | (obtain ⟨z0, z1, z2, z3, z4⟩ := hW; go_simp; done) | (obtain ⟨z0, z1, z2, z3, z4⟩ := hW; go_simp; omega) | (obtain ⟨z0, z1, z2, z3, z4⟩ := hW; go_simp; exact IntWalk.i64_in _ (by omega)) | (obtain ⟨z0, z1, z2, z3, z4⟩ := hW; go_simp; simp [*]; done)⟩) hSs ?_
              try simp only [Act.put, List.setIfInBounds_toArray, List.set_cons_zero, List.set_cons_succ]
              refine wpAnyH_ready (rs := [1]) (by kernel_rfl) (by simp) (AllReadyH.cons rfl (fun K hK => ?_) AllReadyH.nil)
              go_simp
              refine (HOWN.out _ (hb_1.drew) ).mono ?_
              rintro e u_2 ⟨rfl, hq_2⟩
              have hb_2 := (hb_1.drew).trans (hq_2.mono (hb_1.drew).size)
              refine hK.out _ _ (HSS.out _ hb_2) (fun hS_2 => ?_)
              clear hK K
              try simp only [Act.put, List.setIfInBounds_toArray, List.set_cons_zero, List.set_cons_succ]
              refine wpAnyH_take (i := 2) (oi := ⟨some 28, _, _, _, _, _⟩) (v := .bool true) rfl (by kernel_rfl) (by kernel_rfl) (by kernel_rfl) (fun _ _ _ h => h) (.inl ⟨by kernel_rfl, fun W hW => by first | (obtain ⟨z0, z1, z2, z3, z4⟩ := hW; go_simp; done) | (obtain ⟨z0, z1, z2, z3, z4⟩ := hW; go_simp; omega) | (obtain ⟨z0, z1, z2, z3, z4⟩ := hW; go_simp; exact IntWalk.i64_in _ (by omega)) | (obtain ⟨z0, z1, z2, z3, z4⟩ := hW; go_simp; simp [*]; done)⟩) hS_2 ?_
              try simp only [Act.put, List.setIfInBounds_toArray, List.set_cons_zero, List.set_cons_succ]
              refine wpAnyH_take (i := 3) (oi := ⟨some 29, _, _, _, _, _⟩) (v := .bool true) rfl (by kernel_rfl) (by kernel_rfl) (by kernel_rfl) (fun _ _ _ h => h) (.inl ⟨by kernel_rfl, fun W hW => by kernel_rfl⟩) hS_2 ?_
              try simp only [Act.put, List.setIfInBounds_toArray, List.set_cons_zero, List.set_cons_succ]
              refine wpAnyH_take (i := 4) (oi := ⟨some 30, _, _, _, _, _⟩) (v := .slice Al ml cl) rfl (by kernel_rfl) (by kernel_rfl) (by kernel_rfl) (fun _ _ _ h => h) (.inl ⟨by kernel_rfl, fun W hW => by kernel_rfl⟩) hS_2 ?_
              try simp only [Act.put, List.setIfInBounds_toArray, List.set_cons_zero, List.set_cons_succ]
              refine wpAnyH_take (i := 5) (oi := ⟨some 31, _, _, _, _, _⟩) (v := .pointer (some ⟨w.heap.size, 1, none⟩)) rfl (by kernel_rfl) (by kernel_rfl) (by kernel_rfl) (fun _ _ _ h => h) (.inl ⟨by kernel_rfl, fun W hW => by first | (obtain ⟨z0, z1, z2, z3, z4⟩ := hW; go_simp; done) | (obtain ⟨z0, z1, z2, z3, z4⟩ := hW; go_simp; omega) | (obtain ⟨z0, z1, z2, z3, z4⟩ := hW; go_simp; exact IntWalk.i64_in _ (by omega)) | (obtain ⟨z0, z1, z2, z3, z4⟩ := hW; go_simp; simp [*]; done)⟩) hS_2 ?_
              try simp only [Act.put, List.setIfInBounds_toArray, List.set_cons_zero, List.set_cons_succ]
              refine wpAnyH_take (i := 6) (oi := ⟨some 32, _, _, _, _, _⟩) (v := .string s) rfl (by kernel_rfl) (by kernel_rfl) (by kernel_rfl) (fun _ _ _ h => h) (.inl ⟨by kernel_rfl, fun W hW => by first | (obtain ⟨z0, z1, z2, z3, z4⟩ := hW; go_simp; done) | (obtain ⟨z0, z1, z2, z3, z4⟩ := hW; go_simp; omega) | (obtain ⟨z0, z1, z2, z3, z4⟩ := hW; go_simp; exact IntWalk.i64_in _ (by omega)) | (obtain ⟨z0, z1, z2, z3, z4⟩ := hW; go_simp; simp [*]; done)⟩) hS_2 ?_
              try simp only [Act.put, List.setIfInBounds_toArray, List.set_cons_zero, List.set_cons_succ]
              refine wpAnyH_take (i := 8) (oi := ⟨some 34, _, _, _, _, _⟩) (v := .agg #[.int .i64 k, .string s, .int .i64 n, .int .i64 a, .slice A m c]) rfl (by kernel_rfl) (by kernel_rfl) (by kernel_rfl) (fun _ _ _ h => h) (.inl ⟨by kernel_rfl, fun W hW => by first | (obtain ⟨z0, z1, z2, z3, z4⟩ := hW; go_simp; done) | (obtain ⟨z0, z1, z2, z3, z4⟩ := hW; go_simp; omega) | (obtain ⟨z0, z1, z2, z3, z4⟩ := hW; go_simp; exact IntWalk.i64_in _ (by omega)) | (obtain ⟨z0, z1, z2, z3, z4⟩ := hW; go_simp; simp [*]; done)⟩) hS_2 ?_
              try simp only [Act.put, List.setIfInBounds_toArray, List.set_cons_zero, List.set_cons_succ]
              refine wpAnyH_ready (rs := [7]) (by kernel_rfl) (by simp) (AllReadyH.cons rfl (fun K hK => ?_) AllReadyH.nil)
              go_simp
              refine (HOFC.out _ hb_2 ).mono ?_
              rintro e u_3 ⟨rfl, hq_3⟩
              have hb_3 := hb_2.trans (hq_3.mono hb_2.size)
              refine hK.out _ _ (HSS.out _ hb_3) (fun hS_3 => ?_)
              clear hK K
              try simp only [Act.put, List.setIfInBounds_toArray, List.set_cons_zero, List.set_cons_succ]
              refine wpAnyH_ready (rs := [9]) (by kernel_rfl) (by simp) (AllReadyH.cons rfl (fun K hK => ?_) AllReadyH.nil)
              go_simp
              refine (HOWN.out _ hb_3 ).mono ?_
              rintro e u_4 ⟨rfl, hq_4⟩
              have hb_4 := hb_3.trans (hq_4.mono hb_3.size)
              refine hK.out _ _ (HSS.out _ hb_4) (fun hS_4 => ?_)
              clear hK K
              try simp only [Act.put, List.setIfInBounds_toArray, List.set_cons_zero, List.set_cons_succ]
              refine wpAnyH_take (i := 10) (oi := ⟨some 36, _, _, _, _, _⟩) (v := .bool false) rfl (by kernel_rfl) (by kernel_rfl) (by kernel_rfl) (fun _ _ _ h => h) (.inl ⟨by kernel_rfl, fun W hW => by first | (obtain ⟨z0, z1, z2, z3, z4⟩ := hW; go_simp; done) | (obtain ⟨z0, z1, z2, z3, z4⟩ := hW; go_simp; omega) | (obtain ⟨z0, z1, z2, z3, z4⟩ := hW; go_simp; exact IntWalk.i64_in _ (by omega)) | (obtain ⟨z0, z1, z2, z3, z4⟩ := hW; go_simp; simp [*]; done)⟩) hS_4 ?_
              try simp only [Act.put, List.setIfInBounds_toArray, List.set_cons_zero, List.set_cons_succ]
              refine wpAnyH_take (i := 11) (oi := ⟨some 37, _, _, _, _, _⟩) (v := .bool false) rfl (by kernel_rfl) (by kernel_rfl) (by kernel_rfl) (fun _ _ _ h => h) (.inl ⟨by kernel_rfl, fun W hW => by kernel_rfl⟩) hS_4 ?_
              try simp only [Act.put, List.setIfInBounds_toArray, List.set_cons_zero, List.set_cons_succ]
              refine wpAnyH_done (by kernel_rfl) ?_ _
              have hb9 := hb.trans (hb_4.mono hb.size)
              have hL9 := hL.below hb_4 hL.lt
              generalize u_4 = V9 at *
              clear hS_4
              go_wp2_with fail
              go_meet
              exact ⟨false, rfl, Lib.hid (⟨fun h => Bool.noConfusion h, fun h => absurd h HPX.out⟩), hL9, hb9⟩
            · have HPX : Hid (0 ≤ ownN k n l ∧ ofN AA s ≠ ownN k n l) := Lib.hid ⟨by rw [← hOe]; exact hO, by rw [← hq, ← hOe]; exact hqO⟩
              have hne : (q != O) = true := by simpa using hqO
              clear hqO hq hOe
              have HSS : Hid (∀ V', Below wc.heap.size wc V' → (fun V' : World => (V'.cell? ⟨w.heap.size, 0, none⟩ = some (.int .i64 k) ∧ V'.cell? ⟨w.heap.size, 1, none⟩ = some (.string s) ∧ V'.cell? ⟨w.heap.size, 2, none⟩ = some (.int .i64 n) ∧ V'.cell? ⟨w.heap.size, 3, none⟩ = some (.int .i64 a) ∧ V'.cell? ⟨w.heap.size, 4, none⟩ = some (.slice A m c))) V') := Lib.hid fun V' h =>
                ⟨(h.cell (p := ⟨w.heap.size, 0, none⟩) hL.lt).trans (hL.cell 0), (h.cell (p := ⟨w.heap.size, 1, none⟩) hL.lt).trans (hL.cell 1), (h.cell (p := ⟨w.heap.size, 2, none⟩) hL.lt).trans (hL.cell 2), (h.cell (p := ⟨w.heap.size, 3, none⟩) hL.lt).trans (hL.cell 3), (h.cell (p := ⟨w.heap.size, 4, none⟩) hL.lt).trans (hL.cell 4)⟩
              replace HOWN : Hid (∀ X, Below wc.heap.size wc X → Calls Tryz.prog 45 #[.agg #[.int .i64 k, .string s, .int .i64 n, .int .i64 a, .slice A m c]] X fun e w' => e = .returned (.int .i64 O) ∧ Below X.heap.size X w') := Lib.hid fun X hX => HOWN.out X (hb.trans (hX.mono hb.size))
              have HOFC : Hid (∀ X, Below wc.heap.size wc X → Calls Tryz.prog 21 #[.slice Al ml cl, .string s] X fun e w' => e = .returned (.int .i64 q) ∧ Below X.heap.size X w') := Lib.hid fun X hX => HOF0.out X (HAL0.out X (hb.trans (hX.mono hb.size)))
              have hb_1 : Below wc.heap.size wc wc := Below.refl _ _
              refine wp_region_held_drew (S := (fun V' : World => (V'.cell? ⟨w.heap.size, 0, none⟩ = some (.int .i64 k) ∧ V'.cell? ⟨w.heap.size, 1, none⟩ = some (.string s) ∧ V'.cell? ⟨w.heap.size, 2, none⟩ = some (.int .i64 n) ∧ V'.cell? ⟨w.heap.size, 3, none⟩ = some (.int .i64 a) ∧ V'.cell? ⟨w.heap.size, 4, none⟩ = some (.slice A m c)))) rfl (HSS.out _ hb_1.drew) (fun hSs => ?_)
              change wpAnyH _ _ _ _ _ 12 (Array.replicate 12 false) _ _
              refine wpAnyH_take (i := 0) (oi := ⟨some 26, _, _, _, _, _⟩) (v := .agg #[.int .i64 k, .string s, .int .i64 n, .int .i64 a, .slice A m c]) rfl (by kernel_rfl) (by kernel_rfl) (by kernel_rfl) (fun _ _ _ h => h) (.inl ⟨by kernel_rfl, fun W hW => by first | (obtain ⟨z0, z1, z2, z3, z4⟩ := hW; go_simp; done) | (obtain ⟨z0, z1, z2, z3, z4⟩ := hW; go_simp; omega) | (obtain ⟨z0, z1, z2, z3, z4⟩ := hW; go_simp; exact IntWalk.i64_in _ (by omega)) | (obtain ⟨z0, z1, z2, z3, z4⟩ := hW; go_simp; simp [*]; done)⟩) hSs ?_
              try simp only [Act.put, List.setIfInBounds_toArray, List.set_cons_zero, List.set_cons_succ]
              refine wpAnyH_ready (rs := [1]) (by kernel_rfl) (by simp) (AllReadyH.cons rfl (fun K hK => ?_) AllReadyH.nil)
              go_simp
              refine (HOWN.out _ (hb_1.drew) ).mono ?_
              rintro e u_2 ⟨rfl, hq_2⟩
              have hb_2 := (hb_1.drew).trans (hq_2.mono (hb_1.drew).size)
              refine hK.out _ _ (HSS.out _ hb_2) (fun hS_2 => ?_)
              clear hK K
              try simp only [Act.put, List.setIfInBounds_toArray, List.set_cons_zero, List.set_cons_succ]
              refine wpAnyH_take (i := 2) (oi := ⟨some 28, _, _, _, _, _⟩) (v := .bool true) rfl (by kernel_rfl) (by kernel_rfl) (by kernel_rfl) (fun _ _ _ h => h) (.inl ⟨by kernel_rfl, fun W hW => by first | (obtain ⟨z0, z1, z2, z3, z4⟩ := hW; go_simp; done) | (obtain ⟨z0, z1, z2, z3, z4⟩ := hW; go_simp; omega) | (obtain ⟨z0, z1, z2, z3, z4⟩ := hW; go_simp; exact IntWalk.i64_in _ (by omega)) | (obtain ⟨z0, z1, z2, z3, z4⟩ := hW; go_simp; simp [*]; done)⟩) hS_2 ?_
              try simp only [Act.put, List.setIfInBounds_toArray, List.set_cons_zero, List.set_cons_succ]
              refine wpAnyH_take (i := 3) (oi := ⟨some 29, _, _, _, _, _⟩) (v := .bool true) rfl (by kernel_rfl) (by kernel_rfl) (by kernel_rfl) (fun _ _ _ h => h) (.inl ⟨by kernel_rfl, fun W hW => by kernel_rfl⟩) hS_2 ?_
              try simp only [Act.put, List.setIfInBounds_toArray, List.set_cons_zero, List.set_cons_succ]
              refine wpAnyH_take (i := 4) (oi := ⟨some 30, _, _, _, _, _⟩) (v := .slice Al ml cl) rfl (by kernel_rfl) (by kernel_rfl) (by kernel_rfl) (fun _ _ _ h => h) (.inl ⟨by kernel_rfl, fun W hW => by kernel_rfl⟩) hS_2 ?_
              try simp only [Act.put, List.setIfInBounds_toArray, List.set_cons_zero, List.set_cons_succ]
              refine wpAnyH_take (i := 5) (oi := ⟨some 31, _, _, _, _, _⟩) (v := .pointer (some ⟨w.heap.size, 1, none⟩)) rfl (by kernel_rfl) (by kernel_rfl) (by kernel_rfl) (fun _ _ _ h => h) (.inl ⟨by kernel_rfl, fun W hW => by first | (obtain ⟨z0, z1, z2, z3, z4⟩ := hW; go_simp; done) | (obtain ⟨z0, z1, z2, z3, z4⟩ := hW; go_simp; omega) | (obtain ⟨z0, z1, z2, z3, z4⟩ := hW; go_simp; exact IntWalk.i64_in _ (by omega)) | (obtain ⟨z0, z1, z2, z3, z4⟩ := hW; go_simp; simp [*]; done)⟩) hS_2 ?_
              try simp only [Act.put, List.setIfInBounds_toArray, List.set_cons_zero, List.set_cons_succ]
              refine wpAnyH_take (i := 6) (oi := ⟨some 32, _, _, _, _, _⟩) (v := .string s) rfl (by kernel_rfl) (by kernel_rfl) (by kernel_rfl) (fun _ _ _ h => h) (.inl ⟨by kernel_rfl, fun W hW => by first | (obtain ⟨z0, z1, z2, z3, z4⟩ := hW; go_simp; done) | (obtain ⟨z0, z1, z2, z3, z4⟩ := hW; go_simp; omega) | (obtain ⟨z0, z1, z2, z3, z4⟩ := hW; go_simp; exact IntWalk.i64_in _ (by omega)) | (obtain ⟨z0, z1, z2, z3, z4⟩ := hW; go_simp; simp [*]; done)⟩) hS_2 ?_
              try simp only [Act.put, List.setIfInBounds_toArray, List.set_cons_zero, List.set_cons_succ]
              refine wpAnyH_take (i := 8) (oi := ⟨some 34, _, _, _, _, _⟩) (v := .agg #[.int .i64 k, .string s, .int .i64 n, .int .i64 a, .slice A m c]) rfl (by kernel_rfl) (by kernel_rfl) (by kernel_rfl) (fun _ _ _ h => h) (.inl ⟨by kernel_rfl, fun W hW => by first | (obtain ⟨z0, z1, z2, z3, z4⟩ := hW; go_simp; done) | (obtain ⟨z0, z1, z2, z3, z4⟩ := hW; go_simp; omega) | (obtain ⟨z0, z1, z2, z3, z4⟩ := hW; go_simp; exact IntWalk.i64_in _ (by omega)) | (obtain ⟨z0, z1, z2, z3, z4⟩ := hW; go_simp; simp [*]; done)⟩) hS_2 ?_
              try simp only [Act.put, List.setIfInBounds_toArray, List.set_cons_zero, List.set_cons_succ]
              refine wpAnyH_ready (rs := [7]) (by kernel_rfl) (by simp) (AllReadyH.cons rfl (fun K hK => ?_) AllReadyH.nil)
              go_simp
              refine (HOFC.out _ hb_2 ).mono ?_
              rintro e u_3 ⟨rfl, hq_3⟩
              have hb_3 := hb_2.trans (hq_3.mono hb_2.size)
              refine hK.out _ _ (HSS.out _ hb_3) (fun hS_3 => ?_)
              clear hK K
              try simp only [Act.put, List.setIfInBounds_toArray, List.set_cons_zero, List.set_cons_succ]
              refine wpAnyH_ready (rs := [9]) (by kernel_rfl) (by simp) (AllReadyH.cons rfl (fun K hK => ?_) AllReadyH.nil)
              go_simp
              refine (HOWN.out _ hb_3 ).mono ?_
              rintro e u_4 ⟨rfl, hq_4⟩
              have hb_4 := hb_3.trans (hq_4.mono hb_3.size)
              refine hK.out _ _ (HSS.out _ hb_4) (fun hS_4 => ?_)
              clear hK K
              try simp only [Act.put, List.setIfInBounds_toArray, List.set_cons_zero, List.set_cons_succ]
              refine wpAnyH_take (i := 10) (oi := ⟨some 36, _, _, _, _, _⟩) (v := .bool true) rfl (by kernel_rfl) (by kernel_rfl) (by kernel_rfl) (fun _ _ _ h => h) (.inl ⟨by kernel_rfl, fun W hW => by first | (obtain ⟨z0, z1, z2, z3, z4⟩ := hW; go_simp; done) | (obtain ⟨z0, z1, z2, z3, z4⟩ := hW; go_simp; omega) | (obtain ⟨z0, z1, z2, z3, z4⟩ := hW; go_simp; exact IntWalk.i64_in _ (by omega)) | (obtain ⟨z0, z1, z2, z3, z4⟩ := hW; go_simp; simp [*]; done)⟩) hS_4 ?_
              try simp only [Act.put, List.setIfInBounds_toArray, List.set_cons_zero, List.set_cons_succ]
              refine wpAnyH_take (i := 11) (oi := ⟨some 37, _, _, _, _, _⟩) (v := .bool true) rfl (by kernel_rfl) (by kernel_rfl) (by kernel_rfl) (fun _ _ _ h => h) (.inl ⟨by kernel_rfl, fun W hW => by kernel_rfl⟩) hS_4 ?_
              try simp only [Act.put, List.setIfInBounds_toArray, List.set_cons_zero, List.set_cons_succ]
              refine wpAnyH_done (by kernel_rfl) ?_ _
              have hb9 := hb.trans (hb_4.mono hb.size)
              have hL9 := hL.below hb_4 hL.lt
              generalize u_4 = V9 at *
              clear hS_4
              go_wp2_with fail
              go_meet
              exact ⟨true, rfl, Lib.hid (⟨fun _ => HPX.out, fun _ => rfl⟩), hL9, hb9⟩
          · have hd : decide (0 ≤ O) = false := decide_eq_false hO
            have HPX : Hid (¬ (0 ≤ ownN k n l ∧ ofN AA s ≠ ownN k n l)) := Lib.hid (fun h => by rw [← hOe] at h; omega)
            clear hq hOe
            have HSS : Hid (∀ V', Below wc.heap.size wc V' → (fun V' : World => (V'.cell? ⟨w.heap.size, 0, none⟩ = some (.int .i64 k) ∧ V'.cell? ⟨w.heap.size, 1, none⟩ = some (.string s) ∧ V'.cell? ⟨w.heap.size, 2, none⟩ = some (.int .i64 n) ∧ V'.cell? ⟨w.heap.size, 3, none⟩ = some (.int .i64 a) ∧ V'.cell? ⟨w.heap.size, 4, none⟩ = some (.slice A m c))) V') := Lib.hid fun V' h =>
              ⟨(h.cell (p := ⟨w.heap.size, 0, none⟩) hL.lt).trans (hL.cell 0), (h.cell (p := ⟨w.heap.size, 1, none⟩) hL.lt).trans (hL.cell 1), (h.cell (p := ⟨w.heap.size, 2, none⟩) hL.lt).trans (hL.cell 2), (h.cell (p := ⟨w.heap.size, 3, none⟩) hL.lt).trans (hL.cell 3), (h.cell (p := ⟨w.heap.size, 4, none⟩) hL.lt).trans (hL.cell 4)⟩
            replace HOWN : Hid (∀ X, Below wc.heap.size wc X → Calls Tryz.prog 45 #[.agg #[.int .i64 k, .string s, .int .i64 n, .int .i64 a, .slice A m c]] X fun e w' => e = .returned (.int .i64 O) ∧ Below X.heap.size X w') := Lib.hid fun X hX => HOWN.out X (hb.trans (hX.mono hb.size))
            have HOFC : Hid (∀ X, Below wc.heap.size wc X → Calls Tryz.prog 21 #[.slice Al ml cl, .string s] X fun e w' => e = .returned (.int .i64 q) ∧ Below X.heap.size X w') := Lib.hid fun X hX => HOF0.out X (HAL0.out X (hb.trans (hX.mono hb.size)))
            have hb_1 : Below wc.heap.size wc wc := Below.refl _ _
            refine wp_region_held_drew (S := (fun V' : World => (V'.cell? ⟨w.heap.size, 0, none⟩ = some (.int .i64 k) ∧ V'.cell? ⟨w.heap.size, 1, none⟩ = some (.string s) ∧ V'.cell? ⟨w.heap.size, 2, none⟩ = some (.int .i64 n) ∧ V'.cell? ⟨w.heap.size, 3, none⟩ = some (.int .i64 a) ∧ V'.cell? ⟨w.heap.size, 4, none⟩ = some (.slice A m c)))) rfl (HSS.out _ hb_1.drew) (fun hSs => ?_)
            change wpAnyH _ _ _ _ _ 12 (Array.replicate 12 false) _ _
            refine wpAnyH_take (i := 0) (oi := ⟨some 26, _, _, _, _, _⟩) (v := .agg #[.int .i64 k, .string s, .int .i64 n, .int .i64 a, .slice A m c]) rfl (by kernel_rfl) (by kernel_rfl) (by kernel_rfl) (fun _ _ _ h => h) (.inl ⟨by kernel_rfl, fun W hW => by first | (obtain ⟨z0, z1, z2, z3, z4⟩ := hW; go_simp; done) | (obtain ⟨z0, z1, z2, z3, z4⟩ := hW; go_simp; omega) | (obtain ⟨z0, z1, z2, z3, z4⟩ := hW; go_simp; exact IntWalk.i64_in _ (by omega)) | (obtain ⟨z0, z1, z2, z3, z4⟩ := hW; go_simp; simp [*]; done)⟩) hSs ?_
            try simp only [Act.put, List.setIfInBounds_toArray, List.set_cons_zero, List.set_cons_succ]
            refine wpAnyH_ready (rs := [1]) (by kernel_rfl) (by simp) (AllReadyH.cons rfl (fun K hK => ?_) AllReadyH.nil)
            go_simp
            refine (HOWN.out _ (hb_1.drew) ).mono ?_
            rintro e u_2 ⟨rfl, hq_2⟩
            have hb_2 := (hb_1.drew).trans (hq_2.mono (hb_1.drew).size)
            refine hK.out _ _ (HSS.out _ hb_2) (fun hS_2 => ?_)
            clear hK K
            try simp only [Act.put, List.setIfInBounds_toArray, List.set_cons_zero, List.set_cons_succ]
            refine wpAnyH_take (i := 2) (oi := ⟨some 28, _, _, _, _, _⟩) (v := .bool false) rfl (by kernel_rfl) (by kernel_rfl) (by kernel_rfl) (fun _ _ _ h => h) (.inl ⟨by kernel_rfl, fun W hW => by first | (obtain ⟨z0, z1, z2, z3, z4⟩ := hW; go_simp; done) | (obtain ⟨z0, z1, z2, z3, z4⟩ := hW; go_simp; omega) | (obtain ⟨z0, z1, z2, z3, z4⟩ := hW; go_simp; exact IntWalk.i64_in _ (by omega)) | (obtain ⟨z0, z1, z2, z3, z4⟩ := hW; go_simp; simp [*]; done)⟩) hS_2 ?_
            try simp only [Act.put, List.setIfInBounds_toArray, List.set_cons_zero, List.set_cons_succ]
            refine wpAnyH_take (i := 3) (oi := ⟨some 29, _, _, _, _, _⟩) (v := .bool false) rfl (by kernel_rfl) (by kernel_rfl) (by kernel_rfl) (fun _ _ _ h => h) (.inl ⟨by kernel_rfl, fun W hW => by kernel_rfl⟩) hS_2 ?_
            try simp only [Act.put, List.setIfInBounds_toArray, List.set_cons_zero, List.set_cons_succ]
            refine wpAnyH_take (i := 4) (oi := ⟨some 30, _, _, _, _, _⟩) (v := undef) rfl (by kernel_rfl) (by kernel_rfl) (by kernel_rfl) (fun _ _ _ h => h) (.inr ⟨by kernel_rfl, rfl⟩) hS_2 ?_
            try simp only [Act.put, List.setIfInBounds_toArray, List.set_cons_zero, List.set_cons_succ]
            refine wpAnyH_take (i := 5) (oi := ⟨some 31, _, _, _, _, _⟩) (v := undef) rfl (by kernel_rfl) (by kernel_rfl) (by kernel_rfl) (fun _ _ _ h => h) (.inr ⟨by kernel_rfl, rfl⟩) hS_2 ?_
            try simp only [Act.put, List.setIfInBounds_toArray, List.set_cons_zero, List.set_cons_succ]
            refine wpAnyH_take (i := 6) (oi := ⟨some 32, _, _, _, _, _⟩) (v := undef) rfl (by kernel_rfl) (by kernel_rfl) (by kernel_rfl) (fun _ _ _ h => h) (.inr ⟨by kernel_rfl, rfl⟩) hS_2 ?_
            try simp only [Act.put, List.setIfInBounds_toArray, List.set_cons_zero, List.set_cons_succ]
            refine wpAnyH_take (i := 7) (oi := ⟨some 33, _, _, _, _, _⟩) (v := undef) rfl (by kernel_rfl) (by kernel_rfl) (by kernel_rfl) (fun _ _ _ h => h) (.inr ⟨by kernel_rfl, rfl⟩) hS_2 ?_
            try simp only [Act.put, List.setIfInBounds_toArray, List.set_cons_zero, List.set_cons_succ]
            refine wpAnyH_take (i := 8) (oi := ⟨some 34, _, _, _, _, _⟩) (v := undef) rfl (by kernel_rfl) (by kernel_rfl) (by kernel_rfl) (fun _ _ _ h => h) (.inr ⟨by kernel_rfl, rfl⟩) hS_2 ?_
            try simp only [Act.put, List.setIfInBounds_toArray, List.set_cons_zero, List.set_cons_succ]
            refine wpAnyH_take (i := 9) (oi := ⟨some 35, _, _, _, _, _⟩) (v := undef) rfl (by kernel_rfl) (by kernel_rfl) (by kernel_rfl) (fun _ _ _ h => h) (.inr ⟨by kernel_rfl, rfl⟩) hS_2 ?_
            try simp only [Act.put, List.setIfInBounds_toArray, List.set_cons_zero, List.set_cons_succ]
            refine wpAnyH_take (i := 10) (oi := ⟨some 36, _, _, _, _, _⟩) (v := undef) rfl (by kernel_rfl) (by kernel_rfl) (by kernel_rfl) (fun _ _ _ h => h) (.inr ⟨by kernel_rfl, rfl⟩) hS_2 ?_
            try simp only [Act.put, List.setIfInBounds_toArray, List.set_cons_zero, List.set_cons_succ]
            refine wpAnyH_take (i := 11) (oi := ⟨some 37, _, _, _, _, _⟩) (v := .bool false) rfl (by kernel_rfl) (by kernel_rfl) (by kernel_rfl) (fun _ _ _ h => h) (.inl ⟨by kernel_rfl, fun W hW => by kernel_rfl⟩) hS_2 ?_
            try simp only [Act.put, List.setIfInBounds_toArray, List.set_cons_zero, List.set_cons_succ]
            refine wpAnyH_done (by kernel_rfl) ?_ _
            have hb9 := hb.trans (hb_2.mono hb.size)
            have hL9 := hL.below hb_2 hL.lt
            generalize u_2 = V9 at *
            clear hS_2
            go_wp2_with fail
            go_meet
            exact ⟨false, rfl, Lib.hid (⟨fun h => Bool.noConfusion h, fun h => absurd h HPX.out⟩), hL9, hb9⟩
        case rest =>
          clear x0 x1 x2 x3 x4 hL hb
          obtain ⟨bb, rfl, HBB, hL, hb⟩ := hcut
          obtain ⟨⟨x0, x1, x2, x3, x4⟩, _⟩ := hL.five
          cases bb with
          | true =>
            have HP : Hid (0 ≤ ownN k n l ∧ ofN AA s ≠ ownN k n l) := Lib.hid (HBB.out.1 rfl)
            have HR : Hid (badT AA b ah (.node k s n a l) = (a, 51)) := Lib.hid (by rw [badT, if_neg h1f.out, if_pos HP.out])
            go_wp2_with fail
            go_ret2
            exact ⟨by show Ending.returned (.tuple #[.int .i64 a, .int .i64 51]) = _; rw [HR.out], hb⟩
          | false =>
            have HP : Hid (¬ (0 ≤ ownN k n l ∧ ofN AA s ≠ ownN k n l)) := Lib.hid (fun h => by have := HBB.out.2 h; cases this)
            clear HBB
            have hnf := HP
            clear HP
            go_upto_region 5 with fail
            go_cut [52] from 40 (fun v wx => ∃ bb : Bool, v = .bool bb ∧ Hid (bb = true ↔ (k = 8 ∧ (twiceN (varsN n l) = true ∨ inN ah s = true))) ∧ Lies wx w.heap.size 24 #[.int .i64 k, .string s, .int .i64 n, .int .i64 a, .slice A m c] ∧ Below w.heap.size w wx)
            case first =>
              by_cases hk : k = 8
              · have e8 : (k == 8) = true := by simpa using hk
                have HTW := Lib.hid (twice5_any k n a s l A m c wc HM.out (by omega) (h8m hk).1 (h8m hk).2 (LIn.keep l HI.out fun g j _ h => ⟨hb.cell (p := ⟨g, j, none⟩) h, trivial⟩))
                have HK := Lib.hid hk
                clear hk
                cases htw : twiceN (varsN n l) with
                | true =>
                  rw [htw] at HTW
                  replace htw := Lib.hid htw
                  go_wp2_with fail
                  refine HTW.out.mono ?_
                  rintro e w4 ⟨rfl, hb4⟩
                  replace hb := hb.trans (hb4.mono hb.size)
                  replace hL := hL.below hb4 hL.lt
                  clear x0 x1 x2 x3 x4 hb4
                  go_wp2_with fail
                  go_meet
                  exact ⟨true, rfl, Lib.hid (⟨fun _ => ⟨HK.out, .inl htw.out⟩, fun _ => rfl⟩), hL, hb⟩
                | false =>
                  rw [htw] at HTW
                  replace htw := Lib.hid htw
                  have HIA := HIN0 ah s Ah mh ch
                  cases hia : inN ah s with
                  | true =>
                    go_wp2_with fail
                    refine HTW.out.mono ?_
                    rintro e w4 ⟨rfl, hb4⟩
                    replace hb := hb.trans (hb4.mono hb.size)
                    replace hL := hL.below hb4 hL.lt
                    clear x0 x1 x2 x3 x4 hb4
                    obtain ⟨⟨x0, x1, x2, x3, x4⟩, _⟩ := hL.five
                    have HIA2 := HIA.out w4 HMH.out (by omega) (SIn.below HAH.out hb (Nat.le_refl _))
                    rw [hia] at HIA2
                    replace HIA2 := Lib.hid HIA2
                    replace hia := Lib.hid hia
                    clear HIA
                    go_wp2_with fail
                    refine HIA2.out.mono ?_
                    rintro e w6 ⟨rfl, hb4⟩
                    replace hb := hb.trans (hb4.mono hb.size)
                    replace hL := hL.below hb4 hL.lt
                    clear x0 x1 x2 x3 x4 hb4
                    go_wp2_with fail
                    go_meet
                    exact ⟨true, rfl, Lib.hid (⟨fun _ => ⟨HK.out, .inr hia.out⟩, fun _ => rfl⟩), hL, hb⟩
                  | false =>
                    go_wp2_with fail
                    refine HTW.out.mono ?_
                    rintro e w4 ⟨rfl, hb4⟩
                    replace hb := hb.trans (hb4.mono hb.size)
                    replace hL := hL.below hb4 hL.lt
                    clear x0 x1 x2 x3 x4 hb4
                    obtain ⟨⟨x0, x1, x2, x3, x4⟩, _⟩ := hL.five
                    have HIA2 := HIA.out w4 HMH.out (by omega) (SIn.below HAH.out hb (Nat.le_refl _))
                    rw [hia] at HIA2
                    replace HIA2 := Lib.hid HIA2
                    replace hia := Lib.hid hia
                    clear HIA
                    go_wp2_with fail
                    refine HIA2.out.mono ?_
                    rintro e w6 ⟨rfl, hb4⟩
                    replace hb := hb.trans (hb4.mono hb.size)
                    replace hL := hL.below hb4 hL.lt
                    clear x0 x1 x2 x3 x4 hb4
                    go_wp2_with fail
                    go_meet
                    exact ⟨false, rfl, Lib.hid (⟨fun h => Bool.noConfusion h, fun h => by rcases h.2 with h | h; rw [htw.out] at h; cases h; rw [hia.out] at h; cases h⟩), hL, hb⟩
              · have e8 : (k == 8) = false := by simpa using hk
                have HK := Lib.hid hk
                clear hk
                go_wp2_with fail
                go_meet
                exact ⟨false, rfl, Lib.hid (⟨fun h => Bool.noConfusion h, fun h => absurd h.1 HK.out⟩), hL, hb⟩
            case rest =>
              clear x0 x1 x2 x3 x4 hL hb
              obtain ⟨bb, rfl, HBB, hL, hb⟩ := hcut
              obtain ⟨⟨x0, x1, x2, x3, x4⟩, _⟩ := hL.five
              cases bb with
              | true =>
                have HP : Hid (k = 8 ∧ (twiceN (varsN n l) = true ∨ inN ah s = true)) := Lib.hid (HBB.out.1 rfl)
                have HR : Hid (badT AA b ah (.node k s n a l) = (a, 52)) := Lib.hid (by rw [badT, if_neg h1f.out, if_neg hnf.out, if_pos HP.out])
                go_wp2_with fail
                go_ret2
                exact ⟨by show Ending.returned (.tuple #[.int .i64 a, .int .i64 52]) = _; rw [HR.out], hb⟩
              | false =>
                have HP : Hid (¬ (k = 8 ∧ (twiceN (varsN n l) = true ∨ inN ah s = true))) := Lib.hid (fun h => by have := HBB.out.2 h; cases this)
                clear HBB
                have HBT : Hid (badL AA k n s l b (fromN k n) [] (l.drop (fromN k n)) = badT AA b ah (.node k s n a l)) := Lib.hid (by
                  rw [← HSK.out, badT, if_neg h1f.out, if_neg hnf.out, if_neg HP.out])
                clear x0 x1 x2 x3 x4
                obtain ⟨⟨y0, y1, y2, y3, y4⟩, _⟩ := (hL.old (.cells #[] 9)).five
                go_wp2_with fail
                have hbS := hb.alloc hb.size (.cells #[] 9)
                have hLS := hL.old (.cells #[] 9)
                have hownS : (wc.alloc (.cells #[] 9)).ownsRow (w.heap.size + 1) 9 1 (.slice (some ⟨wc.heap.size, 0, none⟩) 0 0) 0 [] := World.ownsRow_made wc #[] 0 hL.lt (by simp [maxLen]) rfl
                refine (from5_any k n a s A m c _ hn8).mono ?_
                rintro e w8 ⟨rfl, hb8⟩
                have hbw := hbS.trans (hb8.mono hbS.size)
                have hLw := hLS.below hb8 hLS.lt
                have HOWw := Lib.hid (own_below hownS hb8 (Nat.le_refl _))
                have hnbS : wc.heap.size ≠ w.heap.size := by have := hL.lt; omega
                obtain ⟨fr, hfr⟩ : ∃ fr, fr = fromN k n := ⟨_, rfl⟩
                have HQ8 : Hid (badL AA k n s l b fr [] (l.drop fr) = badT AA b ah (.node k s n a l)) := by rw [hfr]; exact HBT
                have hfm : fr ≤ m := by rw [hfr]; exact HFM.out
                have HFRO := Lib.hid hfr
                rw [← hfr]
                generalize (some ⟨wc.heap.size, 0, none⟩ : Option Addr) = AS at *
                clear hfr hb8 hL hb y0 y1 y2 y3 y4 hbS hLS hownS
                go_wp2_with fail
                go_loopw [10, 11] (fun v x wr => ∃ (i : Nat) (nm : List ByteArray) (A2 : Option Addr) (m2 c2 : Nat), i ≤ m ∧ v = .slice A2 m2 c2 ∧ x = .int .i64 i ∧ fr ≤ i ∧ Hid (badL AA k n s l b i nm (l.drop i) = badT AA b ah (.node k s n a l)) ∧ Hid (wr.ownsRow (w.heap.size + 1) 9 1 (.slice A2 m2 c2) m2 (cellsS nm)) ∧ m2 ≤ i ∧ Lies wr w.heap.size 24 #[.int .i64 k, .string s, .int .i64 n, .int .i64 a, .slice A m c] ∧ Below w.heap.size w wr) (fun _ x _ => m - (intOf x).toNat)
                case atStart => exact ⟨fr, [], AS, 0, 0, hfm, rfl, rfl, Nat.le_refl _, HQ8, HOWw, by omega, hLw, hbw⟩
                case round =>
                  clear hLw hbw HQ8 HOWw
                  obtain ⟨i, nm, A2, m2, c2, hi, rfl, rfl, hfi, HQ, HOW, hm2i, hLr, hbr⟩ := hrel
                  have hbs := hbr.size
                  have c4 := hLr.five.1.2.2.2.2
                  by_cases hlt : i < m
                  · have hia : i < l.length := by omega
                    obtain ⟨g, o, A', c', ⟨hA, _⟩, d0, d1, d2, d3, d4, hIn⟩ := LIn.at_ l (LIn.keep l HI.out fun g j _ h => ⟨hbr.cell (p := ⟨g, j, none⟩) h, trivial⟩) i hia
                    subst hA
                    have hgw : g < w.heap.size := by obtain ⟨g0, o0, A0, c0, ⟨hA0, _⟩, hx0, _⟩ := LIn.at_ l HI.out i hia; cases hA0; exact cell_lt hx0
                    simp only [Nat.zero_add] at d0 d1 d2 d3 d4
                    have hdp := depthL_mem l (l[i]'hia) (List.getElem_mem hia)
                    have hok := okL_mem l (l[i]'hia) (List.getElem_mem hia) HOK.out
                    have HBD : Hid (badL AA k n s l b i nm (l.drop i) = if i < fromN k n then badL AA k n s l b (i + 1) nm (l.drop (i + 1)) else if (badT AA (innerN k n s i l b) nm (l[i]'hia)).2 ≠ 0 then badT AA (innerN k n s i l b) nm (l[i]'hia) else badL AA k n s l b (i + 1) (if k = 7 ∧ 0 < i then nm ++ [(l[i]'hia).name] else nm) (l.drop (i + 1))) := Lib.hid (by rw [List.drop_eq_getElem_cons hia, badL])
                    obtain ⟨tr, hu⟩ : ∃ tr, tr = l[i]'hia := ⟨_, rfl⟩
                    rw [← hu] at d0 d1 d2 d3 d4 hIn hdp hok HBD
                    clear hu
                    have hnm : SIn wr Any nm A2 := SIn.any (SIn.owned HOW.out)
                    have hnl : m2 = nm.length := by have := HOW.out.1; rw [cellsS_len] at this; omega
                    have hgr : g < wr.heap.size := by omega
                    have HNBx : Hid (∀ e : Unit, True) := Lib.hid fun _ => trivial
                    have HWI : Hid (∀ X, Below wr.heap.size wr X → Calls Tryz.prog 48 #[.agg #[.int .i64 k, .string s, .int .i64 n, .int .i64 a, .slice (some ⟨g, o, none⟩) m c], .int .i64 i, .slice Ab mb cb] X fun e w' => ∃ A c, e = .returned (.slice A (innerN k n s i l b).length c) ∧ Hid (SIn w' Any (innerN k n s i l b) A ∧ (A = none → c = 0)) ∧ Below X.heap.size X w') := Lib.hid fun X hX =>
                      (within5_any k n a s l (some ⟨g, o, none⟩) m c i b Ab mb cb X HM.out (by omega) h8m HMB.out (by omega) (LIn.keep l HI.out fun g j _ h => ⟨(hbr.trans (hX.mono hbr.size)).cell (p := ⟨g, j, none⟩) h, trivial⟩) (SIn.below HB.out (hbr.trans (hX.mono hbr.size)) (Nat.le_refl _)) HAB.out).mono fun e w' h => by
                        obtain ⟨A, c, h1, h2, h3, h4⟩ := h
                        exact ⟨A, c, h1, Lib.hid ⟨h2, h3⟩, h4⟩
                    have hil := innerN_len k n s i l b (by omega) (fun h => (h8m h).1) (fun h => by have := (h8m h).2; omega)
                    have HCH : Hid (∀ X, Below wr.heap.size wr X → ∀ Ai ci, Hid (SIn X Any (innerN k n s i l b) Ai ∧ (Ai = none → ci = 0)) → Calls Tryz.prog 29 #[tv tr A' c', .slice Ai (innerN k n s i l b).length ci, .slice A2 m2 c2, .slice Al ml cl] X fun e w' => e = .returned (.tuple #[.int .i64 (badT AA (innerN k n s i l b) nm tr).1, .int .i64 (badT AA (innerN k n s i l b) nm tr).2]) ∧ Below X.heap.size X w') := Lib.hid fun X hX Ai ci hS => by
                      have h1 := ih tr A' c' (innerN k n s i l b) nm Ai ci A2 c2 cl X (by omega) hok (by have := HMB.out; omega) (by omega) (TIn.below _ hIn hX (Nat.le_refl _)) hS.out.1 hS.out.2 (SIn.below hnm hX (Nat.le_refl _)) (by have := HML.out; omega) (HAL0.out X (hbr.trans (hX.mono hbr.size)))
                      rw [← hnl, ← HML.out] at h1
                      exact h1
                    obtain ⟨mi, hmi⟩ : ∃ mi, mi = (innerN k n s i l b).length := ⟨_, rfl⟩
                    rw [← hmi] at HWI HCH
                    obtain ⟨LI, hLI⟩ : ∃ LI, LI = innerN k n s i l b := ⟨_, rfl⟩
                    rw [← hLI] at HWI HCH HBD
                    have HPB : Hid (badT AA LI nm tr = badT AA LI nm tr) := Lib.hid rfl
                    obtain ⟨pp, hpp⟩ : ∃ pp, pp = badT AA LI nm tr := ⟨_, rfl⟩
                    rw [← hpp] at HCH
                    replace HPB := Lib.hid hpp.symm
                    obtain ⟨p1, p2⟩ := pp
                    obtain ⟨tk, ts, tn, ta, tl⟩ := tr
                    simp only [tv, Tr.kind, Tr.name, Tr.n, Tr.place, Tr.parts] at d0 d1 d2 d3 d4 HCH HBD
                    have HD1 : Hid (∀ X, Below w.heap.size w X → X.cell? ⟨g, o + i * 5 + 1, none⟩ = some (.string ts)) := Lib.hid fun X h => (h.cell (p := ⟨g, o + i * 5 + 1, none⟩) hgw).trans ((hbr.cell (p := ⟨g, o + i * 5 + 1, none⟩) hgw).symm.trans d1)
                    have HSR : Hid (∀ V', Below wr.heap.size wr V' → (fun V' : World => (V'.cell? ⟨w.heap.size, 0, none⟩ = some (.int .i64 k) ∧ V'.cell? ⟨w.heap.size, 1, none⟩ = some (.string s) ∧ V'.cell? ⟨w.heap.size, 2, none⟩ = some (.int .i64 n) ∧ V'.cell? ⟨w.heap.size, 3, none⟩ = some (.int .i64 a) ∧ V'.cell? ⟨w.heap.size, 4, none⟩ = some (.slice (some ⟨g, o, none⟩) m c) ∧ V'.cell? ⟨g, o + i * 5, none⟩ = some (.int .i64 tk) ∧ V'.cell? ⟨g, o + i * 5 + 1, none⟩ = some (.string ts) ∧ V'.cell? ⟨g, o + i * 5 + 2, none⟩ = some (.int .i64 tn) ∧ V'.cell? ⟨g, o + i * 5 + 3, none⟩ = some (.int .i64 ta) ∧ V'.cell? ⟨g, o + i * 5 + 4, none⟩ = some (.slice A' tl.length (capF tl.length c')))) V') := Lib.hid fun V' h =>
                      ⟨(h.cell (p := ⟨w.heap.size, 0, none⟩) hLr.lt).trans (hLr.cell 0), (h.cell (p := ⟨w.heap.size, 1, none⟩) hLr.lt).trans (hLr.cell 1), (h.cell (p := ⟨w.heap.size, 2, none⟩) hLr.lt).trans (hLr.cell 2), (h.cell (p := ⟨w.heap.size, 3, none⟩) hLr.lt).trans (hLr.cell 3), (h.cell (p := ⟨w.heap.size, 4, none⟩) hLr.lt).trans (hLr.cell 4), (h.cell (p := ⟨g, o + i * 5, none⟩) hgr).trans d0, (h.cell (p := ⟨g, o + i * 5 + 1, none⟩) hgr).trans d1, (h.cell (p := ⟨g, o + i * 5 + 2, none⟩) hgr).trans d2, (h.cell (p := ⟨g, o + i * 5 + 3, none⟩) hgr).trans d3, (h.cell (p := ⟨g, o + i * 5 + 4, none⟩) hgr).trans d4⟩
                    have HNB : Hid (∀ q, (Value.slice A2 m2 c2).ownBlock = some q → q ≠ w.heap.size) := Lib.hid fun q h => by have := (HOW.out.lt q h).1; omega
                    clear hpp hmi hLI hil hIn hok hdp hnl d0 d1 d2 d3 d4
                    go_upto_region 11 with fail
                    have hb_1 : Below wr.heap.size wr wr := Below.refl _ _
                    refine wp_region_K (S := (fun V' : World => (V'.cell? ⟨w.heap.size, 0, none⟩ = some (.int .i64 k) ∧ V'.cell? ⟨w.heap.size, 1, none⟩ = some (.string s) ∧ V'.cell? ⟨w.heap.size, 2, none⟩ = some (.int .i64 n) ∧ V'.cell? ⟨w.heap.size, 3, none⟩ = some (.int .i64 a) ∧ V'.cell? ⟨w.heap.size, 4, none⟩ = some (.slice (some ⟨g, o, none⟩) m c) ∧ V'.cell? ⟨g, o + i * 5, none⟩ = some (.int .i64 tk) ∧ V'.cell? ⟨g, o + i * 5 + 1, none⟩ = some (.string ts) ∧ V'.cell? ⟨g, o + i * 5 + 2, none⟩ = some (.int .i64 tn) ∧ V'.cell? ⟨g, o + i * 5 + 3, none⟩ = some (.int .i64 ta) ∧ V'.cell? ⟨g, o + i * 5 + 4, none⟩ = some (.slice A' tl.length (capF tl.length c'))))) 16 rfl (HSR.out _ hb_1.drew) (fun hSs => ?_)
                    change wpAnyK _ _ _ _ _ _ 17 (Array.replicate 17 false) _ _
                    refine wpAnyK_take (i := 0) (oi := ⟨some 66, _, _, _, _, _⟩) (v := .pointer (some ⟨w.heap.size, 4, none⟩)) rfl (by kernel_rfl) (by kernel_rfl) (by kernel_rfl) (by kernel_rfl) (fun _ _ _ h => h) (.inl ⟨by kernel_rfl, fun W hW => by first | (obtain ⟨z0, z1, z2, z3, z4, z5, z6, z7, z8, z9⟩ := hW; go_simp; done) | (obtain ⟨z0, z1, z2, z3, z4, z5, z6, z7, z8, z9⟩ := hW; go_simp; omega) | (obtain ⟨z0, z1, z2, z3, z4, z5, z6, z7, z8, z9⟩ := hW; go_simp; exact IntWalk.i64_in _ (by omega)) | (obtain ⟨z0, z1, z2, z3, z4, z5, z6, z7, z8, z9⟩ := hW; go_simp; simp [*]; done)⟩) hSs ?_
                    try simp only [Act.put, List.setIfInBounds_toArray, List.set_cons_zero, List.set_cons_succ]
                    refine wpAnyK_take (i := 1) (oi := ⟨some 67, _, _, _, _, _⟩) (v := .slice (some ⟨g, o, none⟩) m c) rfl (by kernel_rfl) (by kernel_rfl) (by kernel_rfl) (by kernel_rfl) (fun _ _ _ h => h) (.inl ⟨by kernel_rfl, fun W hW => by first | (obtain ⟨z0, z1, z2, z3, z4, z5, z6, z7, z8, z9⟩ := hW; go_simp; done) | (obtain ⟨z0, z1, z2, z3, z4, z5, z6, z7, z8, z9⟩ := hW; go_simp; omega) | (obtain ⟨z0, z1, z2, z3, z4, z5, z6, z7, z8, z9⟩ := hW; go_simp; exact IntWalk.i64_in _ (by omega)) | (obtain ⟨z0, z1, z2, z3, z4, z5, z6, z7, z8, z9⟩ := hW; go_simp; simp [*]; done)⟩) hSs ?_
                    try simp only [Act.put, List.setIfInBounds_toArray, List.set_cons_zero, List.set_cons_succ]
                    refine wpAnyK_take (i := 2) (oi := ⟨some 68, _, _, _, _, _⟩) (v := .int .i64 (i : Int)) rfl (by kernel_rfl) (by kernel_rfl) (by kernel_rfl) (by kernel_rfl) (fun _ _ _ h => h) (.inl ⟨by kernel_rfl, fun W hW => by kernel_rfl⟩) hSs ?_
                    try simp only [Act.put, List.setIfInBounds_toArray, List.set_cons_zero, List.set_cons_succ]
                    refine wpAnyK_take (i := 3) (oi := ⟨some 69, _, _, _, _, _⟩) (v := .pointer (some ⟨g, o + i * 5, none⟩)) rfl (by kernel_rfl) (by kernel_rfl) (by kernel_rfl) (by kernel_rfl) (fun _ _ _ h => h) (.inl ⟨by kernel_rfl, fun W hW => by first | (obtain ⟨z0, z1, z2, z3, z4, z5, z6, z7, z8, z9⟩ := hW; go_simp; done) | (obtain ⟨z0, z1, z2, z3, z4, z5, z6, z7, z8, z9⟩ := hW; go_simp; omega) | (obtain ⟨z0, z1, z2, z3, z4, z5, z6, z7, z8, z9⟩ := hW; go_simp; exact IntWalk.i64_in _ (by omega)) | (obtain ⟨z0, z1, z2, z3, z4, z5, z6, z7, z8, z9⟩ := hW; go_simp; simp [*]; done)⟩) hSs ?_
                    try simp only [Act.put, List.setIfInBounds_toArray, List.set_cons_zero, List.set_cons_succ]
                    refine wpAnyK_take (i := 4) (oi := ⟨some 70, _, _, _, _, _⟩) (v := .agg #[.int .i64 tk, .string ts, .int .i64 tn, .int .i64 ta, .slice A' tl.length (capF tl.length c')]) rfl (by kernel_rfl) (by kernel_rfl) (by kernel_rfl) (by kernel_rfl) (fun _ _ _ h => h) (.inl ⟨by kernel_rfl, fun W hW => by first | (obtain ⟨z0, z1, z2, z3, z4, z5, z6, z7, z8, z9⟩ := hW; go_simp; done) | (obtain ⟨z0, z1, z2, z3, z4, z5, z6, z7, z8, z9⟩ := hW; go_simp; omega) | (obtain ⟨z0, z1, z2, z3, z4, z5, z6, z7, z8, z9⟩ := hW; go_simp; exact IntWalk.i64_in _ (by omega)) | (obtain ⟨z0, z1, z2, z3, z4, z5, z6, z7, z8, z9⟩ := hW; go_simp; simp [*]; done)⟩) hSs ?_
                    try simp only [Act.put, List.setIfInBounds_toArray, List.set_cons_zero, List.set_cons_succ]
                    refine wpAnyK_take (i := 5) (oi := ⟨some 71, _, _, _, _, _⟩) (v := .agg #[.int .i64 k, .string s, .int .i64 n, .int .i64 a, .slice (some ⟨g, o, none⟩) m c]) rfl (by kernel_rfl) (by kernel_rfl) (by kernel_rfl) (by kernel_rfl) (fun _ _ _ h => h) (.inl ⟨by kernel_rfl, fun W hW => by first | (obtain ⟨z0, z1, z2, z3, z4, z5, z6, z7, z8, z9⟩ := hW; go_simp; done) | (obtain ⟨z0, z1, z2, z3, z4, z5, z6, z7, z8, z9⟩ := hW; go_simp; omega) | (obtain ⟨z0, z1, z2, z3, z4, z5, z6, z7, z8, z9⟩ := hW; go_simp; exact IntWalk.i64_in _ (by omega)) | (obtain ⟨z0, z1, z2, z3, z4, z5, z6, z7, z8, z9⟩ := hW; go_simp; simp [*]; done)⟩) hSs ?_
                    try simp only [Act.put, List.setIfInBounds_toArray, List.set_cons_zero, List.set_cons_succ]
                    refine wpAnyK_take (i := 6) (oi := ⟨some 72, _, _, _, _, _⟩) (v := .int .i64 (i : Int)) rfl (by kernel_rfl) (by kernel_rfl) (by kernel_rfl) (by kernel_rfl) (fun _ _ _ h => h) (.inl ⟨by kernel_rfl, fun W hW => by kernel_rfl⟩) hSs ?_
                    try simp only [Act.put, List.setIfInBounds_toArray, List.set_cons_zero, List.set_cons_succ]
                    refine wpAnyK_take (i := 7) (oi := ⟨some 73, _, _, _, _, _⟩) (v := .slice Ab mb cb) rfl (by kernel_rfl) (by kernel_rfl) (by kernel_rfl) (by kernel_rfl) (fun _ _ _ h => h) (.inl ⟨by kernel_rfl, fun W hW => by kernel_rfl⟩) hSs ?_
                    try simp only [Act.put, List.setIfInBounds_toArray, List.set_cons_zero, List.set_cons_succ]
                    refine wpAnyK_take (i := 9) (oi := ⟨some 75, _, _, _, _, _⟩) (v := .slice A2 m2 c2) rfl (by kernel_rfl) (by kernel_rfl) (by kernel_rfl) (by kernel_rfl) (fun _ _ _ h => h) (.inl ⟨by kernel_rfl, fun W hW => by kernel_rfl⟩) hSs ?_
                    try simp only [Act.put, List.setIfInBounds_toArray, List.set_cons_zero, List.set_cons_succ]
                    refine wpAnyK_take (i := 10) (oi := ⟨some 76, _, _, _, _, _⟩) (v := .slice Al ml cl) rfl (by kernel_rfl) (by kernel_rfl) (by kernel_rfl) (by kernel_rfl) (fun _ _ _ h => h) (.inl ⟨by kernel_rfl, fun W hW => by kernel_rfl⟩) hSs ?_
                    try simp only [Act.put, List.setIfInBounds_toArray, List.set_cons_zero, List.set_cons_succ]
                    refine wpAnyK_one  (i := 8) rfl rfl (by kernel_rfl) (fun K hK => ?_)
                    go_simp
                    refine (HWI.out _ (hb_1.drew) ).mono ?_
                    rintro e u_2 ⟨A_2, c_2, rfl, hS9_2, hq_2⟩
                    have hb_2 := (hb_1.drew).trans (hq_2.mono (hb_1.drew).size)
                    refine hK.out _ _ (fun _ => HSR.out _ hb_2) (fun hS9 => ?_)
                    have hS_2 := hS9 (by decide)
                    clear hK K hS9
                    try simp only [Act.put, List.setIfInBounds_toArray, List.set_cons_zero, List.set_cons_succ]
                    refine wpAnyK_one  (i := 11) rfl rfl (by kernel_rfl) (fun K hK => ?_)
                    go_simp
                    refine (HCH.out _ hb_2 A_2 c_2 hS9_2).mono ?_
                    rintro e u_3 ⟨rfl, hq_3⟩
                    have hb_3 := hb_2.trans (hq_3.mono hb_2.size)
                    refine hK.out _ _ (fun _ => HSR.out _ hb_3) (fun hS9 => ?_)
                    have hS_3 := hS9 (by decide)
                    clear hK K hS9
                    try simp only [Act.put, List.setIfInBounds_toArray, List.set_cons_zero, List.set_cons_succ]
                    refine wpAnyK_take (i := 12) (oi := ⟨some 65, _, _, _, _, _⟩) (v := .tuple #[.int .i64 p1, .int .i64 p2]) rfl (by kernel_rfl) (by kernel_rfl) (by kernel_rfl) (by kernel_rfl) (fun _ _ _ h => h) (.inl ⟨by kernel_rfl, fun W hW => by kernel_rfl⟩) hS_3 ?_
                    try simp only [Act.put, List.setIfInBounds_toArray, List.set_cons_zero, List.set_cons_succ]
                    refine wpAnyK_take (i := 13) (oi := ⟨some 78, _, _, _, _, _⟩) (v := .int .i64 p1) rfl (by kernel_rfl) (by kernel_rfl) (by kernel_rfl) (by kernel_rfl) (fun _ _ _ h => h) (.inl ⟨by kernel_rfl, fun W hW => by first | (obtain ⟨z0, z1, z2, z3, z4, z5, z6, z7, z8, z9⟩ := hW; go_simp; done) | (obtain ⟨z0, z1, z2, z3, z4, z5, z6, z7, z8, z9⟩ := hW; go_simp; omega) | (obtain ⟨z0, z1, z2, z3, z4, z5, z6, z7, z8, z9⟩ := hW; go_simp; exact IntWalk.i64_in _ (by omega)) | (obtain ⟨z0, z1, z2, z3, z4, z5, z6, z7, z8, z9⟩ := hW; go_simp; simp [*]; done)⟩) hS_3 ?_
                    try simp only [Act.put, List.setIfInBounds_toArray, List.set_cons_zero, List.set_cons_succ]
                    refine wpAnyK_take (i := 14) (oi := ⟨some 79, _, _, _, _, _⟩) (v := .int .i64 p2) rfl (by kernel_rfl) (by kernel_rfl) (by kernel_rfl) (by kernel_rfl) (fun _ _ _ h => h) (.inl ⟨by kernel_rfl, fun W hW => by first | (obtain ⟨z0, z1, z2, z3, z4, z5, z6, z7, z8, z9⟩ := hW; go_simp; done) | (obtain ⟨z0, z1, z2, z3, z4, z5, z6, z7, z8, z9⟩ := hW; go_simp; omega) | (obtain ⟨z0, z1, z2, z3, z4, z5, z6, z7, z8, z9⟩ := hW; go_simp; exact IntWalk.i64_in _ (by omega)) | (obtain ⟨z0, z1, z2, z3, z4, z5, z6, z7, z8, z9⟩ := hW; go_simp; simp [*]; done)⟩) hS_3 ?_
                    try simp only [Act.put, List.setIfInBounds_toArray, List.set_cons_zero, List.set_cons_succ]
                    refine wpAnyK_take (i := 15) (oi := ⟨some 12, _, _, _, _, _⟩) (v := .int .i64 p1) rfl (by kernel_rfl) (by kernel_rfl) (by kernel_rfl) (by kernel_rfl) (fun _ _ _ h => h) (.inl ⟨by kernel_rfl, fun W hW => by kernel_rfl⟩) hS_3 ?_
                    try simp only [Act.put, List.setIfInBounds_toArray, List.set_cons_zero, List.set_cons_succ]
                    refine wpAnyK_one  (i := 16) rfl rfl (by kernel_rfl) (fun K hK => ?_)
                    go_simp
                    refine hK.out _ _ (fun h => absurd rfl h) (fun _ => ?_)
                    clear hK K
                    try simp only [Act.put, List.setIfInBounds_toArray, List.set_cons_zero, List.set_cons_succ]
                    refine wpAnyK_done (by kernel_rfl) ?_ _
                    have HO3 := Lib.hid (own_below HOW.out hb_3 (Nat.le_refl _))
                    have hb3 := hbr.trans (hb_3.mono hbr.size)
                    have hL3 := hLr.below hb_3 hLr.lt
                    clear hnm
                    generalize u_3 = V3 at *
                    by_cases hp2 : p2 = 0
                    · have hp3 : (p2 == 0) = true := by simpa using hp2
                      have hp4 : (p2 != 0) = false := by simpa using hp2
                      by_cases h7 : k = 7 ∧ 0 < i
                      · obtain ⟨h7, hi0⟩ := h7
                        have e7 : (k == 7) = true := by simpa using h7
                        have hi1 : (0 : Int) < (i : Int) := by omega
                        have HR : Hid (badL AA k n s l b (i + 1) (nm ++ [ts]) (l.drop (i + 1)) = badT AA b ah (.node k s n a l)) := Lib.hid (by
                          have h1 := HQ.out
                          rw [HBD.out, if_neg (by rw [← HFRO.out]; omega), HPB.out, if_neg (by simp [hp2]), if_pos ⟨h7, hi0⟩] at h1
                          exact h1)
                        obtain ⟨⟨x0, x1, x2, x3, x4⟩, _⟩ := hL3.five
                        have d13 := HD1.out _ hb3
                        clear h7
                        subst hp2
                        go_wp2_with (at_builtin; refine wpList_append_own _ rfl (.tmp 91) (.tmp 98) 31 rfl (w.heap.size + 1) 9 i0 (.string ⟨#[]⟩) 1 16 Tryz.underlying31 hi0' hz0 hz1 hz2 rfl (by decide) _ _ _ rfl (HO3.out.alloc _) ⟨V3.heap.size, 0, none⟩ 1 1 [.string ts] rfl rfl ?c1 ?c2 ?c3 ?c4 ?c5 ?_)
                        case c2 => first | rfl | (intro u hu; simp at hu; subst hu; rfl)
                        case c3 => unfold maxLen; omega
                        case c4 => omega
                        case c5 => have := hL3.lt; simp; omega
                        intro v4 w4 hown4 hg4 _
                        obtain ⟨A4, c4', rfl⟩ := own_slice hown4
                        have hb4 : Below w.heap.size w w4 := ((hb3.alloc hb3.size _).grown hg4 (by have := hb3.size; simp; omega) (fun k hk => by have := (HO3.out.lt k hk).1; omega))
                        have hb34 : w.heap.size < V3.heap.size := hL3.lt
                        have hL4 : Lies w4 w.heap.size 24 #[.int .i64 k, .string s, .int .i64 n, .int .i64 a, .slice (some ⟨g, o, none⟩) m c] := (hL3.old _).grown hg4 (fun e => HNB.out _ e.symm rfl)
                        have HO4 : w4.ownsRow (w.heap.size + 1) 9 1 (.slice A4 (m2 + 1) c4') (m2 + 1) (cellsS (nm ++ [ts])) := by
                          have e : cellsS (nm ++ [ts]) = cellsS nm ++ [.string ts] := by simp [cellsS]
                          rw [e]; exact hown4
                        clear hown4 hg4 x0 x1 x2 x3 x4 d13
                        go_wp2_with fail
                        go_roundw
                        case rel => exact ⟨i + 1, nm ++ [ts], A4, m2 + 1, c4', by omega, rfl, by go_num, by omega, HR, Lib.hid HO4, by omega, hL4, hb4⟩
                        case measure => simp [intOf]; omega
                      · have HR : Hid (badL AA k n s l b (i + 1) nm (l.drop (i + 1)) = badT AA b ah (.node k s n a l)) := Lib.hid (by
                          have h1 := HQ.out
                          rw [HBD.out, if_neg (by rw [← HFRO.out]; omega), HPB.out, if_neg (by simp [hp2]), if_neg h7] at h1
                          exact h1)
                        obtain ⟨⟨x0, x1, x2, x3, x4⟩, _⟩ := hL3.five
                        by_cases h7' : k = 7
                        · have e7 : (k == 7) = true := by simpa using h7'
                          have hi1 : ¬ (0 : Int) < (i : Int) := fun h => h7 ⟨h7', by omega⟩
                          clear h7 h7'
                          subst hp2
                          go_wp2_with fail
                          go_roundw
                          case rel => exact ⟨i + 1, nm, A2, m2, c2, by omega, rfl, by go_num, by omega, HR, HO3, by omega, hL3, hb3⟩
                          case measure => simp [intOf]; omega
                        · have e7 : (k == 7) = false := by simpa using h7'
                          clear h7 h7'
                          subst hp2
                          go_wp2_with fail
                          go_roundw
                          case rel => exact ⟨i + 1, nm, A2, m2, c2, by omega, rfl, by go_num, by omega, HR, HO3, by omega, hL3, hb3⟩
                          case measure => simp [intOf]; omega
                    · have hp3 : (p2 == 0) = false := by simpa using hp2
                      have hp4 : (p2 != 0) = true := by simpa using hp2
                      have HR : Hid (badT AA b ah (.node k s n a l) = (p1, p2)) := Lib.hid (by
                        rw [← HQ.out, HBD.out, if_neg (by rw [← HFRO.out]; omega), HPB.out, if_pos (by simpa using hp2)])
                      go_wp2_with fail
                      go_ret2
                      exact ⟨by show Ending.returned (.tuple #[.int .i64 p1, .int .i64 p2]) = _; rw [HR.out], hb3⟩
                  · go_wp2_with fail
                    go_ret2
                    have h1 := HQ.out
                    rw [List.drop_of_length_le (by omega), badL] at h1
                    exact ⟨by show Ending.returned (.tuple #[.int .i64 0, .int .i64 0]) = _; rw [← h1], hbr⟩
end Lx
end Go.Proofs.YtobdoahdjbmflaaGreatDoor
