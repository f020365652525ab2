/-
  Walk of the law ShowBack.
-/
import Derived.Test.YtfjphadhnaknnaaGreatDoorKD
import Derived.Test.YtfjphadhnaknnaaGreatDoorKP
import Derived.Test.YtfjphadhnaknnaaGreatDoorK3
namespace Go.Proofs.YtfjphadhnaknnaaGreatDoor
open Go.RowKit Go.Sort
namespace Lx
set_option maxRecDepth 100000
/-- The end where the law asks the fixed calls alone. -/
theorem few_ok {t : Tr} (h : decide (0 ≤ fewT t 300 200) = true) : sizeT t ≤ 300 ∧ depthT t ≤ 200 := by
  have h1 := few_size t 300 200 (by simpa using h)
  have h2 : 0 ≤ fewT t 300 200 := by simpa using h
  omega
theorem may_len {t : Tr} (hm : mayV t = true) (hs : sizeT t ≤ 300) : (showT t).length ≤ 15000 ∧ textT t = showT t ∧ textT t ≠ [] := by
  have he : textT t = showT t := by unfold textT; rw [hm]; rfl
  simp only [mayV, Bool.and_eq_true] at hm
  have := show_len t hm.2
  exact ⟨by omega, he, by rw [he]; exact show_ne hm.2⟩
set_option maxHeartbeats 8000000 in
theorem back_any (t t' : Tr) (A A' : Option Addr) (c c' : Nat) (w : World) (hT : TIn w Any t A) (hT' : TIn w Any t' A') (hg : Tabs w) :
    Calls Tryz.prog 4 #[tv t A c, tv t' A' c'] w fun e w' => e = .returned (.bool true) ∧ Below w.heap.size w w' := by
  have HSM := Lib.hid (fun (W : World) (h : TIn W Any t A) => tsmall_any t A c 300 W h (by omega) (by omega))
  have HSM' := Lib.hid (fun (W : World) (h : TIn W Any t' A') => tsmall_any t' A' c' 300 W h (by omega) (by omega))
  have HM := Lib.hid (fun (W : World) (h : TIn W Any t A) => rMay_any t A c W h)
  have HM' := Lib.hid (fun (W : World) (h : TIn W Any t' A') => rMay_any t' A' c' W h)
  have HF := Lib.hid (fun (W : World) (h : Tabs W) => fix4_any W h)
  have hb1 := below_alloc1 w (.cells #[.int .i64 t.kind, .string t.name, .int .i64 t.n, .int .i64 t.place, .slice A t.parts.length (capF t.parts.length c)] 24)
  have hb2 := below_alloc1 (w.alloc (.cells #[.int .i64 t.kind, .string t.name, .int .i64 t.n, .int .i64 t.place, .slice A t.parts.length (capF t.parts.length c)] 24)) (.cells #[.int .i64 t'.kind, .string t'.name, .int .i64 t'.n, .int .i64 t'.place, .slice A' t'.parts.length (capF t'.parts.length c')] 24)
  have B1 := (Bt.new (c := c) hT).step hb2
  have B2 := Bt.new (c := c') (TIn.below _ hT' hb1 (Nat.le_refl _))
  have hb0 := hb1.trans (hb2.mono hb1.size)
  have hg := hg.below hb0
  rw [show (w.alloc (.cells #[.int .i64 t.kind, .string t.name, .int .i64 t.n, .int .i64 t.place, .slice A t.parts.length (capF t.parts.length c)] 24)).heap.size = w.heap.size + 1 from by simp] at B2
  obtain ⟨W2, hW2⟩ : ∃ W, W = (w.alloc (.cells #[.int .i64 t.kind, .string t.name, .int .i64 t.n, .int .i64 t.place, .slice A t.parts.length (capF t.parts.length c)] 24)).alloc (.cells #[.int .i64 t'.kind, .string t'.name, .int .i64 t'.n, .int .i64 t'.place, .slice A' t'.parts.length (capF t'.parts.length c')] 24) := ⟨_, rfl⟩
  clear hb1 hb2 hT hT'
  unfold tv
  go_enter Tryz.func4, Tryz.ntmps4
  go_upto_region 1 with fail
  rw [← hW2]
  rw [← hW2] at B1 B2 hb0 hg
  clear hW2
  go_wp2_with fail
  refine (HF.out _ hg).mono ?_
  rintro e w3 ⟨rfl, hb3⟩
  replace hb0 := hb0.trans (hb3.mono hb0.size)
  replace hg := hg.below hb3
  replace B1 := B1.step hb3
  replace B2 := B2.step hb3
  clear hb3
  obtain ⟨⟨x0, x1, x2, x3, x4⟩, _⟩ := B1.x.five
  go_wp2_with fail
  refine (HSM.out _ B1.t).mono ?_
  rintro e w4 ⟨rfl, hb4⟩
  replace hb0 := hb0.trans (hb4.mono hb0.size)
  replace hg := hg.below hb4
  replace B1 := B1.step hb4
  replace B2 := B2.step hb4
  clear hb4
  clear x0 x1 x2 x3 x4
  cases q1 : decide (0 ≤ fewT t 300 200) with
  | false =>
    go_wp2_with fail
    refine (HF.out _ hg).mono ?_
    rintro e wz ⟨rfl, hbz⟩
    go_wp2_with fail
    go_ret
    exact ⟨rfl, hb0.trans (hbz.mono hb0.size)⟩
  | true =>
    obtain ⟨⟨x0, x1, x2, x3, x4⟩, _⟩ := B2.x.five
    go_wp2_with fail
    refine (HSM'.out _ B2.t).mono ?_
    rintro e w5 ⟨rfl, hb5⟩
    replace hb0 := hb0.trans (hb5.mono hb0.size)
    replace hg := hg.below hb5
    replace B1 := B1.step hb5
    replace B2 := B2.step hb5
    clear hb5
    clear x0 x1 x2 x3 x4
    cases q2 : decide (0 ≤ fewT t' 300 200) with
    | false =>
      go_wp2_with fail
      refine (HF.out _ hg).mono ?_
      rintro e wz ⟨rfl, hbz⟩
      go_wp2_with fail
      go_ret
      exact ⟨rfl, hb0.trans (hbz.mono hb0.size)⟩
    | true =>
      obtain ⟨⟨x0, x1, x2, x3, x4⟩, _⟩ := B1.x.five
      go_wp2_with fail
      refine (HM.out _ B1.t).mono ?_
      rintro e w6 ⟨rfl, hb6⟩
      replace hb0 := hb0.trans (hb6.mono hb0.size)
      replace hg := hg.below hb6
      replace B1 := B1.step hb6
      replace B2 := B2.step hb6
      clear hb6
      clear x0 x1 x2 x3 x4
      cases q3 : mayV t with
      | false =>
        go_wp2_with fail
        refine (HF.out _ hg).mono ?_
        rintro e wz ⟨rfl, hbz⟩
        go_wp2_with fail
        go_ret
        exact ⟨rfl, hb0.trans (hbz.mono hb0.size)⟩
      | true =>
        obtain ⟨⟨x0, x1, x2, x3, x4⟩, _⟩ := B2.x.five
        go_wp2_with fail
        refine (HM'.out _ B2.t).mono ?_
        rintro e w7 ⟨rfl, hb7⟩
        replace hb0 := hb0.trans (hb7.mono hb0.size)
        replace hg := hg.below hb7
        replace B1 := B1.step hb7
        replace B2 := B2.step hb7
        clear hb7
        clear x0 x1 x2 x3 x4
        cases q4 : mayV t' with
        | false =>
          go_wp2_with fail
          refine (HF.out _ hg).mono ?_
          rintro e wz ⟨rfl, hbz⟩
          go_wp2_with fail
          go_ret
          exact ⟨rfl, hb0.trans (hbz.mono hb0.size)⟩
        | true =>
          obtain ⟨f1, f2⟩ := few_ok q1
          obtain ⟨f3, f4⟩ := few_ok q2
          obtain ⟨l1, l2, l3⟩ := may_len q3 f1
          obtain ⟨l4, l5, l6⟩ := may_len q4 f3
          obtain ⟨S, hS⟩ : ∃ S : ByteArray, S = ⟨(textT t).toArray⟩ := ⟨_, rfl⟩
          obtain ⟨S', hS'⟩ : ∃ S : ByteArray, S = ⟨(textT t').toArray⟩ := ⟨_, rfl⟩
          have HTX : ∀ W, Below w7.heap.size w7 W → Calls Tryz.prog 14 #[.agg #[.int .i64 t.kind, .string t.name, .int .i64 t.n, .int .i64 t.place, .slice A t.parts.length (capF t.parts.length c)]] W fun e W' => e = .returned (.string S) ∧ Below w7.heap.size w7 W' := fun W h => by
            refine (stext_any t A c W (TIn.below _ B1.t h (Nat.le_refl _)) (hg.below h).sg (hg.below h).pw (by omega)).mono ?_
            rintro e W' ⟨rfl, h2⟩
            exact ⟨by rw [hS], h.trans (h2.mono h.size)⟩
          have HTY : ∀ W, Below w7.heap.size w7 W → Calls Tryz.prog 14 #[.agg #[.int .i64 t'.kind, .string t'.name, .int .i64 t'.n, .int .i64 t'.place, .slice A' t'.parts.length (capF t'.parts.length c')]] W fun e W' => e = .returned (.string S') ∧ Below w7.heap.size w7 W' := fun W h => by
            refine (stext_any t' A' c' W (TIn.below _ B2.t h (Nat.le_refl _)) (hg.below h).sg (hg.below h).pw (by omega)).mono ?_
            rintro e W' ⟨rfl, h2⟩
            exact ⟨by rw [hS'], h.trans (h2.mono h.size)⟩
          have hSl : S.data.toList = showT t := by rw [hS, data_mk, l2]
          have hSl' : S'.data.toList = showT t' := by rw [hS', data_mk, l5]
          have hlk := back_like q3 q4 f1 f3
          rw [← hSl, ← hSl'] at hlk
          have hrd := back_read q3 f1 f2
          rw [← hSl] at hrd
          have hsz : S.data.toList.length = S.size := by simp
          rw [hsz] at hrd
          have hss : S.size ≤ 15000 := by rw [← hsz, hSl]; omega
          have HLK := Lib.hid hlk
          have HRD := Lib.hid hrd
          have HTX := Lib.hid HTX
          have HTY := Lib.hid HTY
          have HRS := Lib.hid (fun u Au Ax cu cx W (h1 : TIn W Any u Au) (x : Tr) (h2 : TIn W Any x Ax) => rsame_tree (depthT u) u x Au Ax cu cx W (Nat.le_refl _) h1 h2)
          have HP := Lib.hid (fun W (hg : Signs W) => parse_text S 200 W (by omega) (by omega) hg)
          have HS : Hid (∀ V, Below w7.heap.size w7 V → V.cell? ⟨w.heap.size, 0, none⟩ = some (.int .i64 t.kind) ∧ V.cell? ⟨w.heap.size, 1, none⟩ = some (.string t.name) ∧ V.cell? ⟨w.heap.size, 2, none⟩ = some (.int .i64 t.n) ∧ V.cell? ⟨w.heap.size, 3, none⟩ = some (.int .i64 t.place) ∧ V.cell? ⟨w.heap.size, 4, none⟩ = some (.slice A t.parts.length (capF t.parts.length c)) ∧ V.cell? ⟨w.heap.size + 1, 0, none⟩ = some (.int .i64 t'.kind) ∧ V.cell? ⟨w.heap.size + 1, 1, none⟩ = some (.string t'.name) ∧ V.cell? ⟨w.heap.size + 1, 2, none⟩ = some (.int .i64 t'.n) ∧ V.cell? ⟨w.heap.size + 1, 3, none⟩ = some (.int .i64 t'.place) ∧ V.cell? ⟨w.heap.size + 1, 4, none⟩ = some (.slice A' t'.parts.length (capF t'.parts.length c'))) := Lib.hid fun V h => by
            have y := (B1.step h).x
            have z := (B2.step h).x
            exact ⟨y.cell 0, y.cell 1, y.cell 2, y.cell 3, y.cell 4, z.cell 0, z.cell 1, z.cell 2, z.cell 3, z.cell 4⟩
          have hd1 : Below w7.heap.size w7 w7.drew := (Below.refl _ w7).drew
          clear q1 q2 q3 q4 f1 f2 f3 f4 l1 l2 l3 l4 l5 l6 hS hS' hSl hSl' hlk hrd hsz HSM HSM' HM HM' HF
          go_wp2_with fail
          go_region_held3 (fun V => V.cell? ⟨w.heap.size, 0, none⟩ = some (.int .i64 t.kind) ∧ V.cell? ⟨w.heap.size, 1, none⟩ = some (.string t.name) ∧ V.cell? ⟨w.heap.size, 2, none⟩ = some (.int .i64 t.n) ∧ V.cell? ⟨w.heap.size, 3, none⟩ = some (.int .i64 t.place) ∧ V.cell? ⟨w.heap.size, 4, none⟩ = some (.slice A t.parts.length (capF t.parts.length c)) ∧ V.cell? ⟨w.heap.size + 1, 0, none⟩ = some (.int .i64 t'.kind) ∧ V.cell? ⟨w.heap.size + 1, 1, none⟩ = some (.string t'.name) ∧ V.cell? ⟨w.heap.size + 1, 2, none⟩ = some (.int .i64 t'.n) ∧ V.cell? ⟨w.heap.size + 1, 3, none⟩ = some (.int .i64 t'.place) ∧ V.cell? ⟨w.heap.size + 1, 4, none⟩ = some (.slice A' t'.parts.length (capF t'.parts.length c')))
            (exact HS.out _ (by assumption))
            ((first
              | (go_at_call 14
                 with_reducible refine (HTX.out _ (by assumption)).mono ?_
                 rintro e w8 ⟨rfl, hb8⟩)
              | (go_at_call 14
                 with_reducible refine (HTY.out _ (by assumption)).mono ?_
                 rintro e w8 ⟨rfl, hb8⟩)))
          all_goals
            replace hb0 := hb0.trans (hb8.mono hb0.size)
            replace hg := hg.below hb8
            replace B1 := B1.step hb8
            replace B2 := B2.step hb8
            clear HTX HTY HS
            by_cases hl : S.size ≤ 4096
            · have hl' : (S.size : Int) ≤ 4096 := by omega
              obtain ⟨u, hpu, hsu⟩ := HRD.out hl
              clear HRD hd1
              have HPU := Lib.hid hpu
              have HSU := Lib.hid hsu
              clear hpu hsu
              go_wp2_with fail
              refine (HP.out _ hg.sg).mono ?_
              rintro e w9 ⟨hb9, hgd9, _⟩
              obtain ⟨A9, c9, rfl, hT9⟩ := hgd9 u HPU.out
              have hq9 := hb9.trans ((below_alloc1 w9 (.cells #[.int .i64 u.kind, .string u.name, .int .i64 u.n, .int .i64 u.place, .slice A9 u.parts.length (capF u.parts.length c9)] 24)).mono hb9.size)
              have B9 := Bt.new (c := c9) hT9
              replace hb0 := hb0.trans (hq9.mono hb0.size)
              replace B1 := B1.step hq9
              replace B2 := B2.step hq9
              clear hgd9 hT9 hb9 hq9 hg HP
              unfold tv
              go_upto_region 6 with fail
              obtain ⟨g9, hg9⟩ : ∃ g, g = w9.heap.size := ⟨_, rfl⟩
              obtain ⟨W9, hW9⟩ : ∃ W, W = w9.alloc (.cells #[.int .i64 u.kind, .string u.name, .int .i64 u.n, .int .i64 u.place, .slice A9 u.parts.length (capF u.parts.length c9)] 24) := ⟨_, rfl⟩
              rw [← hg9, ← hW9] at B9 ⊢
              rw [← hW9] at B1 B2 hb0
              clear hg9 hW9
              obtain ⟨⟨x0, x1, x2, x3, x4⟩, _⟩ := B1.x.five
              obtain ⟨⟨y0, y1, y2, y3, y4⟩, _⟩ := B9.x.five
              go_wp2_with fail
              refine (HRS.out u A9 A c9 c W9 B9.t t B1.t).mono ?_
              rintro e wa ⟨rfl, hba⟩
              rw [HSU.out]
              replace hb0 := hb0.trans (hba.mono hb0.size)
              replace B1 := B1.step hba
              replace B2 := B2.step hba
              clear hba x0 x1 x2 x3 x4 y0 y1 y2 y3 y4 B9
              obtain ⟨⟨x0, x1, x2, x3, x4⟩, _⟩ := B1.x.five
              obtain ⟨⟨y0, y1, y2, y3, y4⟩, _⟩ := B2.x.five
              by_cases hq : sameT t t' = true
              · have he := HLK.out.2 hq
                obtain rfl : S = S' := by
                  have h1 := mk_list S
                  rw [he, mk_list] at h1
                  exact h1.symm
                have HQ := Lib.hid hq
                clear hq he
                go_wp2_with fail
                refine (HRS.out t A A' c c' _ B1.t t' B2.t).mono ?_
                rintro e wb ⟨rfl, hbb⟩
                rw [HQ.out]
                go_wp2_with fail
                go_ret
                exact ⟨rfl, hb0.trans (hbb.mono hb0.size)⟩
              · have he : ¬ S.data.toList = S'.data.toList := fun h => hq (HLK.out.1 h)
                have hn1 : ¬ S.toList = S'.toList := by
                  have e1 : ∀ Z : ByteArray, Z.toList = Z.data.toList := fun Z => by obtain ⟨d⟩ := Z; obtain ⟨l⟩ := d; exact ByteArray.toList_mk l
                  rw [e1, e1]; exact he
                have hn2 : (S.toList == S'.toList) = false := beq_eq_false_iff_ne.2 hn1
                have hq' : sameT t t' = false := by simpa using hq
                have HQ := Lib.hid hq'
                clear hq hq'
                go_wp2_with fail
                refine (HRS.out t A A' c c' _ B1.t t' B2.t).mono ?_
                rintro e wb ⟨rfl, hbb⟩
                rw [HQ.out]
                go_wp2_with fail
                go_ret
                exact ⟨rfl, hb0.trans (hbb.mono hb0.size)⟩
            · have hl' : ¬ (S.size : Int) ≤ 4096 := by omega
              clear HRD HP hd1
              obtain ⟨⟨x0, x1, x2, x3, x4⟩, _⟩ := B1.x.five
              obtain ⟨⟨y0, y1, y2, y3, y4⟩, _⟩ := B2.x.five
              by_cases hq : sameT t t' = true
              · have he := HLK.out.2 hq
                obtain rfl : S = S' := by
                  have h1 := mk_list S
                  rw [he, mk_list] at h1
                  exact h1.symm
                have HQ := Lib.hid hq
                clear hq he
                go_wp2_with fail
                refine (HRS.out t A A' c c' _ B1.t t' B2.t).mono ?_
                rintro e wb ⟨rfl, hbb⟩
                rw [HQ.out]
                go_wp2_with fail
                go_ret
                exact ⟨rfl, hb0.trans (hbb.mono hb0.size)⟩
              · have he : ¬ S.data.toList = S'.data.toList := fun h => hq (HLK.out.1 h)
                have hn1 : ¬ S.toList = S'.toList := by
                  have e1 : ∀ Z : ByteArray, Z.toList = Z.data.toList := fun Z => by obtain ⟨d⟩ := Z; obtain ⟨l⟩ := d; exact ByteArray.toList_mk l
                  rw [e1, e1]; exact he
                have hn2 : (S.toList == S'.toList) = false := beq_eq_false_iff_ne.2 hn1
                have hq' : sameT t t' = false := by simpa using hq
                have HQ := Lib.hid hq'
                clear hq hq'
                go_wp2_with fail
                refine (HRS.out t A A' c c' _ B1.t t' B2.t).mono ?_
                rintro e wb ⟨rfl, hbb⟩
                rw [HQ.out]
                go_wp2_with fail
                go_ret
                exact ⟨rfl, hb0.trans (hbb.mono hb0.size)⟩
theorem back_law (t : Tr) (A : Option Addr) (c : Nat) (t' : Tr) (A' : Option Addr) (c' : Nat) (w : World) (hT : TIn w Any t A) (hT' : TIn w Any t' A') (hg : Tabs w) :
    Calls Tryz.prog 4 #[tv t A c, tv t' A' c'] w fun e w' => e = .returned (.bool true) ∧ Below w.heap.size w w' := back_any t t' A A' c c' w hT hT' hg
end Lx
end Go.Proofs.YtfjphadhnaknnaaGreatDoor
