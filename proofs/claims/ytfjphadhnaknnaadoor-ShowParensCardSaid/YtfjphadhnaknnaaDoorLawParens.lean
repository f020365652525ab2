/-
  Walk of the law ShowParens.
-/
import Derived.Test.YtfjphadhnaknnaaDoorKB
namespace Go.Proofs.YtfjphadhnaknnaaDoor
open Go.RowKit Go.Sort
namespace Lx
set_option maxRecDepth 100000
/-- Parse, whatever it answers. -/
theorem parse_any2 (s : ByteArray) (w : World) (hs : s.size ≤ 19000) (hg : Signs w) :
    Calls Tryd.prog 7 #[.string s, .int .i64 200] w fun x w' => Below w.heap.size w w' ∧ ∃ k nm n a A m c p e, x = .returned (.tuple #[.agg #[.int .i64 k, .string nm, .int .i64 n, .int .i64 a, .slice A m c], .int .i64 p, .int .i64 e]) ∧
      (∀ q g, parseV s.data.toList 200 = .error (q, g) → e = g) ∧
      (∀ t, parseV s.data.toList 200 = .ok t → e = 0 ∧ ∀ W, Below w'.heap.size w' W → Tabs W → Calls Tryd.prog 8 #[.agg #[.int .i64 k, .string nm, .int .i64 n, .int .i64 a, .slice A m c]] W fun e W' => e = .returned (.string ⟨(textT t).toArray⟩) ∧ Below W.heap.size W W') := by
  refine (parse_text s 200 w (by omega) hs hg).mono ?_
  rintro x w' ⟨hb, hgd, hbd⟩
  refine ⟨hb, ?_⟩
  cases hp : parseV s.data.toList 200 with
  | error pe =>
    obtain ⟨p, e⟩ := pe
    exact ⟨_, _, _, _, _, _, _, _, _, hbd p e hp, fun q g h => by cases h; rfl, fun t h => by cases h⟩
  | ok t =>
    obtain ⟨A, c, hx, hT⟩ := hgd t hp
    refine ⟨_, _, _, _, _, _, _, _, _, hx, fun q g h => (by cases h), fun t' h => ?_⟩
    cases h
    exact ⟨rfl, fun W hW hT4 => stext_any t A c W (TIn.any _ (TIn.below _ hT hW (Nat.le_refl _))) hT4.sg hT4.pw (ok_may hp).2.1⟩
set_option maxHeartbeats 8000000 in
theorem parens_any (s : ByteArray) (w : World) (hg : Tabs w) : Calls Tryd.prog 3 #[.string s] w fun e w' => e = .returned (.bool true) ∧ Below w.heap.size w w' := by
  have hlen : s.data.toList.length = s.size := by simp
  have HP := Lib.hid (fun s W (h2 : s.size ≤ 19000) (hg : Signs W) => parse_any2 s W h2 hg)
  go_enter Tryd.func3, Tryd.ntmps3
  go_wp2_with fail
  refine (fix4_any _ hg).mono ?_
  rintro e w1 ⟨rfl, hb1⟩
  have hg1 := hg.below hb1
  clear hg
  by_cases hs : 1000 < s.size
  · have hs' : (1000 : Int) < (s.size : Int) := by omega
    go_wp2_with fail
    refine (fix4_any _ hg1).mono ?_
    rintro e w2 ⟨rfl, hb2⟩
    go_wp2_with fail
    go_ret
    exact ⟨rfl, hb1.trans (hb2.mono hb1.size)⟩
  · have hs' : ¬ (1000 : Int) < (s.size : Int) := by omega
    have hsz : s.size ≤ 1000 := by omega
    obtain ⟨V, hV⟩ : ∃ V, V = (⟨#[40, 40]⟩ : ByteArray) ++ s ++ (⟨#[41, 41]⟩ : ByteArray) := ⟨_, rfl⟩
    have hVl : V.data.toList = 40 :: 40 :: (s.data.toList ++ [41, 41]) := by rw [hV]; simp
    have hVs : V.size ≤ 1004 := by
      have h9 : V.data.toList.length = s.data.toList.length + 4 := by rw [hVl]; simp
      have h8 : V.data.toList.length = V.size := by simp
      omega
    have HV := Lib.hid hV
    have HVL := Lib.hid hVl
    clear hV hVl
    go_wp2_with fail
    refine (HP.out s w1 (by omega) hg1.sg).mono ?_
    rintro x w2 ⟨hb2, k, nm, n, a, A, m, c, p, e, rfl, he1, he2⟩
    have hb3 := hb2.trans ((below_alloc1 w2 (.cells #[.int .i64 k, .string nm, .int .i64 n, .int .i64 a, .slice A m c] 25)).mono hb2.size)
    have hg3 := hg1.below hb3
    have hb03 := hb1.trans (hb3.mono hb1.size)
    have hL3 := Lies.new w2 25 #[.int .i64 k, .string nm, .int .i64 n, .int .i64 a, .slice A m c]
    have HE1 := Lib.hid he1
    have HE2 := Lib.hid he2
    clear he1 he2 hb2 hb3 hb1 hg1
    go_wp2_with fail
    rw [← HV.out]
    refine (HP.out V _ (by omega) hg3.sg).mono ?_
    rintro x w4 ⟨hb4, k4, nm4, n4, a4, A4, m4, c4, p4, e4, rfl, hf1, hf2⟩
    have hb5 := hb4.trans ((below_alloc1 w4 (.cells #[.int .i64 k4, .string nm4, .int .i64 n4, .int .i64 a4, .slice A4 m4 c4] 25)).mono hb4.size)
    have hg5 := hg3.below hb5
    have hb05 := hb03.trans (hb5.mono hb03.size)
    rw [HVL.out] at hf1 hf2
    cases hp : parseV s.data.toList 200 with
    | error pe =>
      obtain ⟨q, g⟩ := pe
      have he := HE1.out q g hp
      have hne := parseV_code0 hp
      subst he
      have h1 : (e == 0) = false := by simpa using hne
      have h2 : (e != 0) = true := by simpa using hne
      clear hf1 hf2 hne hp
      go_wp2_with fail
      go_ret
      exact ⟨rfl, hb05⟩
    | ok t =>
      obtain ⟨rfl, hT⟩ := HE2.out t hp
      obtain ⟨u, hpu, htu⟩ := parens_ok (by omega) hp
      obtain ⟨rfl, hU⟩ := hf2 u hpu
      rw [htu] at hU
      have hne := (ok_may hp).2.2.2
      obtain ⟨X, hX⟩ : ∃ X, X = textT t := ⟨_, rfl⟩
      rw [← hX] at hT hU hne
      have hXe : X.isEmpty = false := by cases X with | nil => exact absurd rfl hne | cons => rfl
      have hX1 : (⟨X.toArray⟩ : ByteArray).toList.isEmpty = false := by rw [ByteArray.toList_mk]; exact hXe
      have hX2 : (!(⟨X.toArray⟩ : ByteArray).toList.isEmpty) = true := by rw [hX1]; rfl
      have hX3 : (!X.isEmpty) = true := by rw [hXe]; rfl
      have hL5 := hL3.below hb5 hL3.lt
      have hL6 := (Lies.new w4 25 #[.int .i64 k4, .string nm4, .int .i64 n4, .int .i64 a4, .slice A4 m4 c4])
      have hz2 : Below w2.heap.size w2 (w2.alloc (.cells #[.int .i64 k, .string nm, .int .i64 n, .int .i64 a, .slice A m c] 25)) := below_alloc1 _ _
      obtain ⟨O2, hO2⟩ : ∃ O2, O2 = Obj.cells #[.int .i64 k, .string nm, .int .i64 n, .int .i64 a, .slice A m c] 25 := ⟨_, rfl⟩
      obtain ⟨O4, hO4⟩ : ∃ O4, O4 = Obj.cells #[.int .i64 k4, .string nm4, .int .i64 n4, .int .i64 a4, .slice A4 m4 c4] 25 := ⟨_, rfl⟩
      have hT' := Lib.hid hT
      have hU' := Lib.hid hU
      clear hT hU hX hne hp hf1 hf2 HE1 HE2 htu hpu hL3
      go_upto_region 7 with fail
      rw [← hO4]
      rw [← hO4] at hb05 hg5 hL5 hL6 hb5
      rw [← hO2] at hb5 hz2 hb4
      have hb4' := hb4
      obtain ⟨W5, hW5⟩ : ∃ W, W = w4.alloc O4 := ⟨_, rfl⟩
      have hz4 : Below w4.heap.size w4 (w4.alloc O4) := below_alloc1 _ _
      rw [← hW5] at hb05 hg5 hL5 hL6 hb5 hz4 ⊢
      have hx2 := hz2.trans (hb5.mono hz2.size)
      have HT5 := Lib.hid (fun W (h : Below W5.heap.size W5 W) => (hT'.out W (hx2.trans (h.mono hx2.size)) (hg5.below h)).mono (fun e W' h2 => (show e = .returned (.string ⟨X.toArray⟩) ∧ Below W5.heap.size W5 W' from ⟨h2.1, h.trans (h2.2.mono h.size)⟩)))
      have HU5 := Lib.hid (fun W (h : Below W5.heap.size W5 W) => (hU'.out W (hz4.trans (h.mono hz4.size)) (hg5.below h)).mono (fun e W' h2 => (show e = .returned (.string ⟨X.toArray⟩) ∧ Below W5.heap.size W5 W' from ⟨h2.1, h.trans (h2.2.mono h.size)⟩)))
      have hS : ∀ V, Below W5.heap.size W5 V → V.cell? ⟨w2.heap.size, 0, none⟩ = some (.int .i64 k) ∧ V.cell? ⟨w2.heap.size, 1, none⟩ = some (.string nm) ∧ V.cell? ⟨w2.heap.size, 2, none⟩ = some (.int .i64 n) ∧ V.cell? ⟨w2.heap.size, 3, none⟩ = some (.int .i64 a) ∧ V.cell? ⟨w2.heap.size, 4, none⟩ = some (.slice A m c) ∧
          V.cell? ⟨w4.heap.size, 0, none⟩ = some (.int .i64 k4) ∧ V.cell? ⟨w4.heap.size, 1, none⟩ = some (.string nm4) ∧ V.cell? ⟨w4.heap.size, 2, none⟩ = some (.int .i64 n4) ∧ V.cell? ⟨w4.heap.size, 3, none⟩ = some (.int .i64 a4) ∧ V.cell? ⟨w4.heap.size, 4, none⟩ = some (.slice A4 m4 c4) := fun V h => by
        have y := hL5.below h hL5.lt
        have z := hL6.below h hL6.lt
        exact ⟨y.cell 0, y.cell 1, y.cell 2, y.cell 3, y.cell 4, z.cell 0, z.cell 1, z.cell 2, z.cell 3, z.cell 4⟩
      have HS := Lib.hid hS
      have hd1 : Below W5.heap.size W5 W5.drew := (Below.refl _ W5).drew
      clear hS hL5 hL6 hb5 hb4 hb4' hz2 hz4 hx2 hO2 hO4 hW5 hg5 hg3 hb03 hT' hU'
      go_region_held3 (fun V => V.cell? ⟨w2.heap.size, 0, none⟩ = some (.int .i64 k) ∧ V.cell? ⟨w2.heap.size, 1, none⟩ = some (.string nm) ∧ V.cell? ⟨w2.heap.size, 2, none⟩ = some (.int .i64 n) ∧ V.cell? ⟨w2.heap.size, 3, none⟩ = some (.int .i64 a) ∧ V.cell? ⟨w2.heap.size, 4, none⟩ = some (.slice A m c) ∧
          V.cell? ⟨w4.heap.size, 0, none⟩ = some (.int .i64 k4) ∧ V.cell? ⟨w4.heap.size, 1, none⟩ = some (.string nm4) ∧ V.cell? ⟨w4.heap.size, 2, none⟩ = some (.int .i64 n4) ∧ V.cell? ⟨w4.heap.size, 3, none⟩ = some (.int .i64 a4) ∧ V.cell? ⟨w4.heap.size, 4, none⟩ = some (.slice A4 m4 c4))
        (exact HS.out _ (by assumption))
        ((first
          | (go_at_call 8
             with_reducible refine (HT5.out _ (by assumption)).mono ?_
             rintro e w6 ⟨rfl, hb6⟩)
          | (go_at_call 8
             with_reducible refine (HU5.out _ (by assumption)).mono ?_
             rintro e w6 ⟨rfl, hb6⟩)))
      all_goals
        go_wp2_with fail
        go_ret
        exact ⟨rfl, hb05.trans (Below.mono (by assumption) hb05.size)⟩
end Lx
end Go.Proofs.YtfjphadhnaknnaaDoor
