/-
  Walk of the law ParseRound.
-/
import Derived.Test.YtenkmfpojgbpoaaDoorK8
namespace Go.Proofs.YtenkmfpojgbpoaaDoor
open Go.RowKit
namespace Lx
set_option maxRecDepth 100000
theorem Bt.newAny {W : World} {k n a : Int} {nm : ByteArray} {A : Option Addr} {m c : Nat} : Below W.heap.size W (W.alloc (.cells #[.int .i64 k, .string nm, .int .i64 n, .int .i64 a, .slice A m c] 25)) := below_alloc W _
set_option maxHeartbeats 8000000 in
theorem pround_any (s : ByteArray) (w : World) (hg : Signs w) : Calls Tryd.prog 4 #[.string s] w fun e w' => e = .returned (.bool true) ∧ Below w.heap.size w w' := by
  have hlen : s.data.toList.length = s.size := by simp
  go_enter Tryd.func4, Tryd.ntmps4
  go_wp2_with fail
  refine (fix3_any _ hg).mono ?_
  rintro e w1 ⟨rfl, hb1⟩
  have hg1 := hg.below hb1 hg.pos
  clear hg
  by_cases hs : 1500 < s.size
  · have hs' : (1500 : Int) < (s.size : Int) := by omega
    go_wp2_with fail
    refine (fix3_any _ hg1).mono ?_
    rintro e w2 ⟨rfl, hb2⟩
    go_wp2_with fail
    go_ret
    exact ⟨rfl, hb1.trans (hb2.mono hb1.size)⟩
  · have hs' : ¬ (1500 : Int) < (s.size : Int) := by omega
    have hsz : s.size ≤ 1500 := by omega
    have HP := Lib.hid (fun s W (h2 : s.size ≤ 19000) (hg : Signs W) => parse_text s 200 W (by omega) h2 hg)
    have HRA := Lib.hid (fun W => rall_any s W (by omega))
    obtain ⟨V, hV⟩ : ∃ V, V = (⟨#[40]⟩ : ByteArray) ++ s ++ (⟨#[41]⟩ : ByteArray) := ⟨_, rfl⟩
    obtain ⟨X, hX⟩ : ∃ X, X = (⟨#[32, 40, 40]⟩ : ByteArray) ++ s ++ (⟨#[32, 41, 32, 41]⟩ : ByteArray) := ⟨_, rfl⟩
    have hVl : V.data.toList = 40 :: (s.data.toList ++ [41]) := by rw [hV]; simp
    have hXl : X.data.toList = 32 :: 40 :: 40 :: (s.data.toList ++ [32, 41, 32, 41]) := by rw [hX]; simp
    have hVs : V.size ≤ 1502 := by
      have h9 : V.data.toList.length = s.data.toList.length + 2 := by rw [hVl]; simp
      have h8 : V.data.toList.length = V.size := by simp
      omega
    have hXs : X.size ≤ 1507 := by
      have h9 : X.data.toList.length = s.data.toList.length + 7 := by rw [hXl]; simp
      have h8 : X.data.toList.length = X.size := by simp
      omega
    have HV := Lib.hid hV
    have HX := Lib.hid hX
    have HVL := Lib.hid hVl
    have HXL := Lib.hid hXl
    clear hV hX hVl hXl
    go_wp2_with fail
    refine (HP.out s w1 (by omega) hg1).mono ?_
    rintro x w2 ⟨hb2, hgd2, hbd2⟩
    have hg2 := hg1.below hb2 hg1.pos
    have hb02 := hb1.trans (hb2.mono hb1.size)
    clear hg1 hb1 hb2
    cases hk : allK s.data.toList with
    | error px =>
      obtain ⟨p, x⟩ := px
      obtain rfl := hbd2 p x (parseV_lex (by omega) (by omega) hk)
      have hx0 : (x == 0) = false := by have := err_code hk; simp; omega
      have hb3 := hb02.alloc hb02.size (.cells #[.int .i64 0, .string ⟨#[]⟩, .int .i64 0, .int .i64 0, .slice none 0 0] 25)
      clear hgd2 hbd2
      go_wp2_with fail
      refine (HRA.out _).mono ?_
      rintro y w4 ⟨_, hr2, hb4⟩
      obtain rfl := hr2 p x hk
      clear hr2
      go_wp2_with fail
      go_ret
      exact ⟨rfl, hb3.trans (hb4.mono hb3.size)⟩
    | ok ts =>
      obtain ⟨hGL, hln, _⟩ := allK_GL hk
      rw [hlen] at hln
      have htb : (textS ts).length ≤ 3000 := by
        have := textS_bound _ _ _ _ hk
        rw [List.length_drop] at this
        omega
      obtain ⟨Y, hY⟩ : ∃ Y : ByteArray, Y = ⟨(textS ts).toArray⟩ := ⟨_, rfl⟩
      have hYl : Y.data.toList = textS ts := by rw [hY]
      have hYs : Y.size ≤ 3000 := by
        have h8 : Y.data.toList.length = Y.size := by simp
        rw [hYl] at h8
        omega
      have HTX := Lib.hid (fun A c W (h : Row W A ts) => rtext_any A ts ts.length c rfl W h (by omega) (by omega))
      rw [← hY] at HTX
      have HYL := Lib.hid hYl
      clear hY hYl htb
      cases hp : parseV s.data.toList 200 with
      | ok t =>
        obtain ⟨A, c, rfl, hT⟩ := hgd2 t hp
        obtain ⟨⟨t1, p1, s1⟩, ⟨t2, p2, s2⟩, ⟨t3, p3, s3⟩⟩ := round_ok (by omega) hk hp
        rw [← HYL.out] at p1
        rw [← HVL.out] at p2
        rw [← HXL.out] at p3
        have hdep := depth_pos t
        have HRS := Lib.hid (fun u A A' c c' W (hu : sameT t u = true) (h1 : TIn W Any t A) (h2 : TIn W Any u A') => (show Calls Tryd.prog 17 #[tv t A c, tv u A' c'] W fun e w' => e = .returned (.bool true) ∧ Below W.heap.size W w' from by rw [← hu]; exact rsame_tree (depthT t) t u A A' c c' W (Nat.le_refl _) h1 h2))
        have HK := Lib.hid hk
        have P1 := Lib.hid p1
        have P2 := Lib.hid p2
        have P3 := Lib.hid p3
        have B := Bt.new (c := c) hT
        have hb3 := below_alloc w2 (.cells #[.int .i64 t.kind, .string t.name, .int .i64 t.n, .int .i64 t.place, .slice A t.parts.length c] 25)
        have hb03 := hb02.trans (hb3.mono hb02.size)
        have hg3 := hg2.below hb3 hg2.pos
        clear hgd2 hbd2 hp hk hb3 hb02 hg2 hT p1 p2 p3 hGL
        unfold tv
        go_upto_region 4 with fail
        obtain ⟨g3, hg3'⟩ : ∃ g, g = w2.heap.size := ⟨_, rfl⟩
        obtain ⟨W3, hW3⟩ : ∃ W, W = w2.alloc (.cells #[.int .i64 t.kind, .string t.name, .int .i64 t.n, .int .i64 t.place, .slice A t.parts.length c] 25) := ⟨_, rfl⟩
        rw [← hg3', ← hW3] at B ⊢
        rw [← hW3] at hb03 hg3
        clear hg3' hW3
        go_wp2_with fail
        refine (HRA.out W3).mono ?_
        rintro x w4 ⟨hr1, _, hb4⟩
        obtain ⟨TA, tc, rfl, hrow⟩ := hr1 ts HK.out
        have B4 := B.step hb4
        have hg4 := hg3.below hb4 hg3.pos
        have hb04 := hb03.trans (hb4.mono hb03.size)
        clear hr1 hb4 B hg3 hb03
        go_wp2_with fail
        refine (HTX.out TA tc w4 hrow).mono ?_
        rintro x w5 ⟨rfl, rfl⟩
        clear hrow
        go_wp2_with fail
        refine (HP.out Y w4 (by omega) hg4).mono ?_
        rintro x w6 ⟨hb6, hgd6, _⟩
        obtain ⟨A6, c6, rfl, hT6⟩ := hgd6 t1 P1.out
        have hq6 := hb6.trans ((below_alloc w6 (.cells #[.int .i64 t1.kind, .string t1.name, .int .i64 t1.n, .int .i64 t1.place, .slice A6 t1.parts.length c6] 25)).mono hb6.size)
        have B6 := B4.step hq6
        have C6 := Bt.new (c := c6) hT6
        have hg6 := hg4.below hq6 hg4.pos
        have hb06 := hb04.trans (hq6.mono hb04.size)
        clear hb6 hgd6 hT6 hq6 B4 hg4 hb04
        unfold tv
        go_upto_region 8 with fail
        obtain ⟨g6, hgg6⟩ : ∃ g, g = w6.heap.size := ⟨_, rfl⟩
        obtain ⟨W6, hW6⟩ : ∃ W, W = w6.alloc (.cells #[.int .i64 t1.kind, .string t1.name, .int .i64 t1.n, .int .i64 t1.place, .slice A6 t1.parts.length c6] 25) := ⟨_, rfl⟩
        rw [← hgg6, ← hW6] at C6 ⊢
        rw [← hW6] at B6 hg6 hb06
        clear hgg6 hW6
        go_wp2_with fail
        rw [← HV.out]
        refine (HP.out V W6 (by omega) hg6).mono ?_
        rintro x w7 ⟨hb7, hgd7, _⟩
        obtain ⟨A7, c7, rfl, hT7⟩ := hgd7 t2 P2.out
        have hq7 := hb7.trans ((below_alloc w7 (.cells #[.int .i64 t2.kind, .string t2.name, .int .i64 t2.n, .int .i64 t2.place, .slice A7 t2.parts.length c7] 25)).mono hb7.size)
        have B7 := B6.step hq7
        have C7 := C6.step hq7
        have D7 := Bt.new (c := c7) hT7
        have hg7 := hg6.below hq7 hg6.pos
        have hb07 := hb06.trans (hq7.mono hb06.size)
        clear hb7 hgd7 hT7 hq7 B6 C6 hg6 hb06
        unfold tv
        go_upto_region 9 with fail
        obtain ⟨g7, hgg7⟩ : ∃ g, g = w7.heap.size := ⟨_, rfl⟩
        obtain ⟨W7, hW7⟩ : ∃ W, W = w7.alloc (.cells #[.int .i64 t2.kind, .string t2.name, .int .i64 t2.n, .int .i64 t2.place, .slice A7 t2.parts.length c7] 25) := ⟨_, rfl⟩
        rw [← hgg7, ← hW7] at D7 ⊢
        rw [← hW7] at B7 C7 hg7 hb07
        clear hgg7 hW7
        go_wp2_with fail
        rw [← HX.out]
        refine (HP.out X W7 (by omega) hg7).mono ?_
        rintro x w8 ⟨hb8, hgd8, _⟩
        obtain ⟨A8, c8, rfl, hT8⟩ := hgd8 t3 P3.out
        have hq8 := hb8.trans ((below_alloc w8 (.cells #[.int .i64 t3.kind, .string t3.name, .int .i64 t3.n, .int .i64 t3.place, .slice A8 t3.parts.length c8] 25)).mono hb8.size)
        have B8 := B7.step hq8
        have C8 := C7.step hq8
        have D8 := D7.step hq8
        have E8 := Bt.new (c := c8) hT8
        have hb08 := hb07.trans (hq8.mono hb07.size)
        clear hb8 hgd8 hT8 hq8 B7 C7 D7 hg7 hb07
        unfold tv
        go_upto_region 10 with fail
        obtain ⟨g8, hgg8⟩ : ∃ g, g = w8.heap.size := ⟨_, rfl⟩
        obtain ⟨W8, hW8⟩ : ∃ W, W = w8.alloc (.cells #[.int .i64 t3.kind, .string t3.name, .int .i64 t3.n, .int .i64 t3.place, .slice A8 t3.parts.length c8] 25) := ⟨_, rfl⟩
        rw [← hgg8, ← hW8] at E8 ⊢
        rw [← hW8] at B8 C8 D8 hb08
        clear hgg8 hW8
        obtain ⟨⟨x0, x1, x2, x3, x4⟩, _⟩ := B8.x.five
        obtain ⟨⟨y0, y1, y2, y3, y4⟩, _⟩ := C8.x.five
        go_wp2_with fail
        refine (HRS.out t1 A A6 c c6 W8 s1 B8.t C8.t).mono ?_
        rintro x w9 ⟨rfl, hb9⟩
        have B9 := B8.step hb9
        have D9 := D8.step hb9
        have E9 := E8.step hb9
        have hb09 := hb08.trans (hb9.mono hb08.size)
        clear hb9 B8 C8 D8 E8 hb08 x0 x1 x2 x3 x4 y0 y1 y2 y3 y4
        obtain ⟨⟨x0, x1, x2, x3, x4⟩, _⟩ := B9.x.five
        obtain ⟨⟨y0, y1, y2, y3, y4⟩, _⟩ := D9.x.five
        go_wp2_with fail
        refine (HRS.out t2 A A7 c c7 w9 s2 B9.t D9.t).mono ?_
        rintro x wa ⟨rfl, hba⟩
        have Ba := B9.step hba
        have Ea := E9.step hba
        have hb0a := hb09.trans (hba.mono hb09.size)
        clear hba B9 D9 E9 hb09 x0 x1 x2 x3 x4 y0 y1 y2 y3 y4
        obtain ⟨⟨x0, x1, x2, x3, x4⟩, _⟩ := Ba.x.five
        obtain ⟨⟨y0, y1, y2, y3, y4⟩, _⟩ := Ea.x.five
        go_wp2_with fail
        refine (HRS.out t3 A A8 c c8 wa s3 Ba.t Ea.t).mono ?_
        rintro x wb ⟨rfl, hbb⟩
        have hb0b := hb0a.trans (hbb.mono hb0a.size)
        clear hbb Ba Ea hb0a x0 x1 x2 x3 x4 y0 y1 y2 y3 y4
        go_wp2_with fail
        go_ret
        exact ⟨rfl, hb0b⟩
      | error pe =>
        obtain ⟨p, e⟩ := pe
        obtain rfl := hbd2 p e hp
        have he0 := parseV_codes hp
        have he0' : (e == 0) = false := by simpa using he0
        obtain ⟨⟨p', hp1⟩, hp2⟩ := round_bad (by omega) hk hp
        rw [← HYL.out] at hp1
        have HK := Lib.hid hk
        have P1 := Lib.hid hp1
        have P2 := Lib.hid hp2
        have HPA := Lib.hid (fun A c W (h : Row W A ts) => paired_any ts A ts.length c rfl (by omega) W h)
        have hb3 := below_alloc w2 (.cells #[.int .i64 0, .string ⟨#[]⟩, .int .i64 0, .int .i64 0, .slice none 0 0] 25)
        have hb03 := hb02.trans (hb3.mono hb02.size)
        have hg3 := hg2.below hb3 hg2.pos
        clear hgd2 hbd2 hp hk hb3 hb02 hg2 hGL hp1 hp2 he0
        go_wp2_with fail
        refine (HRA.out _).mono ?_
        rintro x w4 ⟨hr1, _, hb4⟩
        obtain ⟨TA, tc, rfl, hrow⟩ := hr1 ts HK.out
        have hg4 := hg3.below hb4 hg3.pos
        have hb04 := hb03.trans (hb4.mono hb03.size)
        clear hr1 hb4 hg3 hb03
        go_wp2_with fail
        refine (HTX.out TA tc w4 hrow).mono ?_
        rintro x w5 ⟨rfl, rfl⟩
        go_wp2_with fail
        refine (HP.out Y w4 (by omega) hg4).mono ?_
        rintro x w6 hpa
        have hx := hpa.bad p' e P1.out
        subst hx
        have hb6 := hpa.mv
        have hq6 := hb6.trans ((below_alloc w6 (.cells #[.int .i64 0, .string ⟨#[]⟩, .int .i64 0, .int .i64 0, .slice none 0 0] 25)).mono hb6.size)
        have hg6 := hg4.below hq6 hg4.pos
        have hb06 := hb04.trans (hq6.mono hb04.size)
        have hrow6 := hrow.below hq6 (Nat.le_refl _)
        clear hpa hb6 hq6 hg4 hb04 hrow
        go_wp2_with fail
        rw [← HV.out]
        refine (HP.out V _ (by omega) hg6).mono ?_
        rintro x w7 hpa
        obtain ⟨k7, nm7, n7, a7, A7, m7, c7, q7, g7, rfl, he7, ho7⟩ := pa_any hpa
        have hb7 := hpa.mv
        have hq7 := hb7.trans ((below_alloc w7 (.cells #[.int .i64 k7, .string nm7, .int .i64 n7, .int .i64 a7, .slice A7 m7 c7] 25)).mono hb7.size)
        have hg7 := hg6.below hq7 hg6.pos
        have hb07 := hb06.trans (hq7.mono hb06.size)
        have hrow7 := hrow6.below hq7 (Nat.le_refl _)
        clear hpa hb7 hq7 hg6 hb06 hrow6
        rw [HVL.out] at he7 ho7
        have hfin : (g7 == 0) = false ∨ (g7 = 0 ∧ pairedV 0 ts = true) := by
          cases hv : parseV (40 :: (s.data.toList ++ [41])) 200 with
          | ok u => right; exact ⟨(ho7 u hv).2, P2.out u hv⟩
          | error qg =>
            obtain ⟨q', g'⟩ := qg
            left
            have := parseV_codes hv
            have h9 := (he7 q' g' hv).2
            simp; omega
        clear he7 ho7
        go_wp2_with fail
        rw [← HX.out]
        refine (HP.out X _ (by omega) hg7).mono ?_
        rintro x w8 hpa
        obtain ⟨k8, nm8, n8, a8, A8, m8, c8, q8, g8, rfl, _, _⟩ := pa_any hpa
        have hb8 := hpa.mv
        have hq8 := hb8.trans ((below_alloc w8 (.cells #[.int .i64 k8, .string nm8, .int .i64 n8, .int .i64 a8, .slice A8 m8 c8] 25)).mono hb8.size)
        have hb08 := hb07.trans (hq8.mono hb07.size)
        have hrow8 := hrow7.below hq8 (Nat.le_refl _)
        clear hpa hb8 hq8 hg7 hb07 hrow7
        rcases hfin with hf | ⟨rfl, hpd⟩
        · have hf1 : ¬ g7 = 0 := by simpa using hf
          have hf2 : (g7 != 0) = true := by simpa using hf1
          have hf3 : (!(g7 == 0)) = true := by rw [hf]; rfl
          go_wp2_with fail
          go_ret
          exact ⟨rfl, hb08⟩
        · go_wp2_with fail
          refine (HPA.out TA tc _ hrow8).mono ?_
          rintro x w9 ⟨rfl, rfl⟩
          rw [hpd]
          go_wp2_with fail
          go_ret
          exact ⟨rfl, hb08⟩
end Lx
end Go.Proofs.YtenkmfpojgbpoaaDoor
