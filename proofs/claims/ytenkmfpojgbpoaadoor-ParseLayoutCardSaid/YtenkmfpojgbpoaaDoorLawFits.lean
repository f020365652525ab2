/-
  Walk of the law ParseFits.
-/
import Derived.Test.YtenkmfpojgbpoaaDoorK6
import Derived.Test.YtenkmfpojgbpoaaDoorK3
namespace Go.Proofs.YtenkmfpojgbpoaaDoor
open Go.RowKit
namespace Lx
set_option maxRecDepth 100000
mutual
theorem one_self : ∀ t : Tr, oneT t t = true
  | .node k s n a l => by rw [oneT]; simp [one_selfL l]
theorem one_selfL : ∀ l : List Tr, oneL l l = true
  | [] => by rw [oneL]
  | t :: r => by rw [oneL, one_self t, one_selfL r]; rfl
end
theorem wholeQ_suf {l q : List Tok} (h : wholeQ l = .error q) : ∃ c, l = c ++ q := by
  obtain ⟨c, hc⟩ := nice_all.suf l
  refine ⟨c, ?_⟩
  unfold wholeQ at h
  cases hq : allQ l with
  | error p => rw [hq] at h hc; simp only [Except.error.injEq] at h; rw [← h]; exact hc
  | ok x =>
    obtain ⟨t, r⟩ := x
    rw [hq] at h hc
    cases r with
    | nil => cases h
    | cons a r => simp only [Except.error.injEq] at h; rw [← h]; exact hc
theorem parseV_err {s : List UInt8} {deep p k : Int} (hd : 1 ≤ deep ∧ deep ≤ 200) (hs : s.length ≤ 4096) (h : parseV s deep = .error (p, k)) : 0 ≤ p ∧ p ≤ s.length ∧ k ≠ 0 := by
  cases hk : allK s with
  | error px =>
    obtain ⟨p', x⟩ := px
    rw [parseV_lex hd hs hk] at h
    simp only [Except.error.injEq, Prod.mk.injEq] at h
    obtain ⟨rfl, rfl⟩ := h
    obtain ⟨j, hj, hl⟩ := allK_place hk
    have := err_code hk
    omega
  | ok ts =>
    rw [parseV_tok hd hs hk] at h
    cases hq : wholeQ ts with
    | error q =>
      rw [hq] at h
      simp only [Except.error.injEq, Prod.mk.injEq] at h
      obtain ⟨rfl, rfl⟩ := h
      obtain ⟨c, rfl⟩ := wholeQ_suf hq
      cases q with
      | nil => simp [peekV]
      | cons a r =>
        have := (allK_GL hk).2.2 a (by simp)
        simp only [peekV]
        omega
    | ok t =>
      rw [hq] at h
      simp only at h
      split at h
      · simp only [Except.error.injEq, Prod.mk.injEq] at h
        omega
      · cases h
theorem iv_may {c : List Tok} {t : Tr} (h : Iv false c t) : mayV t = true := by
  unfold mayV
  rw [h.may, decide_eq_true h.kind]; rfl
theorem parseV_deep {s : List UInt8} {deep d : Int} {t : Tr} (h : parseV s deep = .ok t) (hd : 1 ≤ d ∧ d ≤ 200) : parseV s d = if d < (depthT t : Int) then .error (0, 31) else .ok t := by
  obtain ⟨_, h2, ts, h3, h4, _, _⟩ := parseV_ok h
  rw [parseV_tok hd h2 h3, h4]
set_option maxHeartbeats 8000000 in
theorem pfits_any (s : ByteArray) (deep : Int) (w : World) (hg : Signs w) : Calls Tryd.prog 3 #[.string s, .int .i64 deep] w fun e w' => e = .returned (.bool true) ∧ Below w.heap.size w w' := by
  have hlen : s.data.toList.length = s.size := by simp
  go_enter Tryd.func3, Tryd.ntmps3
  go_wp2_with fail
  refine (fix3_any _ hg).mono ?_
  rintro e w1 ⟨rfl, hb1⟩
  have hg1 := hg.below hb1 hg.pos
  clear hg
  by_cases hs : 1500 < s.size
  · have hs' : (1500 : Int) < (s.size : Int) := by omega
    go_wp2_with fail
    refine (fix3_any _ hg1).mono ?_
    rintro e w2 ⟨rfl, hb2⟩
    go_wp2_with fail
    go_ret
    exact ⟨rfl, hb1.trans (hb2.mono hb1.size)⟩
  · have hs' : ¬ (1500 : Int) < (s.size : Int) := by omega
    by_cases hd1 : deep < 1
    · go_wp2_with fail
      refine (fix3_any _ hg1).mono ?_
      rintro e w2 ⟨rfl, hb2⟩
      go_wp2_with fail
      go_ret
      exact ⟨rfl, hb1.trans (hb2.mono hb1.size)⟩
    · by_cases hd2 : 200 < deep
      · go_wp2_with fail
        refine (fix3_any _ hg1).mono ?_
        rintro e w2 ⟨rfl, hb2⟩
        go_wp2_with fail
        go_ret
        exact ⟨rfl, hb1.trans (hb2.mono hb1.size)⟩
      · have HP := Lib.hid (fun d W (h1 : -1000000 ≤ d ∧ d ≤ 1000000) (hg : Signs W) => parse_text s d W h1 (by omega) hg)
        go_wp2_with fail
        refine (HP.out deep w1 (by omega) hg1).mono ?_
        rintro x w2 ⟨hb2, hgd2, hbd2⟩
        have hg2 := hg1.below hb2 hg1.pos
        have hb02 := hb1.trans (hb2.mono hb1.size)
        clear hg1 hb1
        cases hp : parseV s.data.toList deep with
        | error pk =>
          obtain ⟨p, k⟩ := pk
          obtain rfl := hbd2 p k hp
          obtain ⟨hp1, hp2, hk⟩ := parseV_err ⟨by omega, by omega⟩ (by omega) hp
          rw [hlen] at hp2
          have B := Bt.new (W := w2) (t := .node 0 ⟨#[]⟩ 0 0 []) (A := none) (c := 0) (X := Any) (TIn.leaf (by decide))
          have hk' : (k == 0) = false := by simpa using hk
          have hp1' : (0 : Int) ≤ p := hp1
          have HONE := Lib.hid (fun W (h1 : TIn W Any (.node 0 ⟨#[]⟩ 0 0 []) none) => one_tree 3 (.node 0 ⟨#[]⟩ 0 0 []) (.node 0 ⟨#[]⟩ 0 0 []) none none 0 0 W (by decide) h1 h1)
          have hb3 := below_alloc w2 (.cells #[.int .i64 0, .string ⟨#[]⟩, .int .i64 0, .int .i64 0, .slice none 0 0] 25)
          have hb03 := hb02.trans (hb3.mono hb02.size)
          clear hgd2 hbd2 hp hb2 hb02 HP hk hg2 hb3
          go_upto_region 4 with fail
          obtain ⟨g5, hg5⟩ : ∃ g, g = w2.heap.size := ⟨_, rfl⟩
          obtain ⟨W3, hW3⟩ : ∃ W, W = w2.alloc (.cells #[.int .i64 0, .string ⟨#[]⟩, .int .i64 0, .int .i64 0, .slice none 0 0] 25) := ⟨_, rfl⟩
          have B' : Bt W3 g5 (.node 0 ⟨#[]⟩ 0 0 []) none 0 := by rw [hW3, hg5]; exact B
          rw [← hg5, ← hW3]
          rw [← hW3] at hb03
          clear hg5 hW3 B
          have x0 := B'.x.cell 0
          have x1 := B'.x.cell 1
          have x2 := B'.x.cell 2
          have x3 := B'.x.cell 3
          have x4 := B'.x.cell 4
          simp [Tr.kind, Tr.name, Tr.n, Tr.place, Tr.parts] at x0 x1 x2 x3 x4
          go_wp2_with fail
          refine (HONE.out _ B'.t).mono ?_
          rintro y w4 ⟨rfl, hb4⟩
          go_wp2_with fail
          go_ret
          exact ⟨rfl, hb03.trans (hb4.mono hb03.size)⟩
        | ok t =>
          obtain ⟨A, c, rfl, hT⟩ := hgd2 t hp
          obtain ⟨hdd, hl4, ts, hts, hwq, hdt, hiv⟩ := parseV_ok hp
          obtain ⟨hGL, hln, _⟩ := allK_GL hts
          rw [hlen] at hln hl4
          have hz : sizeT t ≤ 100000 := by have := hiv.sz; omega
          have hm := iv_may hiv
          have hpl := plV_of ts t hiv.pl
          have hdp := depth_pos t
          have P200 : parseV s.data.toList 200 = .ok t := by rw [parseV_deep hp (by omega), if_neg (by omega)]
          have Pn : parseV s.data.toList (depthT t : Int) = .ok t := by rw [parseV_deep hp (by omega), if_neg (by omega)]
          have Pm : (depthT t : Int) ≠ 1 → parseV s.data.toList ((depthT t : Int) - 1) = .error (0, 31) := fun h => by rw [parseV_deep hp (by omega), if_pos (by omega)]
          have HRA := Lib.hid (fun W => rall_any s W (by omega))
          have HDE := Lib.hid (fun A c W (h : TIn W Any t A) => rdepth_any (depthT t) t A c W (Nat.le_refl _) hz h)
          have HMY := Lib.hid (fun A c W (h : TIn W Any t A) => rMay_any t A c W h)
          have HON := Lib.hid (fun A A' c c' W (h1 : TIn W Any t A) (h2 : TIn W Any t A') => one_tree (depthT t) t t A A' c c' W (Nat.le_refl _) h1 h2)
          have HPL := Lib.hid (fun T tc A c W (h : TIn W Any t A) (hr : Row W T ts) => places_any (depthT t) ts T ts.length tc rfl (by omega) t A c W (Nat.le_refl _) hz h hr)
          rw [one_self] at HON
          rw [hpl] at HPL
          rw [hm] at HMY
          have HTS := Lib.hid hts
          have HP200 := Lib.hid P200
          have HPn := Lib.hid Pn
          have HPm := Lib.hid Pm
          have hdz : (depthT t : Int) ≤ 200 := by omega
          obtain ⟨dt, hdte⟩ : ∃ d : Nat, d = depthT t := ⟨_, rfl⟩
          rw [← hdte] at HPn HPm HDE hdz hdp hdt
          clear hgd2 hbd2 hp hiv hm hpl P200 Pn Pm hts hwq hGL hdte
          have B := Bt.new (c := c) hT
          have hb3 := below_alloc w2 (.cells #[.int .i64 t.kind, .string t.name, .int .i64 t.n, .int .i64 t.place, .slice A t.parts.length c] 25)
          have hb03 := hb02.trans (hb3.mono hb02.size)
          have hg3 := hg2.below hb3 hg2.pos
          clear hb2 hb02 hg2 hb3 hT
          unfold tv
          go_upto_region 4 with fail
          obtain ⟨g5, hg5⟩ : ∃ g, g = w2.heap.size := ⟨_, rfl⟩
          obtain ⟨W3, hW3⟩ : ∃ W, W = w2.alloc (.cells #[.int .i64 t.kind, .string t.name, .int .i64 t.n, .int .i64 t.place, .slice A t.parts.length c] 25) := ⟨_, rfl⟩
          rw [← hg5, ← hW3] at B ⊢
          rw [← hW3] at hb03 hg3
          clear hg5 hW3
          go_wp2_with fail
          refine (HRA.out W3).mono ?_
          rintro x w4 ⟨hr1, _, hb4⟩
          obtain ⟨TA, tc, rfl, hrow⟩ := hr1 ts HTS.out
          have B4 := B.step hb4
          have hg4 := hg3.below hb4 hg3.pos
          have hb04 := hb03.trans (hb4.mono hb03.size)
          clear hr1 hb4 B hg3 hb03
          obtain ⟨⟨x0, x1, x2, x3, x4⟩, _⟩ := B4.x.five
          go_wp2_with fail
          refine (HDE.out A c w4 B4.t).mono ?_
          rintro x w5 ⟨rfl, hb5⟩
          have B5 := B4.step hb5
          have hg5 := hg4.below hb5 hg4.pos
          have hb05 := hb04.trans (hb5.mono hb04.size)
          have hrow5 := hrow.below hb5 (Nat.le_refl _)
          clear hb5 B4 hg4 hb04 hrow x0 x1 x2 x3 x4
          go_wp2_with fail
          refine (HP.out 200 w5 (by omega) hg5).mono ?_
          rintro x w6 ⟨hb6, hgd6, _⟩
          obtain ⟨A6, c6, rfl, hT6⟩ := hgd6 t HP200.out
          have hq6 := hb6.trans ((below_alloc w6 (.cells #[.int .i64 t.kind, .string t.name, .int .i64 t.n, .int .i64 t.place, .slice A6 t.parts.length c6] 25)).mono hb6.size)
          have B6 := B5.step hq6
          have C6 := Bt.new (c := c6) hT6
          have hg6 := hg5.below hq6 hg5.pos
          have hb06 := hb05.trans (hq6.mono hb05.size)
          have hrow6 := hrow5.below hq6 (Nat.le_refl _)
          clear hb6 hgd6 hT6 hq6 B5 hg5 hb05 hrow5
          unfold tv
          go_upto_region 9 with fail
          obtain ⟨g6, hgg6⟩ : ∃ g, g = w6.heap.size := ⟨_, rfl⟩
          obtain ⟨W6, hW6⟩ : ∃ W, W = w6.alloc (.cells #[.int .i64 t.kind, .string t.name, .int .i64 t.n, .int .i64 t.place, .slice A6 t.parts.length c6] 25) := ⟨_, rfl⟩
          rw [← hgg6, ← hW6] at C6 ⊢
          rw [← hW6] at B6 hg6 hb06 hrow6
          clear hgg6 hW6
          go_wp2_with fail
          refine (HP.out dt W6 (by omega) hg6).mono ?_
          rintro x w7 ⟨hb7, hgd7, _⟩
          obtain ⟨A7, c7, rfl, hT7⟩ := hgd7 t HPn.out
          have hq7 := hb7.trans ((below_alloc w7 (.cells #[.int .i64 t.kind, .string t.name, .int .i64 t.n, .int .i64 t.place, .slice A7 t.parts.length c7] 25)).mono hb7.size)
          have B7 := B6.step hq7
          have C7 := C6.step hq7
          have D7 := Bt.new (c := c7) hT7
          have hg7 := hg6.below hq7 hg6.pos
          have hb07 := hb06.trans (hq7.mono hb06.size)
          have hrow7 := hrow6.below hq7 (Nat.le_refl _)
          clear hb7 hgd7 hT7 hq7 B6 C6 hg6 hb06 hrow6
          unfold tv
          go_upto_region 10 with fail
          obtain ⟨g7, hgg7⟩ : ∃ g, g = w7.heap.size := ⟨_, rfl⟩
          obtain ⟨W7, hW7⟩ : ∃ W, W = w7.alloc (.cells #[.int .i64 t.kind, .string t.name, .int .i64 t.n, .int .i64 t.place, .slice A7 t.parts.length c7] 25) := ⟨_, rfl⟩
          rw [← hgg7, ← hW7] at D7 ⊢
          rw [← hW7] at B7 C7 hg7 hb07 hrow7
          clear hgg7 hW7
          obtain ⟨⟨x0, x1, x2, x3, x4⟩, _⟩ := B7.x.five
          go_wp2_with fail
          refine (HMY.out A c W7 B7.t).mono ?_
          rintro x w8 ⟨rfl, hb8⟩
          have B8 := B7.step hb8
          have C8 := C7.step hb8
          have D8 := D7.step hb8
          have hg8 := hg7.below hb8 hg7.pos
          have hb08 := hb07.trans (hb8.mono hb07.size)
          have hrow8 := hrow7.below hb8 (Nat.le_refl _)
          clear hb8 B7 C7 D7 hg7 hb07 hrow7 x0 x1 x2 x3 x4
          obtain ⟨⟨x0, x1, x2, x3, x4⟩, _⟩ := B8.x.five
          obtain ⟨⟨y0, y1, y2, y3, y4⟩, _⟩ := C8.x.five
          go_wp2_with fail
          refine (HON.out A A6 c c6 w8 B8.t C8.t).mono ?_
          rintro x w9 ⟨rfl, hb9⟩
          have B9 := B8.step hb9
          have D9 := D8.step hb9
          have hg9 := hg8.below hb9 hg8.pos
          have hb09 := hb08.trans (hb9.mono hb08.size)
          have hrow9 := hrow8.below hb9 (Nat.le_refl _)
          clear hb9 B8 C8 D8 hg8 hb08 hrow8 x0 x1 x2 x3 x4 y0 y1 y2 y3 y4
          obtain ⟨⟨x0, x1, x2, x3, x4⟩, _⟩ := B9.x.five
          obtain ⟨⟨y0, y1, y2, y3, y4⟩, _⟩ := D9.x.five
          go_wp2_with fail
          refine (HON.out A A7 c c7 w9 B9.t D9.t).mono ?_
          rintro x wa ⟨rfl, hba⟩
          have Ba := B9.step hba
          have hga := hg9.below hba hg9.pos
          have hb0a := hb09.trans (hba.mono hb09.size)
          have hrowa := hrow9.below hba (Nat.le_refl _)
          clear hba B9 D9 hg9 hb09 hrow9 x0 x1 x2 x3 x4 y0 y1 y2 y3 y4
          obtain ⟨⟨x0, x1, x2, x3, x4⟩, _⟩ := Ba.x.five
          go_wp2_with fail
          refine (HPL.out TA tc A c wa Ba.t hrowa).mono ?_
          rintro x wb ⟨rfl, hbb⟩
          have hgb := hga.below hbb hga.pos
          have hb0b := hb0a.trans (hbb.mono hb0a.size)
          clear hbb Ba hga hb0a hrowa x0 x1 x2 x3 x4
          by_cases h1 : (dt : Int) = 1
          · have h1' : ((dt : Int) == 1) = true := by simpa using h1
            go_wp2_with fail
            go_ret
            exact ⟨rfl, hb0b⟩
          · have h1' : ((dt : Int) == 1) = false := by simpa using h1
            go_wp2_with fail
            refine (HP.out ((dt : Int) - 1) wb (by omega) hgb).mono ?_
            rintro x wc ⟨hbc, _, hbdc⟩
            obtain rfl := hbdc 0 31 (HPm.out h1)
            go_wp2_with fail
            go_ret
            exact ⟨rfl, hb0b.trans ((hbc.mono hb0b.size).trans ((below_alloc wc _).mono (by have := hbc.size; have := hb0b.size; omega)))⟩
end Lx
end Go.Proofs.YtenkmfpojgbpoaaDoor
