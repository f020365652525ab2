/-
  Walk of the law ParseLayout.
-/
import Derived.Test.YtenkmfpojgbpoaaDoorK8
namespace Go.Proofs.YtenkmfpojgbpoaaDoor
open Go.RowKit
namespace Lx
set_option maxRecDepth 100000
theorem wideS_len (ts : List Tok) (h : ∀ t ∈ ts, t.text.length ≤ 18) : (wideS ts).length ≤ 23 * ts.length := by
  induction ts with
  | nil => simp [wideS]
  | cons a r ih =>
    have h1 := ih fun t ht => h t (List.mem_cons_of_mem _ ht)
    have h2 := h a (by simp)
    simp [wideS]; omega
theorem roundS_len (ts : List Tok) (h : ∀ t ∈ ts, t.text.length ≤ 18) : (roundS ts).length ≤ 23 * ts.length := by
  induction ts with
  | nil => simp [roundS]
  | cons a r ih =>
    have h1 := ih fun t ht => h t (List.mem_cons_of_mem _ ht)
    have h2 := h a (by simp)
    by_cases hk : a.kind = 3
    · simp [roundS, roundP, hk]; omega
    · simp [roundS, roundP, hk]; omega
theorem mk_len (a : ByteArray) : a.data.toList.length = a.size := by simp
theorem mk_eq {a : ByteArray} {l : List UInt8} (h : a.data.toList = l) : a = ⟨l.toArray⟩ := by
  obtain ⟨d⟩ := a
  have h1 : d.toList = l := h
  rw [← h1]
theorem app_list (a b : ByteArray) : (a ++ b).data.toList = a.data.toList ++ b.data.toList := by simp
set_option maxHeartbeats 8000000 in
theorem playout_any (s : ByteArray) (w : World) (hg : Signs w) : Calls Tryd.prog 6 #[.string s] w fun e w' => e = .returned (.bool true) ∧ Below w.heap.size w w' := by
  have hlen : s.data.toList.length = s.size := by simp
  go_enter Tryd.func6, Tryd.ntmps6
  go_wp2_with fail
  refine (fix3_any _ hg).mono ?_
  rintro e w1 ⟨rfl, hb1⟩
  have hg1 := hg.below hb1 hg.pos
  clear hg
  by_cases hs : 800 < s.size
  · have hs' : (800 : Int) < (s.size : Int) := by omega
    go_wp2_with fail
    refine (fix3_any _ hg1).mono ?_
    rintro e w2 ⟨rfl, hb2⟩
    go_wp2_with fail
    go_ret
    exact ⟨rfl, hb1.trans (hb2.mono hb1.size)⟩
  · have hs' : ¬ (800 : Int) < (s.size : Int) := by omega
    have hsz : s.size ≤ 800 := by omega
    have HP := Lib.hid (fun s W (h2 : s.size ≤ 19000) (hg : Signs W) => parse_text s 200 W (by omega) h2 hg)
    have HRA := Lib.hid (fun W => rall_any s W (by omega))
    go_wp2_with fail
    refine (HP.out s w1 (by omega) hg1).mono ?_
    rintro x w2 ⟨hb2, hgd2, hbd2⟩
    have hg2 := hg1.below hb2 hg1.pos
    have hb02 := hb1.trans (hb2.mono hb1.size)
    clear hg1 hb1 hb2
    cases hp : parseV s.data.toList 200 with
    | error pe =>
      obtain ⟨p, e⟩ := pe
      obtain rfl := hbd2 p e hp
      have he1 : ¬ e = 0 := parseV_codes hp
      have he0 : (e == 0) = false := by simpa using he1
      have he2 : (e != 0) = true := by simpa using he1
      have hb3 := hb02.alloc hb02.size (.cells #[.int .i64 0, .string ⟨#[]⟩, .int .i64 0, .int .i64 0, .slice none 0 0] 25)
      clear hgd2 hbd2 hp
      go_wp2_with fail
      refine (HRA.out _).mono ?_
      rintro y w4 ⟨hr1, hr2, hb4⟩
      cases hk : allK s.data.toList with
      | error px =>
        obtain ⟨p', x⟩ := px
        obtain rfl := hr2 p' x hk
        clear hr1 hr2 hk
        go_wp2_with fail
        go_ret
        exact ⟨rfl, hb3.trans (hb4.mono hb3.size)⟩
      | ok ts =>
        obtain ⟨TA, tc, rfl, _⟩ := hr1 ts hk
        clear hr1 hr2 hk
        go_wp2_with fail
        go_ret
        exact ⟨rfl, hb3.trans (hb4.mono hb3.size)⟩
    | ok t =>
      obtain ⟨A, c, rfl, hT⟩ := hgd2 t hp
      obtain ⟨_, _, ts, hk, hwq, _, _⟩ := parseV_ok hp
      obtain ⟨hGL, hln, _⟩ := allK_GL hk
      rw [hlen] at hln
      have hgd : ∀ u ∈ ts, u.text.length ≤ 18 := fun u hu => good_len (hGL u hu).1
      have HLF := Lib.hid (fun h1 h2 => layout_fact (by omega) hk hp h1 h2)
      have HRS := Lib.hid (fun u A A' c c' W (hu : sameT t u = true) (h1 : TIn W Any t A) (h2 : TIn W Any u A') => (show Calls Tryd.prog 17 #[tv t A c, tv u A' c'] W fun e w' => e = .returned (.bool true) ∧ Below W.heap.size W w' from by rw [← hu]; exact rsame_tree (depthT t) t u A A' c c' W (Nat.le_refl _) h1 h2))
      have HK := Lib.hid hk
      have B := Bt.new (c := c) hT
      have hb3 := below_alloc w2 (.cells #[.int .i64 t.kind, .string t.name, .int .i64 t.n, .int .i64 t.place, .slice A t.parts.length c] 25)
      have hb03 := hb02.trans (hb3.mono hb02.size)
      have hg3 := hg2.below hb3 hg2.pos
      clear hgd2 hbd2 hp hk hb3 hb02 hg2 hT hwq hGL
      unfold tv
      go_upto_region 4 with fail
      obtain ⟨g3, hg3'⟩ : ∃ g, g = w2.heap.size := ⟨_, rfl⟩
      obtain ⟨W3, hW3⟩ : ∃ W, W = w2.alloc (.cells #[.int .i64 t.kind, .string t.name, .int .i64 t.n, .int .i64 t.place, .slice A t.parts.length c] 25) := ⟨_, rfl⟩
      rw [← hg3', ← hW3] at B ⊢
      rw [← hW3] at hb03 hg3
      clear hg3' hW3
      go_wp2_with fail
      refine (HRA.out W3).mono ?_
      rintro x w4 ⟨hr1, _, hb4⟩
      obtain ⟨TA, tc, rfl, hrow⟩ := hr1 ts HK.out
      have B4 := B.step hb4
      have hg4 := hg3.below hb4 hg3.pos
      have hb04 := hb03.trans (hb4.mono hb03.size)
      clear hr1 hb4 B hg3 hb03
      obtain ⟨tn, htn⟩ : ∃ n, n = ts.length := ⟨_, rfl⟩
      rw [← htn]
      have ht1 : tn ≤ ts.length := by omega
      have ht2 : ts.length ≤ tn := by omega
      have ht3 : tn ≤ 800 := by omega
      clear htn
      go_wp2_with fail
      go_loopw [9, 10, 11] (fun a b x wr => ∃ (i : Nat) (va vb : ByteArray), i ≤ tn ∧ x = .int .i64 i ∧ a = .string va ∧ b = .string vb ∧ Hid (va.data.toList = wideS (ts.take i)) ∧ Hid (vb.data.toList = roundS (ts.take i)) ∧ w4 = wr) (fun _ _ x _ => tn - (intOf x).toNat)
      case atStart => exact ⟨0, ⟨#[]⟩, ⟨#[]⟩, by omega, rfl, rfl, rfl, by exact rfl, by exact rfl, rfl⟩
      case round =>
        obtain ⟨i, va, vb, hi, rfl, rfl, rfl, HA, HB, rfl⟩ := hrel
        by_cases hlt : i < tn
        · have hia : i < ts.length := by omega
          obtain ⟨g, o, hA, d0, d1, d2, d3⟩ := hrow.at_ hia
          have hsa : va.size ≤ 23 * i := by
            have h1 := wideS_len (ts.take i) (fun u hu => hgd u (List.take_subset _ _ hu))
            have h2 := mk_len va
            rw [HA.out] at h2
            rw [List.length_take] at h1
            omega
          have hsb : vb.size ≤ 23 * i := by
            have h1 := roundS_len (ts.take i) (fun u hu => hgd u (List.take_subset _ _ hu))
            have h2 := mk_len vb
            rw [HB.out] at h2
            rw [List.length_take] at h1
            omega
          have HS1 : Hid (wideS (ts.take (i + 1)) = wideS (ts.take i) ++ ([10, 9, 32] ++ (ts[i]'hia).text ++ [32, 32])) := by
            show _ = _
            rw [List.take_succ_eq_append_getElem hia, wideS_snoc]
          have HS2 : Hid (roundS (ts.take (i + 1)) = roundS (ts.take i) ++ roundP (ts[i]'hia)) := by
            show _ = _
            rw [List.take_succ_eq_append_getElem hia, roundS_snoc]
          have htl := hgd (ts[i]'hia) (List.getElem_mem hia)
          obtain ⟨tk, htk⟩ : ∃ tk, tk = ts[i]'hia := ⟨_, rfl⟩
          rw [← htk] at d0 d1 d2 d3 HS1 HS2 htl
          clear htk d2 d3
          obtain ⟨tb, htb⟩ : ∃ tb : ByteArray, tb = ⟨tk.text.toArray⟩ := ⟨_, rfl⟩
          have htbl : tb.data.toList = tk.text := by rw [htb]
          have htbs : tb.size ≤ 18 := by
            have h2 := mk_len tb
            rw [htbl] at h2
            omega
          rw [← htb] at d1
          have HTB := Lib.hid htbl
          clear htb htbl
          subst hA
          have hiI : (i : Int) < (tn : Int) := by omega
          by_cases hk : tk.kind = 3
          · have hk' : (tk.kind == 3) = true := by simpa using hk
            go_wp2_with fail
            go_roundw
            case rel =>
              refine ⟨i + 1, _, _, by omega, by go_num, rfl, rfl, ?_, ?_, trivial⟩
              · show _ = _
                rw [HS1.out, app_list, app_list, app_list, HA.out, HTB.out]
              · show _ = _
                rw [HS2.out, app_list, app_list, app_list, HB.out, HTB.out, roundP, if_pos hk]
            case measure => simp [intOf]; omega
          · have hk' : (tk.kind == 3) = false := by simpa using hk
            go_wp2_with fail
            go_roundw
            case rel =>
              refine ⟨i + 1, _, _, by omega, by go_num, rfl, rfl, ?_, ?_, trivial⟩
              · show _ = _
                rw [HS1.out, app_list, app_list, app_list, HA.out, HTB.out]
              · show _ = _
                rw [HS2.out, app_list, app_list, HB.out, HTB.out, roundP, if_neg hk]; rfl
            case measure => simp [intOf]; omega
        · obtain rfl : i = tn := by omega
          rw [List.take_of_length_le (by omega)] at HA HB
          have hsa : va.size ≤ 20000 := by
            have h1 := wideS_len ts hgd
            have h2 := mk_len va
            rw [HA.out] at h2
            omega
          have hsb : vb.size ≤ 20000 := by
            have h1 := roundS_len ts hgd
            have h2 := mk_len vb
            rw [HB.out] at h2
            omega
          by_cases hw1 : 4096 < va.size
          · have hw1' : (4096 : Int) < (va.size : Int) := by omega
            go_wp2_with fail
            go_ret
            exact ⟨rfl, hb04⟩
          · have hw1' : ¬ (4096 : Int) < (va.size : Int) := by omega
            by_cases hw2 : 4096 < vb.size
            · have hw2' : (4096 : Int) < (vb.size : Int) := by omega
              go_wp2_with fail
              go_ret
              exact ⟨rfl, hb04⟩
            · have hw2' : ¬ (4096 : Int) < (vb.size : Int) := by omega
              obtain ⟨⟨t1, p1, s1⟩, ⟨t2, p2, s2⟩⟩ := HLF.out (by rw [← HA.out, mk_len]; omega) (by rw [← HB.out, mk_len]; omega)
              rw [← HA.out] at p1
              rw [← HB.out] at p2
              have P1 := Lib.hid p1
              have P2 := Lib.hid p2
              clear p1 p2 HA HB
              go_wp2_with fail
              refine (HP.out va w4 (by omega) hg4).mono ?_
              rintro x w6 ⟨hb6, hgd6, _⟩
              obtain ⟨A6, c6, rfl, hT6⟩ := hgd6 t1 P1.out
              have hq6 := hb6.trans ((below_alloc w6 (.cells #[.int .i64 t1.kind, .string t1.name, .int .i64 t1.n, .int .i64 t1.place, .slice A6 t1.parts.length c6] 25)).mono hb6.size)
              have B6 := B4.step hq6
              have C6 := Bt.new (c := c6) hT6
              have hg6 := hg4.below hq6 hg4.pos
              have hb06 := hb04.trans (hq6.mono hb04.size)
              clear hb6 hgd6 hT6 hq6 B4 hg4 hb04
              unfold tv
              go_upto_region 18 with fail
              obtain ⟨g6, hgg6⟩ : ∃ g, g = w6.heap.size := ⟨_, rfl⟩
              obtain ⟨W6, hW6⟩ : ∃ W, W = w6.alloc (.cells #[.int .i64 t1.kind, .string t1.name, .int .i64 t1.n, .int .i64 t1.place, .slice A6 t1.parts.length c6] 25) := ⟨_, rfl⟩
              rw [← hgg6, ← hW6] at C6 ⊢
              rw [← hW6] at B6 hg6 hb06
              clear hgg6 hW6
              go_wp2_with fail
              refine (HP.out vb W6 (by omega) hg6).mono ?_
              rintro x w7 ⟨hb7, hgd7, _⟩
              obtain ⟨A7, c7, rfl, hT7⟩ := hgd7 t2 P2.out
              have hq7 := hb7.trans ((below_alloc w7 (.cells #[.int .i64 t2.kind, .string t2.name, .int .i64 t2.n, .int .i64 t2.place, .slice A7 t2.parts.length c7] 25)).mono hb7.size)
              have B7 := B6.step hq7
              have C7 := C6.step hq7
              have D7 := Bt.new (c := c7) hT7
              have hb07 := hb06.trans (hq7.mono hb06.size)
              clear hb7 hgd7 hT7 hq7 B6 C6 hg6 hb06
              unfold tv
              go_upto_region 19 with fail
              obtain ⟨g7, hgg7⟩ : ∃ g, g = w7.heap.size := ⟨_, rfl⟩
              obtain ⟨W7, hW7⟩ : ∃ W, W = w7.alloc (.cells #[.int .i64 t2.kind, .string t2.name, .int .i64 t2.n, .int .i64 t2.place, .slice A7 t2.parts.length c7] 25) := ⟨_, rfl⟩
              rw [← hgg7, ← hW7] at D7 ⊢
              rw [← hW7] at B7 C7 hb07
              clear hgg7 hW7
              obtain ⟨⟨x0, x1, x2, x3, x4⟩, _⟩ := B7.x.five
              obtain ⟨⟨y0, y1, y2, y3, y4⟩, _⟩ := C7.x.five
              go_wp2_with fail
              refine (HRS.out t1 A A6 c c6 W7 s1 B7.t C7.t).mono ?_
              rintro x w9 ⟨rfl, hb9⟩
              have B9 := B7.step hb9
              have D9 := D7.step hb9
              have hb09 := hb07.trans (hb9.mono hb07.size)
              clear hb9 B7 C7 D7 hb07 x0 x1 x2 x3 x4 y0 y1 y2 y3 y4
              obtain ⟨⟨x0, x1, x2, x3, x4⟩, _⟩ := B9.x.five
              obtain ⟨⟨y0, y1, y2, y3, y4⟩, _⟩ := D9.x.five
              go_wp2_with fail
              refine (HRS.out t2 A A7 c c7 w9 s2 B9.t D9.t).mono ?_
              rintro x wa ⟨rfl, hba⟩
              have hb0a := hb09.trans (hba.mono hb09.size)
              clear hba B9 D9 hb09 x0 x1 x2 x3 x4 y0 y1 y2 y3 y4
              go_wp2_with fail
              go_ret
              exact ⟨rfl, hb0a⟩
end Lx
end Go.Proofs.YtenkmfpojgbpoaaDoor
