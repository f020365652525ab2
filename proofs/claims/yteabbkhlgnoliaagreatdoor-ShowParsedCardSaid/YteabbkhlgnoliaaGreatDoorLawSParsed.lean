/-
  Walk of the law ShowParsed.
-/
import Derived.Test.YteabbkhlgnoliaaGreatDoorKW
import Derived.Test.YteabbkhlgnoliaaGreatDoorKX
import Derived.Test.YteabbkhlgnoliaaGreatDoorK9
import Derived.Test.YteabbkhlgnoliaaGreatDoorKP
namespace Go.Proofs.YteabbkhlgnoliaaGreatDoor
open Go.RowKit Go.Sort
namespace Lx
set_option maxRecDepth 100000
mutual
theorem size_sm : ∀ t t' : Tr, sameT t t' = true → sizeT t = sizeT t'
  | .node k s n a l, .node k' s' n' a' l', h => by
    rw [sameT] at h
    simp only [Bool.and_eq_true] at h
    rw [sizeT, sizeT, size_smL l l' h.2.2.2]
theorem size_smL : ∀ l l' : List Tr, sameL l l' = true → sizeL l = sizeL l'
  | [], [], _ => rfl
  | [], _ :: _, h => by simp [sameL] at h
  | _ :: _, [], h => by simp [sameL] at h
  | t :: r, t' :: r', h => by
    rw [sameL, Bool.and_eq_true] at h
    rw [sizeL, sizeL, size_sm t t' h.1, size_smL r r' h.2]
end
theorem str_of3 (T : List UInt8) : ∃ S : ByteArray, S.data.toList = T ∧ S.size = T.length ∧ ByteArray.mk T.toArray = S := ⟨_, by simp, by show T.toArray.size = _; simp, rfl⟩
/-- What the reference reads of a tree's text may be. -/
theorem parseG_may {s : List UInt8} {deep : Int} {t v : Tr} (h : parseG s deep = .ok v) (hs : sameT t v = true) (hm : mayV t = true) : mayV v = true := by
  obtain ⟨_, _, l, j, hl, hg, _, _⟩ := parseG_inv h
  obtain ⟨_, _, hpl⟩ := allK_GL hl
  have hp : ∀ i, 0 ≤ plAt l i := fun i => by
    unfold plAt
    cases hi : l[i]? with
    | none => exact Int.le_refl _
    | some x => exact (hpl x (List.mem_of_getElem? hi)).1
  have h0 := (p0_all hp (8 * l.length + 8)).expr 0 v j hg
  unfold mayV at hm ⊢
  rw [Bool.and_eq_true] at hm ⊢
  refine ⟨?_, may_moved t v hs hm.2 h0⟩
  have hk := (show_same t v hs).2.2
  rw [← hk]
  exact hm.1
set_option maxHeartbeats 4000000 in
/-- A text that is too long is refused at once. -/
theorem gparse_big (s : ByteArray) (w : World) (hs : 4096 < s.size) :
    Calls Tryz.prog 14 #[.string s, .int .i64 200] w fun x w' => Below w.heap.size w w' ∧ x = .returned (.tuple #[.agg #[.int .i64 0, .string ⟨#[]⟩, .int .i64 0, .int .i64 0, .slice none 0 0], .int .i64 0, .int .i64 32]) := by
  have hs2 : (4096 : Int) < (s.size : Int) := by omega
  have hb0 : Below w.heap.size w (w.alloc (.cells #[.int .i64 0, .string ⟨#[]⟩, .int .i64 0, .int .i64 0, .slice none 0 0] 24)) := (Below.refl _ w).alloc (Nat.le_refl _) _
  have hL := Lies.new w 24 #[.int .i64 0, .string ⟨#[]⟩, .int .i64 0, .int .i64 0, .slice none 0 0]
  go_enter Tryz.func14, Tryz.ntmps14
  go_wp2_with fail
  refine bodyPost_ret (resP Tryz.results14 (b0 := w.heap.size) (x := .int .i64 0) (y := .int .i64 32) (a := .int .i64 0) (b := .string ⟨#[]⟩) (c := .int .i64 0) (d := .int .i64 0) (e := .slice none 0 0) (by simp) (by simp) (by simp) hL) rfl ?_
  exact ⟨hb0, rfl⟩
set_option maxHeartbeats 8000000 in
theorem sparsed_any (s : ByteArray) (w : World) (hg : Tabs w) : Calls Tryz.prog 4 #[.string s] w fun e w' => e = .returned (.bool true) ∧ Below w.heap.size w w' := by
  have hlen : s.data.toList.length = s.size := by simp
  have HP := Lib.hid (fun W (h2 : s.size ≤ 19000) (hg : Signs W) => parse_text s 200 W (by omega) h2 hg)
  go_enter Tryz.func4, Tryz.ntmps4
  go_wp2_with fail
  refine (fix4_any _ hg).mono ?_
  rintro e w1 ⟨rfl, hb1⟩
  have hg1 := hg.below hb1
  clear hg
  by_cases hs : 1000 < s.size
  · have hs' : (1000 : Int) < (s.size : Int) := by omega
    go_wp2_with fail
    refine (fix4_any _ hg1).mono ?_
    rintro e w2 ⟨rfl, hb2⟩
    go_wp2_with fail
    go_ret
    exact ⟨rfl, hb1.trans (hb2.mono hb1.size)⟩
  · have hs' : ¬ (1000 : Int) < (s.size : Int) := by omega
    have hsz : s.size ≤ 1000 := by omega
    go_wp2_with fail
    refine (HP.out w1 (by omega) hg1.sg).mono ?_
    intro x w2 hQ
    have hb2 := hQ.mv
    cases hp : parseV s.data.toList 200 with
    | error pe =>
      obtain ⟨p, g⟩ := pe
      have hx := hQ.bad p g hp
      subst hx
      have hne := parseV_code0 hp
      have h1 : (g == 0) = false := by simpa using hne
      have h2 : (g != 0) = true := by simpa using hne
      have hbz := (hb1.trans (hb2.mono hb1.size)).alloc (hb1.trans (hb2.mono hb1.size)).size (.cells #[.int .i64 0, .string ⟨#[]⟩, .int .i64 0, .int .i64 0, .slice none 0 0] 24)
      clear hQ hne hp HP
      go_wp2_with fail
      go_ret
      exact ⟨rfl, hbz⟩
    | ok t =>
      obtain ⟨A, c, rfl, hT⟩ := hQ.good t hp
      obtain ⟨hm, hl6, htx, hne⟩ := ok_may hp
      have hpo := fun h => parsed_ok (by omega) hp h
      have hb12 := hb1.trans (hb2.mono hb1.size)
      have hg2 := hg1.below hb2
      have hT1 := TIn.any _ hT
      have HTX := Lib.hid (fun W (h : TIn W Any t A) (hg : Tabs W) => stext_any t A c W h hg.sg hg.pw hl6)
      rw [htx] at HTX
      have HRS := Lib.hid (fun (v : Tr) A' c' W (hv : sameT t v = true) (h1 : TIn W Any t A) (h2 : TIn W Any v A') => (show Calls Tryz.prog 15 #[tv t A c, tv v A' c'] W fun e w' => e = .returned (.bool true) ∧ Below W.heap.size W w' from by rw [← hv]; exact rsame_tree (depthT t) t v A A' c c' W (Nat.le_refl _) h1 h2))
      have hszt : sizeT t ≤ 100000 := by
        obtain ⟨_, _, ts, hk, hw, hd, hi⟩ := parseV_ok hp
        have h2 := hi.sz
        have h3 := (allK_GL hk).2.1
        omega
      have hmv := fun v (h1 : parseG (showT t) 200 = .ok v) (h2 : sameT t v = true) => parseG_may h1 h2 hm
      clear hQ hT hp HP hm htx hne
      obtain ⟨S, eS2, eS3, hS⟩ := str_of3 (showT t)
      have HPO : Hid (S.size ≤ 4096 → ∃ v, parseG S.data.toList 200 = .ok v ∧ sameT t v = true ∧ sizeT v ≤ 100000 ∧ ∀ W A' c', TIn W Any v A' → Tabs W → Calls Tryz.prog 11 #[tv v A' c'] W fun e W' => e = .returned (.string S) ∧ Below W.heap.size W W') := Lib.hid fun h => by
        obtain ⟨v, h1, h2⟩ := hpo (by rw [← eS3]; exact h)
        have h3 := (show_same _ v h2).1
        have h4 := hmv v h1 h2
        have h5 : textT v = showT v := by unfold textT; rw [h4]; rfl
        refine ⟨v, by rw [eS2]; exact h1, h2, by rw [← size_sm _ _ h2]; exact hszt, fun W A' c' hW hgW => ?_⟩
        have h6 := stext_any v A' c' W hW hgW.sg hgW.pw (by rw [← h3]; exact hl6)
        rw [h5, ← h3, hS] at h6
        exact h6
      rw [hS] at HTX
      clear hpo hmv hl6 hszt hS eS2 eS3
      obtain ⟨tk, ts, tn, ta, tl⟩ := t
      simp only [tv, Tr.kind, Tr.name, Tr.n, Tr.place, Tr.parts] at HTX HRS HPO ⊢
      have hb3 := below_alloc1 w2 (.cells #[.int .i64 tk, .string ts, .int .i64 tn, .int .i64 ta, .slice A tl.length (capF tl.length c)] 24)
      have hL3 := Lies.new w2 24 #[.int .i64 tk, .string ts, .int .i64 tn, .int .i64 ta, .slice A tl.length (capF tl.length c)]
      have hT3 := TIn.below _ hT1 hb3 (Nat.le_refl _)
      have hg3 := hg2.below hb3
      have hb13 := hb12.trans (hb3.mono hb12.size)
      have HT3 := Lib.hid (HTX.out _ hT3 hg3)
      clear hb3 hb2 hb1 hb12 hg1 hg2 HTX hT1
      go_wp2_with fail
      refine HT3.out.mono ?_
      rintro e w4 ⟨rfl, hb4⟩
      have hL4 := hL3.below hb4 hL3.lt
      have hT4 := TIn.below _ hT3 hb4 (Nat.le_refl _)
      have hg4 := hg3.below hb4
      have hb14 := hb13.trans (hb4.mono hb13.size)
      clear hL3 hT3 hg3 hb13 HT3 hb4
      by_cases hS4 : 4096 < S.size
      · have hS5 : (4096 : Int) < (S.size : Int) := by omega
        have HB := Lib.hid (gparse_big S w4 hS4)
        go_wp2_with fail
        refine HB.out.mono ?_
        rintro x w5 ⟨hb5, rfl⟩
        have hbz := (hb14.trans (hb5.mono hb14.size)).alloc (hb14.trans (hb5.mono hb14.size)).size (.cells #[.int .i64 0, .string ⟨#[]⟩, .int .i64 0, .int .i64 0, .slice none 0 0] 24)
        go_wp2_with fail
        go_ret
        exact ⟨rfl, hbz⟩
      · have hS5 : ¬ (4096 : Int) < (S.size : Int) := by omega
        obtain ⟨v, hv1, hv2, hv3, hv4⟩ := HPO.out (by omega)
        have HB := Lib.hid (gparse_ok S 200 v w4 hv1 hv3)
        have HV := Lib.hid hv4
        have HR := Lib.hid (fun A' c' W => HRS.out v A' c' W hv2)
        clear hv1 hv2 hv3 hv4 HPO HRS
        go_wp2_with fail
        refine HB.out.mono ?_
        rintro x w5 ⟨hb5, A5, c5, rfl, hT5⟩
        have hL5 := hL4.below hb5 hL4.lt
        have hTt5 := TIn.below _ hT4 hb5 (Nat.le_refl _)
        have hg5 := hg4.below hb5
        have hb15 := hb14.trans (hb5.mono hb14.size)
        obtain ⟨vk, vs, vn, va, vl⟩ := v
        simp only [tv, Tr.kind, Tr.name, Tr.n, Tr.place, Tr.parts] at HV HR ⊢
        obtain ⟨O5, hO5⟩ : ∃ O, O = Obj.cells #[.int .i64 vk, .string vs, .int .i64 vn, .int .i64 va, .slice A5 vl.length (capF vl.length c5)] 24 := ⟨_, rfl⟩
        have hb6 := below_alloc1 w5 O5
        have hL6 := hL5.old O5
        have hM6 : Lies (w5.alloc O5) w5.heap.size 24 #[.int .i64 vk, .string vs, .int .i64 vn, .int .i64 va, .slice A5 vl.length (capF vl.length c5)] := by rw [hO5]; exact Lies.new _ _ _
        have hTt6 := TIn.below _ hTt5 hb6 (Nat.le_refl _)
        have hTv6 := TIn.below _ (TIn.any _ hT5) hb6 (Nat.le_refl _)
        have hg6 := hg5.below hb6
        have hb16 := hb15.trans (hb6.mono hb15.size)
        obtain ⟨⟨x0, x1, x2, x3, x4⟩, _⟩ := hL6.five
        have HS6 := Lib.hid (HR.out A5 c5 _ hTt6 hTv6)
        rw [hO5] at x0 x1 x2 x3 x4
        clear hL4 hT4 hg4 hb14 hL5 hTt5 hg5 hb15 hT5 hb5
        go_wp2_with fail
        rw [← hO5]
        refine HS6.out.mono ?_
        rintro e w7 ⟨rfl, hb7⟩
        have hM7 := hM6.below hb7 hM6.lt
        have hg7 := hg6.below hb7
        have hTv7 := TIn.below _ hTv6 hb7 (Nat.le_refl _)
        have hb17 := hb16.trans (hb7.mono hb16.size)
        obtain ⟨⟨y0, y1, y2, y3, y4⟩, _⟩ := hM7.five
        have HT7 := Lib.hid (HV.out w7 A5 c5 hTv7 hg7)
        clear x0 x1 x2 x3 x4 hM6 hg6 hTv6 hb16 hb7 HS6 hO5 hb6 hL6 hTt6
        go_wp2_with fail
        refine HT7.out.mono ?_
        rintro e w8 ⟨rfl, hb8⟩
        go_wp2_with fail
        go_ret
        exact ⟨rfl, hb17.trans (hb8.mono hb17.size)⟩
end Lx
end Go.Proofs.YteabbkhlgnoliaaGreatDoor
