/-
  Texts that lie one behind the other: GLet.
-/
import Derived.Test.YtobdoahdjbmflaaGreatDoorC17
import Derived.Test.YtobdoahdjbmflaaGreatDoorC14
namespace Go.Proofs.YtobdoahdjbmflaaGreatDoor
open Go.RowKit
namespace Lx
set_option maxRecDepth 100000
theorem bytes_of {K : ByteArray} {l : List UInt8} (h : K.toList = l) : K = ⟨l.toArray⟩ := by
  obtain ⟨⟨d⟩⟩ := K
  rw [ByteArray.toList_mk] at h
  rw [← h]
set_option maxHeartbeats 16000000 in
theorem glet_any {l : List Tok} {A : Option Addr} {n c f : Nat} (T : GTok l n) (HX0 : GC 37 l A n c 7 gExpr f) :
    GC 60 l A n c 6 gLet (f + 1) := by
  intro i x w hx hi hf hR
  subst hx
  have h6 := T.few
  have hb0 := below_seven (w := w)
  have hR1 := hR.at_new hb0
  have hL := Lies.new w 68 zero7
  have HK := Lib.hid (gkind_at l A n c (i + 1) ((i : Int) + 1) (w.alloc (.cells zero7 68)) (by simp) T.len (by omega) h6 hR1)
  have HX := Lib.hid (gtext_at l A n c (i + 2) ((i : Int) + 2) (w.alloc (.cells zero7 68)) (by simp) T.len (by omega) h6 hR1)
  by_cases hk : kAt l (i + 1) = 1
  · by_cases hx : xAt l (i + 2) = [61]
    · have hlt : i + 2 < n := by rw [T.len]; exact xAt_lt hx (by simp)
      have HC := Lib.hid (HX0 (i + 3) ((i : Int) + 3) (w.alloc (.cells zero7 68)) (by simp) (by omega) (by omega) hR1)
      have HE : Hid (∀ r, gExpr f l (i + 3) = r → gLet (f + 1) l i = (match r with | .error j => .error j | .ok (a, j) => if xAt l j ≠ inS then .error j else match gExpr f l (j + 1) with | .error j2 => .error j2 | .ok (b, j2) => .ok (.node (if nmAt l i = ⟨letrecS.toArray⟩ then 5 else 4) (nmAt l (i + 1)) 0 (plAt l i) [a, b], j2))) := by
        refine Lib.hid fun r hr => ?_
        rw [gLet, if_neg (fun h => h hk), if_neg (fun h => h hx), hr]
        rcases r with j | ⟨a, j⟩
        · rfl
        · by_cases hin : xAt l j ≠ inS
          · simp [hin]
          · simp only [hin, if_false]
            all_goals (cases gExpr f l (j + 1) <;> rfl)
      rw [hk] at HK
      rw [hx] at HX
      clear hk hx
      go_enter Tryz.func60, Tryz.ntmps60
      go_wp2_with fail
      refine HK.out.mono ?_
      rintro e w' ⟨rfl, rfl⟩
      go_wp2_with fail
      refine HX.out.mono ?_
      rintro e w' ⟨rfl, rfl⟩
      go_wp2_with fail
      refine HC.out.mono ?_
      intro e V hG
      have hb := hb0.trans (hG.1.mono hb0.size)
      have L := hL.below hG.1 (by simp)
      have hsz := hG.1.size
      rcases hG.split with ⟨j, hr, rfl⟩ | ⟨t, j, A2, c2, hr, rfl, hT⟩
      · replace HE := HE.out _ hr
        have L9 := L.old (.cells #[.int .i64 0, .string ⟨#[]⟩, .int .i64 0, .int .i64 0, .slice none 0 0, .int .i64 j, .bool false] 68)
        have q9 := L9.seven
        have hb9 := hb.alloc hb.size (.cells #[.int .i64 0, .string ⟨#[]⟩, .int .i64 0, .int .i64 0, .slice none 0 0, .int .i64 j, .bool false] 68)
        go_wp2_with fail
        exact bodyPost_ret (res_got (p := 4) Tryz.results60 rfl (Lies.all7 L9 _ _ _ _ _ _ _)) rfl (gpost_err HE hb9)
      · replace HE := HE.out _ hr
        have hpr := (prog_all f).expr l (i + 3) t j hr
        obtain ⟨tk, ts, tn, ta, tl⟩ := t
        simp only [Tr.kind, Tr.name, Tr.n, Tr.place, Tr.parts]
        have hbA := hb.alloc hb.size (.cells #[.int .i64 tk, .string ts, .int .i64 tn, .int .i64 ta, .slice A2 tl.length (capF tl.length c2), .int .i64 j, .bool true] 68)
        have L7 := L.old (.cells #[.int .i64 tk, .string ts, .int .i64 tn, .int .i64 ta, .slice A2 tl.length (capF tl.length c2), .int .i64 j, .bool true] 68)
        have LT := Lies.new V 68 #[.int .i64 tk, .string ts, .int .i64 tn, .int .i64 ta, .slice A2 tl.length (capF tl.length c2), .int .i64 j, .bool true]
        have hT7 := TIn.below _ (TIn.wide _ (Y := fun g => w.heap.size + 1 ≤ g) hT (fun g hg _ => by simpa using hg)) ((Below.refl _ V).alloc (Nat.le_refl _) (.cells #[.int .i64 tk, .string ts, .int .i64 tn, .int .i64 ta, .slice A2 tl.length (capF tl.length c2), .int .i64 j, .bool true] 68)) (Nat.le_refl _)
        have hRA := hR.below hbA (Nat.le_refl _)
        have HX2 := Lib.hid (gtext_at l A n c j (j : Int) (V.alloc (.cells #[.int .i64 tk, .string ts, .int .i64 tn, .int .i64 ta, .slice A2 tl.length (capF tl.length c2), .int .i64 j, .bool true] 68)) rfl T.len (by have := T.len; omega) h6 hRA)
        have HN := Lib.hid (gno_j j j (V.alloc (.cells #[.int .i64 tk, .string ts, .int .i64 tn, .int .i64 ta, .slice A2 tl.length (capF tl.length c2), .int .i64 j, .bool true] 68)) rfl)
        obtain ⟨b5, hb5'⟩ : ∃ b5, b5 = V.heap.size := ⟨_, rfl⟩
        rw [← hb5'] at LT
        by_cases hin : xAt l j = [105, 110]
        · have hjn : j < n := by rw [T.len]; exact xAt_lt hin (by simp)
          have HC2 := Lib.hid (HX0 (j + 1) ((j : Int) + 1) (V.alloc (.cells #[.int .i64 tk, .string ts, .int .i64 tn, .int .i64 ta, .slice A2 tl.length (capF tl.length c2), .int .i64 j, .bool true] 68)) (by simp) (by omega) (by omega) hRA)
          simp only [ne_eq, show (inS : List UInt8) = [105, 110] from rfl, hin, not_true_eq_false, if_false] at HE
          rw [hin] at HX2
          replace HE := Lib.hid HE
          clear hin
          obtain ⟨q0, q1, q2, q3, q4, q5, q6⟩ := LT.seven.1
          rw [hb5'] at q0 q1 q2 q3 q4 q5 q6
          go_wp2_with fail
          refine HX2.out.mono ?_
          rintro e w' ⟨rfl, rfl⟩
          go_wp2_with fail
          rw [← hb5']
          refine HC2.out.mono ?_
          obtain ⟨VA, hVA⟩ : ∃ VA, VA = V.alloc (.cells #[.int .i64 tk, .string ts, .int .i64 tn, .int .i64 ta, .slice A2 tl.length (capF tl.length c2), .int .i64 j, .bool true] 68) := ⟨_, rfl⟩
          rw [← hVA] at LT L7 hbA hT7 hRA HC2 q0 q1 q2 q3 q4 q5 q6 ⊢
          have hVs : w.heap.size + 1 ≤ VA.heap.size := by have := L7.lt; omega
          clear hVA HX2 HN HK HX q0 q1 q2 q3 q4 q5 q6 hT hb5' hsz
          intro e V2 hG2
          rcases hG2.split with ⟨j2, hr2, rfl⟩ | ⟨u, j2, A3, c3, hr2, rfl, hT2⟩
          · replace HE := HE.out
            rw [hr2] at HE
            have L9 := (L7.below hG2.1 L7.lt).old (.cells #[.int .i64 0, .string ⟨#[]⟩, .int .i64 0, .int .i64 0, .slice none 0 0, .int .i64 j2, .bool false] 68)
            have q9 := L9.seven
            have hb9 := hbA.trans (hG2.1.mono hbA.size)
            have hb9 := hb9.alloc hb9.size (.cells #[.int .i64 0, .string ⟨#[]⟩, .int .i64 0, .int .i64 0, .slice none 0 0, .int .i64 j2, .bool false] 68)
            go_wp2_with fail
            exact bodyPost_ret (res_got (p := 4) Tryz.results60 rfl (Lies.all7 L9 _ _ _ _ _ _ _)) rfl (gpost_err HE hb9)
          · have HE2 := HE.out
            clear HE
            rw [hr2] at HE2
            have hpr2 := (prog_all f).expr l (j + 1) u j2 hr2
            obtain ⟨uk, us, un, ua, ul⟩ := u
            simp only [Tr.kind, Tr.name, Tr.n, Tr.place, Tr.parts]
            simp only [show letrecS = [108, 101, 116, 114, 101, 99] from rfl] at HE2
            have hg9 := hR.get (i := i) (by rw [← T.len]; omega)
            have hbb := hbA.trans (hG2.1.mono hbA.size)
            have hb1 := hbb.alloc hbb.size (.cells #[.int .i64 uk, .string us, .int .i64 un, .int .i64 ua, .slice A3 ul.length (capF ul.length c3), .int .i64 j2, .bool true] 68)
            have hR8 := hR.below hb1 (Nat.le_refl _)
            have L8 := (L7.below hG2.1 L7.lt).old (.cells #[.int .i64 uk, .string us, .int .i64 un, .int .i64 ua, .slice A3 ul.length (capF ul.length c3), .int .i64 j2, .bool true] 68)
            have LT5 := (LT.below hG2.1 LT.lt).old (.cells #[.int .i64 uk, .string us, .int .i64 un, .int .i64 ua, .slice A3 ul.length (capF ul.length c3), .int .i64 j2, .bool true] 68)
            have LT6 := Lies.new V2 68 #[.int .i64 uk, .string us, .int .i64 un, .int .i64 ua, .slice A3 ul.length (capF ul.length c3), .int .i64 j2, .bool true]
            have hT1 := TIn.below _ (TIn.below _ hT7 hG2.1 (Nat.le_refl _)) ((Below.refl _ V2).alloc (Nat.le_refl _) (.cells #[.int .i64 uk, .string us, .int .i64 un, .int .i64 ua, .slice A3 ul.length (capF ul.length c3), .int .i64 j2, .bool true] 68)) (Nat.le_refl _)
            have hszA := hbA.size
            have hT2 := TIn.below _ (TIn.wide _ (Y := fun g => w.heap.size + 1 ≤ g) hT2 (fun g hg _ => by have h9 : VA.heap.size ≤ g := hg; have := hbA.size; have := L7.lt; omega)) ((Below.refl _ V2).alloc (Nat.le_refl _) (.cells #[.int .i64 uk, .string us, .int .i64 un, .int .i64 ua, .slice A3 ul.length (capF ul.length c3), .int .i64 j2, .bool true] 68)) (Nat.le_refl _)
            obtain ⟨g, o, rfl, -, c1, -, -⟩ := hR8.get (i := i + 1) (by rw [← T.len]; omega)
            obtain ⟨g2, o2, hA2, -, c5, -, c3'⟩ := hR8.get (i := i) (by rw [← T.len]; omega)
            cases hA2
            obtain ⟨NM, hNM⟩ : ∃ NM, NM = nmAt l (i + 1) := ⟨_, rfl⟩
            obtain ⟨KW, hKW⟩ : ∃ KW, KW = nmAt l i := ⟨_, rfl⟩
            obtain ⟨PL, hPL⟩ : ∃ PL, PL = plAt l i := ⟨_, rfl⟩
            have hNMs : NM.size ≤ 140737488351232 := by rw [hNM]; exact T.small _
            rw [← hNM] at c1 HE2
            rw [← hKW] at c5 HE2
            rw [← hPL] at c3' HE2
            have hlt' : i < n := by omega
            have hlt2 : i + 1 < n := by omega
            clear hNM hPL hKW hR8 hR hR1 HC HC2 hL T
            obtain ⟨b6, hb6'⟩ : ∃ b6, b6 = V2.heap.size := ⟨_, rfl⟩
            rw [← hb6'] at LT6
            go_upto_region 13 with fail
            rw [← hb6']
            generalize V2.alloc (.cells #[.int .i64 uk, .string us, .int .i64 un, .int .i64 ua, .slice A3 ul.length (capF ul.length c3), .int .i64 j2, .bool true] 68) = V8 at LT5 LT6 L8 hb1 hT1 hT2 c1 c3' c5 ⊢
            have HS : Hid (∀ V', Below V8.heap.size V8 V' → (fun V' : World => (V'.cell? ⟨g, o + (i + 1) * 4 + 1, none⟩ = some (.string NM) ∧ V'.cell? ⟨g, o + i * 4 + 3, none⟩ = some (.int .i64 PL) ∧ V'.cell? ⟨g, o + i * 4 + 1, none⟩ = some (.string KW) ∧ V'.cell? ⟨b5, 0, none⟩ = some (.int .i64 tk) ∧ V'.cell? ⟨b5, 1, none⟩ = some (.string ts) ∧ V'.cell? ⟨b5, 2, none⟩ = some (.int .i64 tn) ∧ V'.cell? ⟨b5, 3, none⟩ = some (.int .i64 ta) ∧ V'.cell? ⟨b5, 4, none⟩ = some (.slice A2 tl.length (capF tl.length c2)) ∧ V'.cell? ⟨b5, 5, none⟩ = some (.int .i64 j) ∧ V'.cell? ⟨b6, 0, none⟩ = some (.int .i64 uk) ∧ V'.cell? ⟨b6, 1, none⟩ = some (.string us) ∧ V'.cell? ⟨b6, 2, none⟩ = some (.int .i64 un) ∧ V'.cell? ⟨b6, 3, none⟩ = some (.int .i64 ua) ∧ V'.cell? ⟨b6, 4, none⟩ = some (.slice A3 ul.length (capF ul.length c3)) ∧ V'.cell? ⟨b6, 5, none⟩ = some (.int .i64 j2))) V') := Lib.hid fun V' h =>
              ⟨(h.cell (p := ⟨g, _, none⟩) (cell_lt c1)).trans c1, (h.cell (p := ⟨g, _, none⟩) (cell_lt c3')).trans c3', (h.cell (p := ⟨g, _, none⟩) (cell_lt c5)).trans c5, (h.cell (p := ⟨b5, 0, none⟩) LT5.lt).trans (LT5.cell 0), (h.cell (p := ⟨b5, 1, none⟩) LT5.lt).trans (LT5.cell 1), (h.cell (p := ⟨b5, 2, none⟩) LT5.lt).trans (LT5.cell 2), (h.cell (p := ⟨b5, 3, none⟩) LT5.lt).trans (LT5.cell 3), (h.cell (p := ⟨b5, 4, none⟩) LT5.lt).trans (LT5.cell 4), (h.cell (p := ⟨b5, 5, none⟩) LT5.lt).trans (LT5.cell 5), (h.cell (p := ⟨b6, 0, none⟩) LT6.lt).trans (LT6.cell 0), (h.cell (p := ⟨b6, 1, none⟩) LT6.lt).trans (LT6.cell 1), (h.cell (p := ⟨b6, 2, none⟩) LT6.lt).trans (LT6.cell 2), (h.cell (p := ⟨b6, 3, none⟩) LT6.lt).trans (LT6.cell 3), (h.cell (p := ⟨b6, 4, none⟩) LT6.lt).trans (LT6.cell 4), (h.cell (p := ⟨b6, 5, none⟩) LT6.lt).trans (LT6.cell 5)⟩
            have hS0 := HS.out _ (Below.refl _ V8)
            have HL8 := Lib.hid L8
            have HT1 := Lib.hid hT1
            have HT2 := Lib.hid hT2
            have HE3 := Lib.hid HE2
            have HB1 := Lib.hid hb1
            have h8 := hb1.size
            have h9 := L8.lt
            clear c1 c3' c5 LT5 LT6 LT L8 L7 hT1 hT2 hT7 hb1 hb6' HE2 HX0 hb0 hbA hbb hb hG hG2 L hg9 hr hr2 hRA hpr hpr2
            have hwr : IntKind.i64.wrap ((i : Int) + 1) = (i : Int) + 1 := IntWalk.i64_in _ (by omega)
            have hb_1 : Below V8.heap.size V8 V8 := Below.refl _ _
            refine wp_region_K (S := (fun V' : World => (V'.cell? ⟨g, o + (i + 1) * 4 + 1, none⟩ = some (.string NM) ∧ V'.cell? ⟨g, o + i * 4 + 3, none⟩ = some (.int .i64 PL) ∧ V'.cell? ⟨g, o + i * 4 + 1, none⟩ = some (.string KW) ∧ V'.cell? ⟨b5, 0, none⟩ = some (.int .i64 tk) ∧ V'.cell? ⟨b5, 1, none⟩ = some (.string ts) ∧ V'.cell? ⟨b5, 2, none⟩ = some (.int .i64 tn) ∧ V'.cell? ⟨b5, 3, none⟩ = some (.int .i64 ta) ∧ V'.cell? ⟨b5, 4, none⟩ = some (.slice A2 tl.length (capF tl.length c2)) ∧ V'.cell? ⟨b5, 5, none⟩ = some (.int .i64 j) ∧ V'.cell? ⟨b6, 0, none⟩ = some (.int .i64 uk) ∧ V'.cell? ⟨b6, 1, none⟩ = some (.string us) ∧ V'.cell? ⟨b6, 2, none⟩ = some (.int .i64 un) ∧ V'.cell? ⟨b6, 3, none⟩ = some (.int .i64 ua) ∧ V'.cell? ⟨b6, 4, none⟩ = some (.slice A3 ul.length (capF ul.length c3)) ∧ V'.cell? ⟨b6, 5, none⟩ = some (.int .i64 j2)))) 18 rfl (HS.out _ hb_1.drew) (fun hSs => ?_)
            change wpAnyK _ _ _ _ _ _ 19 (Array.replicate 19 false) _ _
            refine wpAnyK_take (i := 0) (oi := ⟨some 49, _, _, _, _, _⟩) (v := .slice (some ⟨g, o, none⟩) n c) rfl (by kernel_rfl) (by kernel_rfl) (by kernel_rfl) (by kernel_rfl) (fun _ _ _ h => h) (.inl ⟨by kernel_rfl, fun W hW => by kernel_rfl⟩) hSs ?_
            try simp only [Act.put, List.setIfInBounds_toArray, List.set_cons_zero, List.set_cons_succ]
            refine wpAnyK_take (i := 1) (oi := ⟨some 50, _, _, _, _, _⟩) (v := .int .i64 i) rfl (by kernel_rfl) (by kernel_rfl) (by kernel_rfl) (by kernel_rfl) (fun _ _ _ h => h) (.inl ⟨by kernel_rfl, fun W hW => by kernel_rfl⟩) hSs ?_
            try simp only [Act.put, List.setIfInBounds_toArray, List.set_cons_zero, List.set_cons_succ]
            refine wpAnyK_take (i := 2) (oi := ⟨some 51, _, _, _, _, _⟩) (v := .int .i64 (i + 1)) rfl (by kernel_rfl) (by kernel_rfl) (by kernel_rfl) (by kernel_rfl) (fun _ _ _ h => h) (.inl ⟨by kernel_rfl, fun W hW => by first | (obtain ⟨z0, z1, z2, z3, z4, z5, z6, z7, z8, z9, z10, z11, z12, z13, z14⟩ := hW; go_simp; done) | (obtain ⟨z0, z1, z2, z3, z4, z5, z6, z7, z8, z9, z10, z11, z12, z13, z14⟩ := hW; go_simp; omega) | (obtain ⟨z0, z1, z2, z3, z4, z5, z6, z7, z8, z9, z10, z11, z12, z13, z14⟩ := hW; go_simp; simp [*]; done)⟩) hSs ?_
            try simp only [Act.put, List.setIfInBounds_toArray, List.set_cons_zero, List.set_cons_succ]
            refine wpAnyK_take (i := 3) (oi := ⟨some 52, _, _, _, _, _⟩) (v := .pointer (some ⟨g, o + (i + 1) * 4, none⟩)) rfl (by kernel_rfl) (by kernel_rfl) (by kernel_rfl) (by kernel_rfl) (fun _ _ _ h => h) (.inl ⟨by kernel_rfl, fun W hW => by first | (obtain ⟨z0, z1, z2, z3, z4, z5, z6, z7, z8, z9, z10, z11, z12, z13, z14⟩ := hW; go_simp; done) | (obtain ⟨z0, z1, z2, z3, z4, z5, z6, z7, z8, z9, z10, z11, z12, z13, z14⟩ := hW; go_simp; omega) | (obtain ⟨z0, z1, z2, z3, z4, z5, z6, z7, z8, z9, z10, z11, z12, z13, z14⟩ := hW; go_simp; simp [*]; done)⟩) hSs ?_
            try simp only [Act.put, List.setIfInBounds_toArray, List.set_cons_zero, List.set_cons_succ]
            refine wpAnyK_take (i := 4) (oi := ⟨some 53, _, _, _, _, _⟩) (v := .pointer (some ⟨g, o + (i + 1) * 4 + 1, none⟩)) rfl (by kernel_rfl) (by kernel_rfl) (by kernel_rfl) (by kernel_rfl) (fun _ _ _ h => h) (.inl ⟨by kernel_rfl, fun W hW => by first | (obtain ⟨z0, z1, z2, z3, z4, z5, z6, z7, z8, z9, z10, z11, z12, z13, z14⟩ := hW; go_simp; done) | (obtain ⟨z0, z1, z2, z3, z4, z5, z6, z7, z8, z9, z10, z11, z12, z13, z14⟩ := hW; go_simp; omega) | (obtain ⟨z0, z1, z2, z3, z4, z5, z6, z7, z8, z9, z10, z11, z12, z13, z14⟩ := hW; go_simp; simp [*]; done)⟩) hSs ?_
            try simp only [Act.put, List.setIfInBounds_toArray, List.set_cons_zero, List.set_cons_succ]
            refine wpAnyK_take (i := 5) (oi := ⟨some 54, _, _, _, _, _⟩) (v := .string NM) rfl (by kernel_rfl) (by kernel_rfl) (by kernel_rfl) (by kernel_rfl) (fun _ _ _ h => h) (.inl ⟨by kernel_rfl, fun W hW => by first | (obtain ⟨z0, z1, z2, z3, z4, z5, z6, z7, z8, z9, z10, z11, z12, z13, z14⟩ := hW; go_simp; done) | (obtain ⟨z0, z1, z2, z3, z4, z5, z6, z7, z8, z9, z10, z11, z12, z13, z14⟩ := hW; go_simp; omega) | (obtain ⟨z0, z1, z2, z3, z4, z5, z6, z7, z8, z9, z10, z11, z12, z13, z14⟩ := hW; go_simp; simp [*]; done)⟩) hSs ?_
            try simp only [Act.put, List.setIfInBounds_toArray, List.set_cons_zero, List.set_cons_succ]
            refine wpAnyK_take (i := 6) (oi := ⟨some 55, _, _, _, _, _⟩) (v := .slice (some ⟨g, o, none⟩) n c) rfl (by kernel_rfl) (by kernel_rfl) (by kernel_rfl) (by kernel_rfl) (fun _ _ _ h => h) (.inl ⟨by kernel_rfl, fun W hW => by kernel_rfl⟩) hSs ?_
            try simp only [Act.put, List.setIfInBounds_toArray, List.set_cons_zero, List.set_cons_succ]
            refine wpAnyK_take (i := 7) (oi := ⟨some 56, _, _, _, _, _⟩) (v := .int .i64 i) rfl (by kernel_rfl) (by kernel_rfl) (by kernel_rfl) (by kernel_rfl) (fun _ _ _ h => h) (.inl ⟨by kernel_rfl, fun W hW => by kernel_rfl⟩) hSs ?_
            try simp only [Act.put, List.setIfInBounds_toArray, List.set_cons_zero, List.set_cons_succ]
            refine wpAnyK_take (i := 8) (oi := ⟨some 57, _, _, _, _, _⟩) (v := .pointer (some ⟨g, o + i * 4, none⟩)) rfl (by kernel_rfl) (by kernel_rfl) (by kernel_rfl) (by kernel_rfl) (fun _ _ _ h => h) (.inl ⟨by kernel_rfl, fun W hW => by first | (obtain ⟨z0, z1, z2, z3, z4, z5, z6, z7, z8, z9, z10, z11, z12, z13, z14⟩ := hW; go_simp; done) | (obtain ⟨z0, z1, z2, z3, z4, z5, z6, z7, z8, z9, z10, z11, z12, z13, z14⟩ := hW; go_simp; omega) | (obtain ⟨z0, z1, z2, z3, z4, z5, z6, z7, z8, z9, z10, z11, z12, z13, z14⟩ := hW; go_simp; simp [*]; done)⟩) hSs ?_
            try simp only [Act.put, List.setIfInBounds_toArray, List.set_cons_zero, List.set_cons_succ]
            refine wpAnyK_take (i := 9) (oi := ⟨some 58, _, _, _, _, _⟩) (v := .pointer (some ⟨g, o + i * 4 + 3, none⟩)) rfl (by kernel_rfl) (by kernel_rfl) (by kernel_rfl) (by kernel_rfl) (fun _ _ _ h => h) (.inl ⟨by kernel_rfl, fun W hW => by first | (obtain ⟨z0, z1, z2, z3, z4, z5, z6, z7, z8, z9, z10, z11, z12, z13, z14⟩ := hW; go_simp; done) | (obtain ⟨z0, z1, z2, z3, z4, z5, z6, z7, z8, z9, z10, z11, z12, z13, z14⟩ := hW; go_simp; omega) | (obtain ⟨z0, z1, z2, z3, z4, z5, z6, z7, z8, z9, z10, z11, z12, z13, z14⟩ := hW; go_simp; simp [*]; done)⟩) hSs ?_
            try simp only [Act.put, List.setIfInBounds_toArray, List.set_cons_zero, List.set_cons_succ]
            refine wpAnyK_take (i := 10) (oi := ⟨some 59, _, _, _, _, _⟩) (v := .int .i64 PL) rfl (by kernel_rfl) (by kernel_rfl) (by kernel_rfl) (by kernel_rfl) (fun _ _ _ h => h) (.inl ⟨by kernel_rfl, fun W hW => by first | (obtain ⟨z0, z1, z2, z3, z4, z5, z6, z7, z8, z9, z10, z11, z12, z13, z14⟩ := hW; go_simp; done) | (obtain ⟨z0, z1, z2, z3, z4, z5, z6, z7, z8, z9, z10, z11, z12, z13, z14⟩ := hW; go_simp; omega) | (obtain ⟨z0, z1, z2, z3, z4, z5, z6, z7, z8, z9, z10, z11, z12, z13, z14⟩ := hW; go_simp; simp [*]; done)⟩) hSs ?_
            try simp only [Act.put, List.setIfInBounds_toArray, List.set_cons_zero, List.set_cons_succ]
            refine wpAnyK_take (i := 11) (oi := ⟨some 60, _, _, _, _, _⟩) (v := .pointer (some ⟨b5, 0, none⟩)) rfl (by kernel_rfl) (by kernel_rfl) (by kernel_rfl) (by kernel_rfl) (fun _ _ _ h => h) (.inl ⟨by kernel_rfl, fun W hW => by first | (obtain ⟨z0, z1, z2, z3, z4, z5, z6, z7, z8, z9, z10, z11, z12, z13, z14⟩ := hW; go_simp; done) | (obtain ⟨z0, z1, z2, z3, z4, z5, z6, z7, z8, z9, z10, z11, z12, z13, z14⟩ := hW; go_simp; omega) | (obtain ⟨z0, z1, z2, z3, z4, z5, z6, z7, z8, z9, z10, z11, z12, z13, z14⟩ := hW; go_simp; simp [*]; done)⟩) hSs ?_
            try simp only [Act.put, List.setIfInBounds_toArray, List.set_cons_zero, List.set_cons_succ]
            refine wpAnyK_take (i := 12) (oi := ⟨some 61, _, _, _, _, _⟩) (v := .agg #[.int .i64 tk, .string ts, .int .i64 tn, .int .i64 ta, .slice A2 tl.length (capF tl.length c2)]) rfl (by kernel_rfl) (by kernel_rfl) (by kernel_rfl) (by kernel_rfl) (fun _ _ _ h => h) (.inl ⟨by kernel_rfl, fun W hW => by first | (obtain ⟨z0, z1, z2, z3, z4, z5, z6, z7, z8, z9, z10, z11, z12, z13, z14⟩ := hW; go_simp; done) | (obtain ⟨z0, z1, z2, z3, z4, z5, z6, z7, z8, z9, z10, z11, z12, z13, z14⟩ := hW; go_simp; omega) | (obtain ⟨z0, z1, z2, z3, z4, z5, z6, z7, z8, z9, z10, z11, z12, z13, z14⟩ := hW; go_simp; simp [*]; done)⟩) hSs ?_
            try simp only [Act.put, List.setIfInBounds_toArray, List.set_cons_zero, List.set_cons_succ]
            refine wpAnyK_take (i := 13) (oi := ⟨some 62, _, _, _, _, _⟩) (v := .pointer (some ⟨b6, 0, none⟩)) rfl (by kernel_rfl) (by kernel_rfl) (by kernel_rfl) (by kernel_rfl) (fun _ _ _ h => h) (.inl ⟨by kernel_rfl, fun W hW => by first | (obtain ⟨z0, z1, z2, z3, z4, z5, z6, z7, z8, z9, z10, z11, z12, z13, z14⟩ := hW; go_simp; done) | (obtain ⟨z0, z1, z2, z3, z4, z5, z6, z7, z8, z9, z10, z11, z12, z13, z14⟩ := hW; go_simp; omega) | (obtain ⟨z0, z1, z2, z3, z4, z5, z6, z7, z8, z9, z10, z11, z12, z13, z14⟩ := hW; go_simp; simp [*]; done)⟩) hSs ?_
            try simp only [Act.put, List.setIfInBounds_toArray, List.set_cons_zero, List.set_cons_succ]
            refine wpAnyK_take (i := 14) (oi := ⟨some 63, _, _, _, _, _⟩) (v := .agg #[.int .i64 uk, .string us, .int .i64 un, .int .i64 ua, .slice A3 ul.length (capF ul.length c3)]) rfl (by kernel_rfl) (by kernel_rfl) (by kernel_rfl) (by kernel_rfl) (fun _ _ _ h => h) (.inl ⟨by kernel_rfl, fun W hW => by first | (obtain ⟨z0, z1, z2, z3, z4, z5, z6, z7, z8, z9, z10, z11, z12, z13, z14⟩ := hW; go_simp; done) | (obtain ⟨z0, z1, z2, z3, z4, z5, z6, z7, z8, z9, z10, z11, z12, z13, z14⟩ := hW; go_simp; omega) | (obtain ⟨z0, z1, z2, z3, z4, z5, z6, z7, z8, z9, z10, z11, z12, z13, z14⟩ := hW; go_simp; simp [*]; done)⟩) hSs ?_
            try simp only [Act.put, List.setIfInBounds_toArray, List.set_cons_zero, List.set_cons_succ]
            refine wpAnyK_two (i := 15) (j := 17) rfl rfl rfl rfl (by kernel_rfl) (fun K hK => ?_) (fun K hK => ?_)
            · go_simp
              have hb_2 := Below.alloc hb_1 hb_1.size (.cells #[.int .i64 tk, .string ts, .int .i64 tn, .int .i64 ta, .slice A2 tl.length (capF tl.length c2), .int .i64 uk, .string us, .int .i64 un, .int .i64 ua, .slice A3 ul.length (capF ul.length c3)] 24)
              have hl_2 : Lies (V8.alloc (.cells #[.int .i64 tk, .string ts, .int .i64 tn, .int .i64 ta, .slice A2 tl.length (capF tl.length c2), .int .i64 uk, .string us, .int .i64 un, .int .i64 ua, .slice A3 ul.length (capF ul.length c3)] 24)) (V8.heap.size) 24 #[.int .i64 tk, .string ts, .int .i64 tn, .int .i64 ta, .slice A2 tl.length (capF tl.length c2), .int .i64 uk, .string us, .int .i64 un, .int .i64 ua, .slice A3 ul.length (capF ul.length c3)] := Lies.new _ _ _
              refine hK.out _ _ (fun _ => HS.out _ (hb_2.drew)) (fun hS9 => ?_)
              have hS_2 := hS9 (by decide)
              clear hK K hS9
              try simp only [Act.put, List.setIfInBounds_toArray, List.set_cons_zero, List.set_cons_succ]
              refine wpAnyK_take (i := 16) (oi := ⟨some 65, _, _, _, _, _⟩) (v := .agg #[.int .i64 4, .string NM, .int .i64 0, .int .i64 PL, .slice (some ⟨V8.heap.size, 0, none⟩) 2 2]) rfl (by kernel_rfl) (by kernel_rfl) (by kernel_rfl) (by kernel_rfl) (fun _ _ _ h => h) (.inl ⟨by kernel_rfl, fun W hW => by first | (obtain ⟨z0, z1, z2, z3, z4, z5, z6, z7, z8, z9, z10, z11, z12, z13, z14⟩ := hW; go_simp; done) | (obtain ⟨z0, z1, z2, z3, z4, z5, z6, z7, z8, z9, z10, z11, z12, z13, z14⟩ := hW; go_simp; omega) | (obtain ⟨z0, z1, z2, z3, z4, z5, z6, z7, z8, z9, z10, z11, z12, z13, z14⟩ := hW; go_simp; simp [*]; done)⟩) hS_2 ?_
              try simp only [Act.put, List.setIfInBounds_toArray, List.set_cons_zero, List.set_cons_succ]
              refine wpAnyK_one (i := 17) rfl rfl (by kernel_rfl) (fun K hK => ?_)
              go_simp
              have hb_3 := Below.alloc hb_2 hb_2.size (.cells #[.int .i64 0, .string (⟨#[]⟩ : ByteArray), .int .i64 0, .int .i64 0, .slice none 0 0] 24)
              have hl_3 : Lies ((V8.alloc (.cells #[.int .i64 tk, .string ts, .int .i64 tn, .int .i64 ta, .slice A2 tl.length (capF tl.length c2), .int .i64 uk, .string us, .int .i64 un, .int .i64 ua, .slice A3 ul.length (capF ul.length c3)] 24)).alloc (.cells #[.int .i64 0, .string (⟨#[]⟩ : ByteArray), .int .i64 0, .int .i64 0, .slice none 0 0] 24)) (V8.heap.size + 1) 24 #[.int .i64 0, .string (⟨#[]⟩ : ByteArray), .int .i64 0, .int .i64 0, .slice none 0 0] := by
                have h9 := Lies.new ((V8.alloc (.cells #[.int .i64 tk, .string ts, .int .i64 tn, .int .i64 ta, .slice A2 tl.length (capF tl.length c2), .int .i64 uk, .string us, .int .i64 un, .int .i64 ua, .slice A3 ul.length (capF ul.length c3)] 24))) 24 #[.int .i64 0, .string (⟨#[]⟩ : ByteArray), .int .i64 0, .int .i64 0, .slice none 0 0]
                simpa using h9
              have hl_2_3 := hl_2.old (.cells #[.int .i64 0, .string (⟨#[]⟩ : ByteArray), .int .i64 0, .int .i64 0, .slice none 0 0] 24)
              refine hK.out _ _ (fun _ => HS.out _ (hb_3.drew)) (fun hS9 => ?_)
              have hS_3 := hS9 (by decide)
              clear hK K hS9
              try simp only [Act.put, List.setIfInBounds_toArray, List.set_cons_zero, List.set_cons_succ]
              refine wpAnyK_one (i := 18) rfl rfl (by kernel_rfl) (fun K hK => ?_)
              have hlt_4_0 := hl_2_3.lt
              have hlt_4_1 := hl_3.lt
              have hsz_4 := hb_3.size
              refine wp_store_let (F := fun W9 => Below V8.heap.size V8 W9 ∧ Lies W9 (V8.heap.size) 24 #[.int .i64 tk, .string ts, .int .i64 tn, .int .i64 ta, .slice A2 tl.length (capF tl.length c2), .int .i64 uk, .string us, .int .i64 un, .int .i64 ua, .slice A3 ul.length (capF ul.length c3)] ∧ Lies W9 (V8.heap.size + 1) 24 #[.int .i64 4, .string NM, .int .i64 0, .int .i64 PL, .slice (some ⟨V8.heap.size, 0, none⟩) 2 2]) _ _ _ rfl (V8.heap.size + 1) 0 #[.int .i64 4, .string NM, .int .i64 0, .int .i64 PL, .slice (some ⟨V8.heap.size, 0, none⟩) 2 2] rfl rfl (lies_there hl_3.drew rfl) (by kernel_rfl) (by simp [Value.oneCell']) ⟨below_setCells (hb_3.drew) (by omega) _ _, lies_setOff (hl_2_3.drew) (by omega) _ _, lies_set5 (hl_3.drew) (.int .i64 4) (.string NM) (.int .i64 0) (.int .i64 PL) (.slice (some ⟨V8.heap.size, 0, none⟩) 2 2)⟩ (fun W_4 hF_4 => ?_)
              refine hK.out _ _ (fun h => absurd rfl h) (fun _ => ?_)
              clear hK K
              try simp only [Act.put, List.setIfInBounds_toArray]
              obtain ⟨hb_4, hl_2_3_4, hl_3_4⟩ := hF_4
              refine wpAnyK_done (by kernel_rfl) ?_ _
              have LS := Lib.hid hl_2_3_4
              have LT := Lib.hid hl_3_4
              have HB := Lib.hid hb_4
              have hgt : V8.heap.size ≤ V8.heap.size + 1 := by omega
              have hgs : V8.heap.size ≤ V8.heap.size := by omega
              have hne : V8.heap.size + 1 ≠ V8.heap.size := by omega
              obtain ⟨v0, v1, v2, v3, v4, v5, v6, v7, v8, v9, v10, v11, v12, v13, v14⟩ := HS.out _ hb_4
              have l9 := LT.out
              obtain ⟨⟨d0, d1, d2, d3, d4⟩, e0, e1, e2, e3, e4⟩ := l9.five
              have L9 := HL8.out.below hb_4 HL8.out.lt
              clear hl_2_3_4 hl_3_4 hb_4
              by_cases hkw : KW.toList = [108, 101, 116, 114, 101, 99]
              · have HY := Lib.hid (gyes_j 5 0 PL NM (some ⟨V8.heap.size, 0, none⟩) 2 2 j2 j2 (W_4.setCell ⟨V8.heap.size + 1, 0, none⟩ (.int .i64 5)) rfl)
                have l10 : Lies (W_4.setCell ⟨V8.heap.size + 1, 0, none⟩ (.int .i64 5)) (V8.heap.size + 1) 24 #[.int .i64 5, .string NM, .int .i64 0, .int .i64 PL, .slice (some ⟨V8.heap.size, 0, none⟩) 2 2] := l9.put 0 _
                obtain ⟨⟨x0, x1, x2, x3, x4⟩, _⟩ := l10.five
                have hbx := HB.out.setCell (p := ⟨V8.heap.size + 1, 0, none⟩) hgt (.int .i64 5)
                have x14 := (HS.out _ hbx).2.2.2.2.2.2.2.2.2.2.2.2.2.2
                have LS2 := LS.out.far (p := ⟨V8.heap.size + 1, 0, none⟩) hne.symm (.int .i64 5)
                have L9 := HL8.out.below hbx HL8.out.lt
                clear l9 l10
                go_wp2_with fail
                refine HY.out.mono ?_
                rintro e w9 ⟨rfl, hb9⟩
                have hbz := below_two hbx hb9
                have L9 := L9.below hb9 L9.lt
                have q9 := L9.seven
                have hT9 : TIn w9 (fun g => w.heap.size + 1 ≤ g) (.node 5 NM 0 PL [.node tk ts tn ta tl, .node uk us un ua ul]) (some ⟨V8.heap.size, 0, none⟩) :=
                  TIn.mk hNMs (by simp) (LIn.two (c1 := c2) (c2 := c3) (LS2.below hb9 LS2.lt) rfl (by omega) (TIn.below _ HT1.out hbz (Nat.le_refl _)) (TIn.below _ HT2.out hbz (Nat.le_refl _)))
                have hz : Below w.heap.size w w9 := below_two HB1.out hbz
                have HE2 := HE3.out
                rw [if_pos (bytes_of hkw)] at HE2
                clear v0 v1 v2 v3 v4 v5 v6 v7 v8 v9 v10 v11 v12 v13 v14 d0 d1 d2 d3 d4 x0 x1 x2 x3 x4 x14 hbx hbz hb9
                go_wp2_with fail
                exact bodyPost_ret (res_got (p := 4) Tryz.results60 rfl (Lies.all7 L9 _ _ _ _ _ _ _)) rfl (gpost_parts (n := 2) rfl HE2 hz hT9)
              · have HY := Lib.hid (gyes_j 4 0 PL NM (some ⟨V8.heap.size, 0, none⟩) 2 2 j2 j2 W_4 rfl)
                have hkw2 : (KW.toList == [108, 101, 116, 114, 101, 99]) = false := beq_eq_false_iff_ne.2 hkw
                clear l9
                go_wp2_with fail
                refine HY.out.mono ?_
                rintro e w9 ⟨rfl, hb9⟩
                have hbz := below_two HB.out hb9
                have L9 := L9.below hb9 L9.lt
                have q9 := L9.seven
                have hT9 : TIn w9 (fun g => w.heap.size + 1 ≤ g) (.node 4 NM 0 PL [.node tk ts tn ta tl, .node uk us un ua ul]) (some ⟨V8.heap.size, 0, none⟩) :=
                  TIn.mk hNMs (by simp) (LIn.two (c1 := c2) (c2 := c3) (LS.out.below hb9 LS.out.lt) rfl (by omega) (TIn.below _ HT1.out hbz (Nat.le_refl _)) (TIn.below _ HT2.out hbz (Nat.le_refl _)))
                have hz : Below w.heap.size w w9 := below_two HB1.out hbz
                have HE2 := HE3.out
                rw [if_neg (fun e => hkw (by rw [e]; exact text_mk _))] at HE2
                clear v0 v1 v2 v3 v4 v5 v6 v7 v8 v9 v10 v11 v12 v13 v14 d0 d1 d2 d3 d4 hbz hb9
                go_wp2_with fail
                exact bodyPost_ret (res_got (p := 4) Tryz.results60 rfl (Lies.all7 L9 _ _ _ _ _ _ _)) rfl (gpost_parts (n := 2) rfl HE2 hz hT9)
            · go_simp
              have hb_5 := Below.alloc hb_1 hb_1.size (.cells #[.int .i64 0, .string (⟨#[]⟩ : ByteArray), .int .i64 0, .int .i64 0, .slice none 0 0] 24)
              have hl_5 : Lies (V8.alloc (.cells #[.int .i64 0, .string (⟨#[]⟩ : ByteArray), .int .i64 0, .int .i64 0, .slice none 0 0] 24)) (V8.heap.size) 24 #[.int .i64 0, .string (⟨#[]⟩ : ByteArray), .int .i64 0, .int .i64 0, .slice none 0 0] := Lies.new _ _ _
              refine hK.out _ _ (fun _ => HS.out _ (hb_5.drew)) (fun hS9 => ?_)
              have hS_5 := hS9 (by decide)
              clear hK K hS9
              try simp only [Act.put, List.setIfInBounds_toArray, List.set_cons_zero, List.set_cons_succ]
              refine wpAnyK_one (i := 15) rfl rfl (by kernel_rfl) (fun K hK => ?_)
              go_simp
              have hb_6 := Below.alloc hb_5 hb_5.size (.cells #[.int .i64 tk, .string ts, .int .i64 tn, .int .i64 ta, .slice A2 tl.length (capF tl.length c2), .int .i64 uk, .string us, .int .i64 un, .int .i64 ua, .slice A3 ul.length (capF ul.length c3)] 24)
              have hl_6 : Lies ((V8.alloc (.cells #[.int .i64 0, .string (⟨#[]⟩ : ByteArray), .int .i64 0, .int .i64 0, .slice none 0 0] 24)).alloc (.cells #[.int .i64 tk, .string ts, .int .i64 tn, .int .i64 ta, .slice A2 tl.length (capF tl.length c2), .int .i64 uk, .string us, .int .i64 un, .int .i64 ua, .slice A3 ul.length (capF ul.length c3)] 24)) (V8.heap.size + 1) 24 #[.int .i64 tk, .string ts, .int .i64 tn, .int .i64 ta, .slice A2 tl.length (capF tl.length c2), .int .i64 uk, .string us, .int .i64 un, .int .i64 ua, .slice A3 ul.length (capF ul.length c3)] := by
                have h9 := Lies.new ((V8.alloc (.cells #[.int .i64 0, .string (⟨#[]⟩ : ByteArray), .int .i64 0, .int .i64 0, .slice none 0 0] 24))) 24 #[.int .i64 tk, .string ts, .int .i64 tn, .int .i64 ta, .slice A2 tl.length (capF tl.length c2), .int .i64 uk, .string us, .int .i64 un, .int .i64 ua, .slice A3 ul.length (capF ul.length c3)]
                simpa using h9
              have hl_5_6 := hl_5.old (.cells #[.int .i64 tk, .string ts, .int .i64 tn, .int .i64 ta, .slice A2 tl.length (capF tl.length c2), .int .i64 uk, .string us, .int .i64 un, .int .i64 ua, .slice A3 ul.length (capF ul.length c3)] 24)
              refine hK.out _ _ (fun _ => HS.out _ (hb_6.drew)) (fun hS9 => ?_)
              have hS_6 := hS9 (by decide)
              clear hK K hS9
              try simp only [Act.put, List.setIfInBounds_toArray, List.set_cons_zero, List.set_cons_succ]
              refine wpAnyK_take (i := 16) (oi := ⟨some 65, _, _, _, _, _⟩) (v := .agg #[.int .i64 4, .string NM, .int .i64 0, .int .i64 PL, .slice (some ⟨V8.heap.size + 1, 0, none⟩) 2 2]) rfl (by kernel_rfl) (by kernel_rfl) (by kernel_rfl) (by kernel_rfl) (fun _ _ _ h => h) (.inl ⟨by kernel_rfl, fun W hW => by first | (obtain ⟨z0, z1, z2, z3, z4, z5, z6, z7, z8, z9, z10, z11, z12, z13, z14⟩ := hW; go_simp; done) | (obtain ⟨z0, z1, z2, z3, z4, z5, z6, z7, z8, z9, z10, z11, z12, z13, z14⟩ := hW; go_simp; omega) | (obtain ⟨z0, z1, z2, z3, z4, z5, z6, z7, z8, z9, z10, z11, z12, z13, z14⟩ := hW; go_simp; simp [*]; done)⟩) hS_6 ?_
              try simp only [Act.put, List.setIfInBounds_toArray, List.set_cons_zero, List.set_cons_succ]
              refine wpAnyK_one (i := 18) rfl rfl (by kernel_rfl) (fun K hK => ?_)
              have hlt_7_0 := hl_5_6.lt
              have hlt_7_1 := hl_6.lt
              have hsz_7 := hb_6.size
              refine wp_store_let (F := fun W9 => Below V8.heap.size V8 W9 ∧ Lies W9 (V8.heap.size) 24 #[.int .i64 4, .string NM, .int .i64 0, .int .i64 PL, .slice (some ⟨V8.heap.size + 1, 0, none⟩) 2 2] ∧ Lies W9 (V8.heap.size + 1) 24 #[.int .i64 tk, .string ts, .int .i64 tn, .int .i64 ta, .slice A2 tl.length (capF tl.length c2), .int .i64 uk, .string us, .int .i64 un, .int .i64 ua, .slice A3 ul.length (capF ul.length c3)]) _ _ _ rfl (V8.heap.size) 0 #[.int .i64 4, .string NM, .int .i64 0, .int .i64 PL, .slice (some ⟨V8.heap.size + 1, 0, none⟩) 2 2] rfl rfl (lies_there hl_5_6.drew rfl) (by kernel_rfl) (by simp [Value.oneCell']) ⟨below_setCells (hb_6.drew) (by omega) _ _, lies_set5 (hl_5_6.drew) (.int .i64 4) (.string NM) (.int .i64 0) (.int .i64 PL) (.slice (some ⟨V8.heap.size + 1, 0, none⟩) 2 2), lies_setOff (hl_6.drew) (by omega) _ _⟩ (fun W_7 hF_7 => ?_)
              refine hK.out _ _ (fun h => absurd rfl h) (fun _ => ?_)
              clear hK K
              try simp only [Act.put, List.setIfInBounds_toArray]
              obtain ⟨hb_7, hl_5_6_7, hl_6_7⟩ := hF_7
              refine wpAnyK_done (by kernel_rfl) ?_ _
              have LS := Lib.hid hl_6_7
              have LT := Lib.hid hl_5_6_7
              have HB := Lib.hid hb_7
              have hgt : V8.heap.size ≤ V8.heap.size := by omega
              have hgs : V8.heap.size ≤ V8.heap.size + 1 := by omega
              have hne : V8.heap.size ≠ V8.heap.size + 1 := by omega
              obtain ⟨v0, v1, v2, v3, v4, v5, v6, v7, v8, v9, v10, v11, v12, v13, v14⟩ := HS.out _ hb_7
              have l9 := LT.out
              obtain ⟨⟨d0, d1, d2, d3, d4⟩, e0, e1, e2, e3, e4⟩ := l9.five
              have L9 := HL8.out.below hb_7 HL8.out.lt
              clear hl_5_6_7 hl_6_7 hb_7
              by_cases hkw : KW.toList = [108, 101, 116, 114, 101, 99]
              · have HY := Lib.hid (gyes_j 5 0 PL NM (some ⟨V8.heap.size + 1, 0, none⟩) 2 2 j2 j2 (W_7.setCell ⟨V8.heap.size, 0, none⟩ (.int .i64 5)) rfl)
                have l10 : Lies (W_7.setCell ⟨V8.heap.size, 0, none⟩ (.int .i64 5)) (V8.heap.size) 24 #[.int .i64 5, .string NM, .int .i64 0, .int .i64 PL, .slice (some ⟨V8.heap.size + 1, 0, none⟩) 2 2] := l9.put 0 _
                obtain ⟨⟨x0, x1, x2, x3, x4⟩, _⟩ := l10.five
                have hbx := HB.out.setCell (p := ⟨V8.heap.size, 0, none⟩) hgt (.int .i64 5)
                have x14 := (HS.out _ hbx).2.2.2.2.2.2.2.2.2.2.2.2.2.2
                have LS2 := LS.out.far (p := ⟨V8.heap.size, 0, none⟩) hne.symm (.int .i64 5)
                have L9 := HL8.out.below hbx HL8.out.lt
                clear l9 l10
                go_wp2_with fail
                refine HY.out.mono ?_
                rintro e w9 ⟨rfl, hb9⟩
                have hbz := below_two hbx hb9
                have L9 := L9.below hb9 L9.lt
                have q9 := L9.seven
                have hT9 : TIn w9 (fun g => w.heap.size + 1 ≤ g) (.node 5 NM 0 PL [.node tk ts tn ta tl, .node uk us un ua ul]) (some ⟨V8.heap.size + 1, 0, none⟩) :=
                  TIn.mk hNMs (by simp) (LIn.two (c1 := c2) (c2 := c3) (LS2.below hb9 LS2.lt) rfl (by omega) (TIn.below _ HT1.out hbz (Nat.le_refl _)) (TIn.below _ HT2.out hbz (Nat.le_refl _)))
                have hz : Below w.heap.size w w9 := below_two HB1.out hbz
                have HE2 := HE3.out
                rw [if_pos (bytes_of hkw)] at HE2
                clear v0 v1 v2 v3 v4 v5 v6 v7 v8 v9 v10 v11 v12 v13 v14 d0 d1 d2 d3 d4 x0 x1 x2 x3 x4 x14 hbx hbz hb9
                go_wp2_with fail
                exact bodyPost_ret (res_got (p := 4) Tryz.results60 rfl (Lies.all7 L9 _ _ _ _ _ _ _)) rfl (gpost_parts (n := 2) rfl HE2 hz hT9)
              · have HY := Lib.hid (gyes_j 4 0 PL NM (some ⟨V8.heap.size + 1, 0, none⟩) 2 2 j2 j2 W_7 rfl)
                have hkw2 : (KW.toList == [108, 101, 116, 114, 101, 99]) = false := beq_eq_false_iff_ne.2 hkw
                clear l9
                go_wp2_with fail
                refine HY.out.mono ?_
                rintro e w9 ⟨rfl, hb9⟩
                have hbz := below_two HB.out hb9
                have L9 := L9.below hb9 L9.lt
                have q9 := L9.seven
                have hT9 : TIn w9 (fun g => w.heap.size + 1 ≤ g) (.node 4 NM 0 PL [.node tk ts tn ta tl, .node uk us un ua ul]) (some ⟨V8.heap.size + 1, 0, none⟩) :=
                  TIn.mk hNMs (by simp) (LIn.two (c1 := c2) (c2 := c3) (LS.out.below hb9 LS.out.lt) rfl (by omega) (TIn.below _ HT1.out hbz (Nat.le_refl _)) (TIn.below _ HT2.out hbz (Nat.le_refl _)))
                have hz : Below w.heap.size w w9 := below_two HB1.out hbz
                have HE2 := HE3.out
                rw [if_neg (fun e => hkw (by rw [e]; exact text_mk _))] at HE2
                clear v0 v1 v2 v3 v4 v5 v6 v7 v8 v9 v10 v11 v12 v13 v14 d0 d1 d2 d3 d4 hbz hb9
                go_wp2_with fail
                exact bodyPost_ret (res_got (p := 4) Tryz.results60 rfl (Lies.all7 L9 _ _ _ _ _ _ _)) rfl (gpost_parts (n := 2) rfl HE2 hz hT9)
        · have HE2 : gLet (f + 1) l i = .error j := by
            rw [HE]
            simp only [ne_eq, show (inS : List UInt8) = [105, 110] from rfl, hin, not_false_eq_true, if_true]
          obtain ⟨X, hX⟩ : ∃ X, X = xAt l j := ⟨_, rfl⟩
          rw [← hX] at HX2 hin
          have n1 := bytes_ne hin
          have b0 : (X == [105, 110]) = false := beq_eq_false_iff_ne.2 hin
          obtain ⟨q0, q1, q2, q3, q4, q5, q6⟩ := LT.seven.1
          rw [hb5'] at q0 q1 q2 q3 q4 q5 q6
          clear hX HE
          go_wp2_with fail
          refine HX2.out.mono ?_
          rintro e w' ⟨rfl, rfl⟩
          go_wp2_with fail
          refine HN.out.mono ?_
          rintro e V2 ⟨rfl, hb2⟩
          have L9 := L7.below hb2 L7.lt
          have q9 := L9.seven
          have hb9 := hbA.trans (hb2.mono hbA.size)
          clear q0 q1 q2 q3 q4 q5 q6
          go_wp2_with fail
          exact bodyPost_ret (res_got (p := 4) Tryz.results60 rfl (Lies.all7 L9 _ _ _ _ _ _ _)) rfl (gpost_err (j := j) HE2 hb9)
    · have HE : Hid (gLet (f + 1) l i = .error (i + 2)) := by
        refine Lib.hid ?_
        rw [gLet, if_neg (fun h => h hk), if_pos hx]
      have HN := Lib.hid (gno_j (i + 2) ((i : Int) + 2) (w.alloc (.cells zero7 68)) (by simp))
      obtain ⟨X, hX⟩ : ∃ X, X = xAt l (i + 2) := ⟨_, rfl⟩
      rw [← hX] at HX hx
      have b0 : (X == [61]) = false := beq_eq_false_iff_ne.2 hx
      rw [hk] at HK
      clear hX hk
      go_enter Tryz.func60, Tryz.ntmps60
      go_wp2_with fail
      refine HK.out.mono ?_
      rintro e w' ⟨rfl, rfl⟩
      go_wp2_with fail
      refine HX.out.mono ?_
      rintro e w' ⟨rfl, rfl⟩
      go_wp2_with fail
      refine HN.out.mono ?_
      rintro e V2 ⟨rfl, hb2⟩
      have L9 := hL.below hb2 hL.lt
      have q9 := L9.seven
      have hb9 := hb0.trans (hb2.mono hb0.size)
      go_wp2_with fail
      exact bodyPost_ret (res_got (p := 4) Tryz.results60 rfl (Lies.all7 L9 _ _ _ _ _ _ _)) rfl (gpost_err (j := i + 2) HE.out hb9)
  · have HE : Hid (gLet (f + 1) l i = .error (i + 1)) := by
      refine Lib.hid ?_
      rw [gLet, if_pos hk]
    have HN := Lib.hid (gno_j (i + 1) ((i : Int) + 1) (w.alloc (.cells zero7 68)) (by simp))
    obtain ⟨k, hk'⟩ : ∃ k, k = kAt l (i + 1) := ⟨_, rfl⟩
    rw [← hk'] at HK hk
    clear hk'
    go_enter Tryz.func60, Tryz.ntmps60
    go_wp2_with fail
    refine HK.out.mono ?_
    rintro e w' ⟨rfl, rfl⟩
    go_wp2_with fail
    refine HN.out.mono ?_
    rintro e V2 ⟨rfl, hb2⟩
    have L9 := hL.below hb2 hL.lt
    have q9 := L9.seven
    have hb9 := hb0.trans (hb2.mono hb0.size)
    go_wp2_with fail
    exact bodyPost_ret (res_got (p := 4) Tryz.results60 rfl (Lies.all7 L9 _ _ _ _ _ _ _)) rfl (gpost_err (j := i + 1) HE.out hb9)
end Lx
end Go.Proofs.YtobdoahdjbmflaaGreatDoor
