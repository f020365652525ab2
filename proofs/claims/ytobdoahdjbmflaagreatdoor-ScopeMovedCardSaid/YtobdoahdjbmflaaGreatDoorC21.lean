/-
  Texts that lie one behind the other: GMatch GApp.
-/
import Derived.Test.YtobdoahdjbmflaaGreatDoorC20
namespace Go.Proofs.YtobdoahdjbmflaaGreatDoor
open Go.RowKit
namespace Lx
set_option maxRecDepth 100000
theorem owns_five {V : World} {base g : Nat} {a b c d e : Value} (hb : base ≤ g) (h : Lies V g 24 #[a, b, c, d, e]) : V.ownsRow base 24 5 (.slice (some ⟨g, 0, none⟩) 1 1) 1 [a, b, c, d, e] :=
  ⟨rfl, .inr ⟨g, 1, #[a, b, c, d, e], rfl, hb, h, Nat.le_refl _, by simp [maxLen], rfl, rfl⟩⟩
/-- What match promises: it is asked where a token stands. -/
def GCM (l : List Tok) (A : Option Addr) (n c f : Nat) : Prop :=
  ∀ (i : Nat) (x : Int) (w : World), x = (i : Int) → i < n → 8 * (n - i) + 6 ≤ f → Row w A l → Calls Tryz.prog 61 #[.slice A n c, .int .i64 x] w (GPost w (gMatch f l i))
set_option maxHeartbeats 16000000 in
theorem gmatch_any {l : List Tok} {A : Option Addr} {n c f : Nat} (T : GTok l n) (HX0 : GC 37 l A n c 7 gExpr f) (HAl : ∀ g, g ≤ f → GC 90 l A n c 6 gAlt g) : GCM l A n c (f + 1) := by
  intro i x w hx hi hf hR
  subst hx
  have h6 := T.few
  have hb0 := below_seven (w := w)
  have hR1 := hR.at_new hb0
  have hL := Lies.new w 68 zero7
  have hln1 : n ≤ l.length := Nat.le_of_eq T.len
  have hln2 : l.length ≤ n := Nat.le_of_eq T.len.symm
  have HC := Lib.hid (HX0 (i + 1) ((i : Int) + 1) (w.alloc (.cells zero7 68)) (by simp) (by omega) (by omega) hR1)
  have HE : Hid ((∀ j, gExpr f l (i + 1) = .error j → gMatch (f + 1) l i = .error j) ∧ (∀ a j, gExpr f l (i + 1) = .ok (a, j) → (¬ xAt l j = [111, 102] → gMatch (f + 1) l i = .error j) ∧ (xAt l j = [111, 102] → (¬ xAt l (j + 1) = [123] → gMatch (f + 1) l i = .error (j + 1)) ∧ (xAt l (j + 1) = [123] → gMatch (f + 1) l i = gAlts f l i (j + 2) [a])))) := by
    refine Lib.hid ⟨fun j h => by rw [gMatch, h], fun a j h => ⟨fun hx => ?_, fun hx => ⟨fun hy => ?_, fun hy => ?_⟩⟩⟩
    · rw [gMatch, h]
      simp only [show (ofS : List UInt8) = [111, 102] from rfl, hx, ne_eq, not_false_eq_true, if_true]
    · rw [gMatch, h]
      simp only [show (ofS : List UInt8) = [111, 102] from rfl, hx, hy, ne_eq, not_true_eq_false, not_false_eq_true, if_true, if_false]
    · rw [gMatch, h]
      simp only [show (ofS : List UInt8) = [111, 102] from rfl, hx, hy, ne_eq, not_true_eq_false, if_false]
  obtain ⟨i0, hi0, hz0, hz1, hz2⟩ := info_parts infoT
  go_enter Tryz.func61, Tryz.ntmps61
  go_wp2_with fail
  refine HC.out.mono ?_
  intro e V hG
  have hb := hb0.trans (hG.1.mono hb0.size)
  have L := hL.below hG.1 (by simp)
  have hsz := hG.1.size
  rcases hG.split with ⟨j, hr, rfl⟩ | ⟨t, j, A2, c2, hr, rfl, hT⟩
  · have HE2 := Lib.hid (HE.out.1 _ hr)
    have L9 := L.old (.cells #[.int .i64 0, .string ⟨#[]⟩, .int .i64 0, .int .i64 0, .slice none 0 0, .int .i64 j, .bool false] 68)
    have q9 := L9.seven
    have hb9 := hb.alloc hb.size (.cells #[.int .i64 0, .string ⟨#[]⟩, .int .i64 0, .int .i64 0, .slice none 0 0, .int .i64 j, .bool false] 68)
    go_wp2_with fail
    exact bodyPost_ret (res_got (p := 4) Tryz.results61 rfl (Lies.all7 L9 _ _ _ _ _ _ _)) rfl (gpost_err HE2.out hb9)
  · have HE2 := Lib.hid (HE.out.2 _ _ hr)
    have hpr := (prog_all f).expr l (i + 1) t j hr
    obtain ⟨tk, ts, tn, ta, tl⟩ := t
    simp only [Tr.kind, Tr.name, Tr.n, Tr.place, Tr.parts]
    have hbA := hb.alloc hb.size (.cells #[.int .i64 tk, .string ts, .int .i64 tn, .int .i64 ta, .slice A2 tl.length (capF tl.length c2), .int .i64 j, .bool true] 68)
    have L7 := L.old (.cells #[.int .i64 tk, .string ts, .int .i64 tn, .int .i64 ta, .slice A2 tl.length (capF tl.length c2), .int .i64 j, .bool true] 68)
    have LT := Lies.new V 68 #[.int .i64 tk, .string ts, .int .i64 tn, .int .i64 ta, .slice A2 tl.length (capF tl.length c2), .int .i64 j, .bool true]
    have hT7 := TIn.below _ (TIn.wide _ (Y := fun g => w.heap.size + 1 ≤ g) hT (fun g hg _ => by simpa using hg)) ((Below.refl _ V).alloc (Nat.le_refl _) (.cells #[.int .i64 tk, .string ts, .int .i64 tn, .int .i64 ta, .slice A2 tl.length (capF tl.length c2), .int .i64 j, .bool true] 68)) (Nat.le_refl _)
    have hRA := hR.below hbA (Nat.le_refl _)
    obtain ⟨VA, hVA⟩ : ∃ VA, VA = V.alloc (.cells #[.int .i64 tk, .string ts, .int .i64 tn, .int .i64 ta, .slice A2 tl.length (capF tl.length c2), .int .i64 j, .bool true] 68) := ⟨_, rfl⟩
    rw [← hVA] at hbA L7 LT hT7 hRA
    have HX2 := Lib.hid (gtext_at l A n c j (j : Int) VA rfl T.len (by omega) h6 hRA)
    have HX3 := Lib.hid (gtext_at l A n c (j + 1) ((j : Int) + 1) VA (by simp) T.len (by omega) h6 hRA)
    have HN := Lib.hid (gno_j j j VA rfl)
    have HN2 := Lib.hid (gno_j (j + 1) ((j : Int) + 1) VA (by simp))
    obtain ⟨b5, hb5'⟩ : ∃ b5, b5 = V.heap.size := ⟨_, rfl⟩
    rw [← hb5'] at LT
    have hVs : w.heap.size + 1 ≤ b5 := by rw [hb5']; simpa using hsz
    obtain ⟨⟨q0, q1, q2, q3, q4, q5, q6⟩, _⟩ := LT.seven
    have q0' := q0
    have q1' := q1
    have q2' := q2
    have q3' := q3
    have q4' := q4
    have q5' := q5
    have q6' := q6
    rw [hb5', hVA] at q0 q1 q2 q3 q4 q5 q6
    have HVA := Lib.hid hVA
    have HB5 := Lib.hid hb5'
    clear hVA hb5' hr hG hT HC HE hb0 hR1 hL L hb hsz
    by_cases hof : xAt l j = [111, 102]
    · have hjn : j < n := by rw [T.len]; exact xAt_lt hof (by simp)
      replace HE2 := Lib.hid (HE2.out.2 hof)
      rw [hof] at HX2
      rw [HVA.out] at HX2
      clear hof
      go_wp2_with fail
      refine HX2.out.mono ?_
      rintro e w' ⟨rfl, rfl⟩
      go_wp2_with fail
      rw [← HVA.out, ← HB5.out]
      clear q0 q1 q2 q3 q4 q5 q6 HX2
      by_cases hcu : xAt l (j + 1) = [123]
      · have hjn1 : j + 1 < n := by rw [T.len]; exact xAt_lt hcu (by simp)
        replace HE2 := Lib.hid (HE2.out.2 hcu)
        rw [hcu] at HX3
        clear hcu
        refine HX3.out.mono ?_
        rintro e w' ⟨rfl, rfl⟩
        go_upto_region 8 with fail
        obtain ⟨V8, hV8⟩ : ∃ q, q = VA := ⟨_, rfl⟩
        rw [← hV8] at hbA L7 LT hT7 hRA q0' q1' q2' q3' q4' ⊢
        obtain ⟨g, o, rfl, -, -, -, c3'⟩ := hRA.get (i := i) (by rw [← T.len]; omega)
        obtain ⟨PL, hPL⟩ : ∃ q, q = plAt l i := ⟨_, rfl⟩
        have HPL := Lib.hid hPL
        rw [← hPL] at c3'
        have HS : Hid (∀ V', Below V8.heap.size V8 V' → (fun V' : World => (V'.cell? ⟨g, o + i * 4 + 3, none⟩ = some (.int .i64 PL) ∧ V'.cell? ⟨b5, 0, none⟩ = some (.int .i64 tk) ∧ V'.cell? ⟨b5, 1, none⟩ = some (.string ts) ∧ V'.cell? ⟨b5, 2, none⟩ = some (.int .i64 tn) ∧ V'.cell? ⟨b5, 3, none⟩ = some (.int .i64 ta) ∧ V'.cell? ⟨b5, 4, none⟩ = some (.slice A2 tl.length (capF tl.length c2)))) V') := Lib.hid fun V' h =>
          ⟨(h.cell (p := ⟨g, _, none⟩) (cell_lt c3')).trans c3', (h.cell (p := ⟨b5, 0, none⟩) LT.lt).trans (LT.cell 0), (h.cell (p := ⟨b5, 1, none⟩) LT.lt).trans (LT.cell 1), (h.cell (p := ⟨b5, 2, none⟩) LT.lt).trans (LT.cell 2), (h.cell (p := ⟨b5, 3, none⟩) LT.lt).trans (LT.cell 3), (h.cell (p := ⟨b5, 4, none⟩) LT.lt).trans (LT.cell 4)⟩
        have HB1 := Lib.hid hbA
        have HL8 := Lib.hid L7
        have HT1 := Lib.hid (TIn.wide _ hT7 (Y := fun g => w.heap.size + 1 ≤ g ∧ g < V8.heap.size) (fun g hg hl => ⟨hg, hl⟩))
        have HE3 := HE2
        have Lies5 := Lib.hid LT
        have h5lt8 := LT.lt
        clear hV8 hbA L7 LT hT7 hRA c3' hPL q0' q1' q2' q3' q4' q5' q6' HX3 HN HN2 HE2 HVA HB5
        have hb_1 : Below V8.heap.size V8 V8 := Below.refl _ _
        refine wp_region_K (S := (fun V' : World => (V'.cell? ⟨g, o + i * 4 + 3, none⟩ = some (.int .i64 PL) ∧ V'.cell? ⟨b5, 0, none⟩ = some (.int .i64 tk) ∧ V'.cell? ⟨b5, 1, none⟩ = some (.string ts) ∧ V'.cell? ⟨b5, 2, none⟩ = some (.int .i64 tn) ∧ V'.cell? ⟨b5, 3, none⟩ = some (.int .i64 ta) ∧ V'.cell? ⟨b5, 4, none⟩ = some (.slice A2 tl.length (capF tl.length c2))))) 10 rfl (HS.out _ hb_1.drew) (fun hSs => ?_)
        change wpAnyK _ _ _ _ _ _ 11 (Array.replicate 11 false) _ _
        refine wpAnyK_take (i := 0) (oi := ⟨some 35, _, _, _, _, _⟩) (v := .slice (some ⟨g, o, none⟩) n c) rfl (by kernel_rfl) (by kernel_rfl) (by kernel_rfl) (by kernel_rfl) (fun _ _ _ h => h) (.inl ⟨by kernel_rfl, fun W hW => by kernel_rfl⟩) hSs ?_
        try simp only [Act.put, List.setIfInBounds_toArray, List.set_cons_zero, List.set_cons_succ]
        refine wpAnyK_take (i := 1) (oi := ⟨some 36, _, _, _, _, _⟩) (v := .int .i64 i) rfl (by kernel_rfl) (by kernel_rfl) (by kernel_rfl) (by kernel_rfl) (fun _ _ _ h => h) (.inl ⟨by kernel_rfl, fun W hW => by kernel_rfl⟩) hSs ?_
        try simp only [Act.put, List.setIfInBounds_toArray, List.set_cons_zero, List.set_cons_succ]
        refine wpAnyK_take (i := 2) (oi := ⟨some 37, _, _, _, _, _⟩) (v := .pointer (some ⟨g, o + i * 4, none⟩)) rfl (by kernel_rfl) (by kernel_rfl) (by kernel_rfl) (by kernel_rfl) (fun _ _ _ h => h) (.inl ⟨by kernel_rfl, fun W hW => by first | (obtain ⟨z0, z1, z2, z3, z4, z5⟩ := hW; go_simp; done) | (obtain ⟨z0, z1, z2, z3, z4, z5⟩ := hW; go_simp; omega) | (obtain ⟨z0, z1, z2, z3, z4, z5⟩ := hW; go_simp; simp [*]; done)⟩) hSs ?_
        try simp only [Act.put, List.setIfInBounds_toArray, List.set_cons_zero, List.set_cons_succ]
        refine wpAnyK_take (i := 3) (oi := ⟨some 38, _, _, _, _, _⟩) (v := .pointer (some ⟨g, o + i * 4 + 3, none⟩)) rfl (by kernel_rfl) (by kernel_rfl) (by kernel_rfl) (by kernel_rfl) (fun _ _ _ h => h) (.inl ⟨by kernel_rfl, fun W hW => by first | (obtain ⟨z0, z1, z2, z3, z4, z5⟩ := hW; go_simp; done) | (obtain ⟨z0, z1, z2, z3, z4, z5⟩ := hW; go_simp; omega) | (obtain ⟨z0, z1, z2, z3, z4, z5⟩ := hW; go_simp; simp [*]; done)⟩) hSs ?_
        try simp only [Act.put, List.setIfInBounds_toArray, List.set_cons_zero, List.set_cons_succ]
        refine wpAnyK_take (i := 4) (oi := ⟨some 39, _, _, _, _, _⟩) (v := .int .i64 PL) rfl (by kernel_rfl) (by kernel_rfl) (by kernel_rfl) (by kernel_rfl) (fun _ _ _ h => h) (.inl ⟨by kernel_rfl, fun W hW => by first | (obtain ⟨z0, z1, z2, z3, z4, z5⟩ := hW; go_simp; done) | (obtain ⟨z0, z1, z2, z3, z4, z5⟩ := hW; go_simp; omega) | (obtain ⟨z0, z1, z2, z3, z4, z5⟩ := hW; go_simp; simp [*]; done)⟩) hSs ?_
        try simp only [Act.put, List.setIfInBounds_toArray, List.set_cons_zero, List.set_cons_succ]
        refine wpAnyK_take (i := 5) (oi := ⟨some 40, _, _, _, _, _⟩) (v := .pointer (some ⟨b5, 0, none⟩)) rfl (by kernel_rfl) (by kernel_rfl) (by kernel_rfl) (by kernel_rfl) (fun _ _ _ h => h) (.inl ⟨by kernel_rfl, fun W hW => by first | (obtain ⟨z0, z1, z2, z3, z4, z5⟩ := hW; go_simp; done) | (obtain ⟨z0, z1, z2, z3, z4, z5⟩ := hW; go_simp; omega) | (obtain ⟨z0, z1, z2, z3, z4, z5⟩ := hW; go_simp; simp [*]; done)⟩) hSs ?_
        try simp only [Act.put, List.setIfInBounds_toArray, List.set_cons_zero, List.set_cons_succ]
        refine wpAnyK_take (i := 6) (oi := ⟨some 41, _, _, _, _, _⟩) (v := .agg #[.int .i64 tk, .string ts, .int .i64 tn, .int .i64 ta, .slice A2 tl.length (capF tl.length c2)]) rfl (by kernel_rfl) (by kernel_rfl) (by kernel_rfl) (by kernel_rfl) (fun _ _ _ h => h) (.inl ⟨by kernel_rfl, fun W hW => by first | (obtain ⟨z0, z1, z2, z3, z4, z5⟩ := hW; go_simp; done) | (obtain ⟨z0, z1, z2, z3, z4, z5⟩ := hW; go_simp; omega) | (obtain ⟨z0, z1, z2, z3, z4, z5⟩ := hW; go_simp; simp [*]; done)⟩) hSs ?_
        try simp only [Act.put, List.setIfInBounds_toArray, List.set_cons_zero, List.set_cons_succ]
        refine wpAnyK_two (i := 7) (j := 9) rfl rfl rfl rfl (by kernel_rfl) (fun K hK => ?_) (fun K hK => ?_)
        · go_simp
          have hb_2 := Below.alloc hb_1 hb_1.size (.cells #[.int .i64 tk, .string ts, .int .i64 tn, .int .i64 ta, .slice A2 tl.length (capF tl.length c2)] 24)
          have hl_2 : Lies (V8.alloc (.cells #[.int .i64 tk, .string ts, .int .i64 tn, .int .i64 ta, .slice A2 tl.length (capF tl.length c2)] 24)) (V8.heap.size) 24 #[.int .i64 tk, .string ts, .int .i64 tn, .int .i64 ta, .slice A2 tl.length (capF tl.length c2)] := Lies.new _ _ _
          refine hK.out _ _ (fun _ => HS.out _ (hb_2.drew)) (fun hS9 => ?_)
          have hS_2 := hS9 (by decide)
          clear hK K hS9
          try simp only [Act.put, List.setIfInBounds_toArray, List.set_cons_zero, List.set_cons_succ]
          refine wpAnyK_take (i := 8) (oi := ⟨some 43, _, _, _, _, _⟩) (v := .agg #[.int .i64 7, .string (⟨#[]⟩ : ByteArray), .int .i64 0, .int .i64 PL, .slice (some ⟨V8.heap.size, 0, none⟩) 1 1]) rfl (by kernel_rfl) (by kernel_rfl) (by kernel_rfl) (by kernel_rfl) (fun _ _ _ h => h) (.inl ⟨by kernel_rfl, fun W hW => by first | (obtain ⟨z0, z1, z2, z3, z4, z5⟩ := hW; go_simp; done) | (obtain ⟨z0, z1, z2, z3, z4, z5⟩ := hW; go_simp; omega) | (obtain ⟨z0, z1, z2, z3, z4, z5⟩ := hW; go_simp; simp [*]; done)⟩) hS_2 ?_
          try simp only [Act.put, List.setIfInBounds_toArray, List.set_cons_zero, List.set_cons_succ]
          refine wpAnyK_one (i := 9) rfl rfl (by kernel_rfl) (fun K hK => ?_)
          go_simp
          have hb_3 := Below.alloc hb_2 hb_2.size (.cells #[.int .i64 0, .string (⟨#[]⟩ : ByteArray), .int .i64 0, .int .i64 0, .slice none 0 0] 24)
          have hl_3 : Lies ((V8.alloc (.cells #[.int .i64 tk, .string ts, .int .i64 tn, .int .i64 ta, .slice A2 tl.length (capF tl.length c2)] 24)).alloc (.cells #[.int .i64 0, .string (⟨#[]⟩ : ByteArray), .int .i64 0, .int .i64 0, .slice none 0 0] 24)) (V8.heap.size + 1) 24 #[.int .i64 0, .string (⟨#[]⟩ : ByteArray), .int .i64 0, .int .i64 0, .slice none 0 0] := by
            have h9 := Lies.new ((V8.alloc (.cells #[.int .i64 tk, .string ts, .int .i64 tn, .int .i64 ta, .slice A2 tl.length (capF tl.length c2)] 24))) 24 #[.int .i64 0, .string (⟨#[]⟩ : ByteArray), .int .i64 0, .int .i64 0, .slice none 0 0]
            simpa using h9
          have hl_2_3 := hl_2.old (.cells #[.int .i64 0, .string (⟨#[]⟩ : ByteArray), .int .i64 0, .int .i64 0, .slice none 0 0] 24)
          refine hK.out _ _ (fun _ => HS.out _ (hb_3.drew)) (fun hS9 => ?_)
          have hS_3 := hS9 (by decide)
          clear hK K hS9
          try simp only [Act.put, List.setIfInBounds_toArray, List.set_cons_zero, List.set_cons_succ]
          refine wpAnyK_one (i := 10) rfl rfl (by kernel_rfl) (fun K hK => ?_)
          have hlt_4_0 := hl_2_3.lt
          have hlt_4_1 := hl_3.lt
          have hsz_4 := hb_3.size
          refine wp_store_let (F := fun W9 => Below V8.heap.size V8 W9 ∧ Lies W9 (V8.heap.size) 24 #[.int .i64 tk, .string ts, .int .i64 tn, .int .i64 ta, .slice A2 tl.length (capF tl.length c2)] ∧ Lies W9 (V8.heap.size + 1) 24 #[.int .i64 7, .string (⟨#[]⟩ : ByteArray), .int .i64 0, .int .i64 PL, .slice (some ⟨V8.heap.size, 0, none⟩) 1 1]) _ _ _ rfl (V8.heap.size + 1) 0 #[.int .i64 7, .string (⟨#[]⟩ : ByteArray), .int .i64 0, .int .i64 PL, .slice (some ⟨V8.heap.size, 0, none⟩) 1 1] rfl rfl (lies_there hl_3.drew rfl) (by kernel_rfl) (by simp [Value.oneCell']) ⟨below_setCells (hb_3.drew) (by omega) _ _, lies_setOff (hl_2_3.drew) (by omega) _ _, lies_set5 (hl_3.drew) (.int .i64 7) (.string (⟨#[]⟩ : ByteArray)) (.int .i64 0) (.int .i64 PL) (.slice (some ⟨V8.heap.size, 0, none⟩) 1 1)⟩ (fun W_4 hF_4 => ?_)
          refine hK.out _ _ (fun h => absurd rfl h) (fun _ => ?_)
          clear hK K
          try simp only [Act.put, List.setIfInBounds_toArray]
          obtain ⟨hb_4, hl_2_3_4, hl_3_4⟩ := hF_4
          refine wpAnyK_done (by kernel_rfl) ?_ _
          have hbz := HB1.out.trans (hb_4.mono HB1.out.size)
          have Lr0 := HL8.out.below hb_4 HL8.out.lt
          have hta0 := TIn.below _ HT1.out hb_4 (Nat.le_refl _)
          have h8s := HL8.out.lt
          have hG0 : GBs w (V8.heap.size + 1) 24 (fun v => #[.int .i64 7, .string (⟨#[]⟩ : ByteArray), .int .i64 0, .int .i64 PL, v]) [.node tk ts tn ta tl] (some ⟨V8.heap.size, 0, none⟩) 1 [.int .i64 tk, .string ts, .int .i64 tn, .int .i64 ta, .slice A2 tl.length (capF tl.length c2)] W_4 := ⟨hbz, Lr0, hl_3_4, owns_five (by omega) hl_2_3_4, (RowTr.nil _ _).snoc (c := c2) (TIn.wide _ hta0 (fun g hg hl => ⟨⟨hg.1, by have := hg.2; omega⟩, fun e => by have := hg.2; have e9 : g = V8.heap.size := Option.some.inj e; omega⟩)), by omega, by simp [Value.ownBlock]⟩
          have h5z := Lies5.out.below hb_4 Lies5.out.lt
          obtain ⟨⟨q0, q1, q2, q3, q4, q5, q6⟩, _⟩ := h5z.seven
          clear hl_2_3_4 hl_3_4 hb_4 hbz Lr0 hta0 HS HT1 HL8 HB1 h5z
          obtain ⟨b6, hb6⟩ : ∃ q, q = V8.heap.size + 1 := ⟨_, rfl⟩
          rw [← hb6] at hG0
          go_wp2_with fail
          try rw [← hb6]
          clear hb6 q0 q1 q2 q3 q4 q5 q6 Lies5
          go_loopw [7] (fun x wr => ∃ (j g' : Nat) (pl : List Tr) (B : Option Addr) (bc : Nat) (xs : List Value), x = .int .i64 j ∧ gMatch (f + 1) l i = gAlts g' l i j pl ∧ 8 * (n - j) + 7 ≤ g' ∧ g' ≤ f ∧ j ≤ n ∧ pl.length ≤ 8 ∧ GBs w b6 24 (fun v => #[.int .i64 7, .string (⟨#[]⟩ : ByteArray), .int .i64 0, .int .i64 PL, v]) pl B bc xs wr) (fun x _ => n + 1 - (intOf x).toNat)
          case atStart => exact ⟨j + 2, f, [.node tk ts tn ta tl], _, 1, _, by go_num, HE3.out, by omega, Nat.le_refl _, by omega, by simp, hG0⟩
          case round =>
            clear hG0
            obtain ⟨j, g', pl, B, bc, xs, rfl, hE, hg1, hg2, hj, hp8, hG⟩ := hrel
            obtain ⟨g', rfl⟩ : ∃ q, g' = q + 1 := ⟨g' - 1, by omega⟩
            have hbw := hG.bw
            have Lr := hG.res
            have hRw := hR.below hbw (Nat.le_refl _)
            have HC := Lib.hid (HAl g' (by omega) j (j : Int) wr rfl (by omega) (by omega) hRw)
            have hpo := (prog_all g').alt l j
            have HE4 : (∀ j2, gAlt g' l j = .error j2 → gMatch (f + 1) l i = .error j2) ∧ (∀ b j2, gAlt g' l j = .ok (b, j2) → (xAt l j2 = [125] → gMatch (f + 1) l i = .ok (.node 7 ⟨#[]⟩ 0 (plAt l i) (pl ++ [b]), j2 + 1)) ∧ (¬ xAt l j2 = [125] → ((xAt l j2 ≠ [124] ∨ pl.length = 8) → gMatch (f + 1) l i = .error j2) ∧ (¬ (xAt l j2 ≠ [124] ∨ pl.length = 8) → gMatch (f + 1) l i = gAlts g' l i (j2 + 1) (pl ++ [b])))) := by
              rw [hE, gAlts]
              refine ⟨fun j2 h => by rw [h], fun b j2 h => ⟨fun hx => by rw [h]; simp only [hx, if_true], fun hx => ⟨fun h2 => by rw [h]; simp only [hx, if_false]; rw [if_pos h2], fun h2 => by rw [h]; simp only [hx, if_false]; rw [if_neg h2]⟩⟩⟩
            rw [← HPL.out] at HE4
            replace HE4 := Lib.hid HE4
            obtain ⟨m, hm⟩ : ∃ m, m = pl.length := ⟨_, rfl⟩
            have HM := Lib.hid hm
            have hm8 : m ≤ 8 := by omega
            clear hE hm
            go_wp2_with fail
            refine HC.out.mono ?_
            intro e V2 hG2
            clear HC
            rcases hG2.split with ⟨j2, hr2, rfl⟩ | ⟨u, j2, A3, cu, hr2, rfl, hT2⟩
            · have HE5 := Lib.hid (HE4.out.1 _ hr2)
              have L9 := (Lr.below hG2.1 Lr.lt).old (.cells #[.int .i64 0, .string ⟨#[]⟩, .int .i64 0, .int .i64 0, .slice none 0 0, .int .i64 j2, .bool false] 68)
              have q9 := L9.seven
              have hb9 := hbw.trans (hG2.1.mono hbw.size)
              have hb9 := hb9.alloc hb9.size (.cells #[.int .i64 0, .string ⟨#[]⟩, .int .i64 0, .int .i64 0, .slice none 0 0, .int .i64 j2, .bool false] 68)
              go_wp2_with fail
              exact bodyPost_ret (res_got (p := 4) Tryz.results61 rfl (Lies.all7 L9 _ _ _ _ _ _ _)) rfl (gpost_err HE5.out hb9)
            · have HE5 := HE4.out.2 _ _ hr2
              replace HE5 := Lib.hid HE5
              have hpr2 := hpo u j2 hr2
              obtain ⟨uk, us, un, ua, ul⟩ := u
              simp only [Tr.kind, Tr.name, Tr.n, Tr.place, Tr.parts]
              have hm5 := hG2.1.alloc hG2.1.size (.cells #[.int .i64 uk, .string us, .int .i64 un, .int .i64 ua, .slice A3 ul.length (capF ul.length cu), .int .i64 j2, .bool true] 68)
              have LU := Lies.new V2 68 #[.int .i64 uk, .string us, .int .i64 un, .int .i64 ua, .slice A3 ul.length (capF ul.length cu), .int .i64 j2, .bool true]
              have hs2 := hG2.1.size
              have hTu := TIn.below _ hT2 ((Below.refl _ V2).alloc (Nat.le_refl _) (.cells #[.int .i64 uk, .string us, .int .i64 un, .int .i64 ua, .slice A3 ul.length (capF ul.length cu), .int .i64 j2, .bool true] 68)) (Nat.le_refl _)
              obtain ⟨b7, hb7⟩ : ∃ b7, b7 = V2.heap.size := ⟨_, rfl⟩
              rw [← hb7] at LU
              have hwb : wr.heap.size ≤ b7 := by omega
              clear hr2 hG2 hT2 Lr hpo HE4
              go_upto_region 13 with fail
              rw [← hb7]
              obtain ⟨V5, hV5⟩ : ∃ q, q = V2.alloc (.cells #[.int .i64 uk, .string us, .int .i64 un, .int .i64 ua, .slice A3 ul.length (capF ul.length cu), .int .i64 j2, .bool true] 68) := ⟨_, rfl⟩
              rw [← hV5] at hm5 LU hTu ⊢
              clear hV5 hb7
              have hG5 := hG.below hm5
              have L75 : Lies V5 b6 24 #[.int .i64 7, .string (⟨#[]⟩ : ByteArray), .int .i64 0, .int .i64 PL, .slice B m bc] := by rw [HM.out]; exact hG5.box
              obtain ⟨⟨q0, q1, q2, q3, q4⟩, _⟩ := L75.five
              obtain ⟨⟨r0, r1, r2, r3, r4, r5, r6⟩, _⟩ := LU.seven
              have hown := hG5.own
              have hlto := hG.own.lt
              rw [← HM.out] at hown
              have h5lt := hG.sz
              have hle5 := hG.le
              have hs5 := hm5.size
              go_wp2_with (at_builtin; refine wpList_append_lies _ rfl _ _ 22 rfl (w.heap.size + 1) 24 i0 _ 5 64 Tryz.underlying22 hi0 hz0 hz1 hz2 rfl (by decide) (.slice B m bc) m xs rfl (own_below hown ((Below.refl _ V5).alloc (Nat.le_refl _) _) (Nat.le_refl _)) ⟨V5.heap.size, 0, none⟩ 1 1 [.int .i64 uk, .string us, .int .i64 un, .int .i64 ua, .slice A3 ul.length (capF ul.length cu)] rfl rfl ?c1 ?c2 (by omega) ?c3 ?c4 ?c5 (V5.heap.size + 1) (by simp) ?_)
              case c1 => exact World.news_of_block (cs := #[.int .i64 uk, .string us, .int .i64 un, .int .i64 ua, .slice A3 ul.length (capF ul.length cu)]) (t := 24) (fr := (0, 0)) (heap_alloc_new V5 _)
              case c2 => simp [Value.oneCell']
              case c3 => first | omega | (simp only [maxLen]; omega)
              case c4 => omega
              case c5 => first | omega | (simp; omega)
              intro gg c3 w7 hown7 hg7 hat hltg
              clear q0 q1 q2 q3 q4 r0 r1 r2 r3 r4 r5 r6
              have hP := hG.push (u := .node uk us un ua ul) (A := A3) (c := cu) (gg := gg) (c3 := c3) (fun _ _ => rfl) hm5 hTu (by rw [← HM.out]; exact hown7) (by rw [← HM.out]; exact hg7) (by rw [← HM.out]; exact hat)
              obtain ⟨hB7, hG7⟩ := hP
              rw [← HM.out] at hB7 hG7
              have L77 : Lies w7 b6 24 #[.int .i64 7, .string (⟨#[]⟩ : ByteArray), .int .i64 0, .int .i64 PL, .slice B m bc] := hB7
              obtain ⟨W8, hW8⟩ : ∃ q, q = w7.setCell ⟨b6, 4, none⟩ (.slice (some ⟨gg, 0, none⟩) (m + 1) c3) := ⟨_, rfl⟩
              have L78 : Lies W8 b6 24 #[.int .i64 7, .string (⟨#[]⟩ : ByteArray), .int .i64 0, .int .i64 PL, .slice (some ⟨gg, 0, none⟩) (m + 1) c3] := by rw [hW8]; simpa using L77.put 4 (.slice (some ⟨gg, 0, none⟩) (m + 1) c3)
              have LU7 := (LU.old (.cells #[.int .i64 uk, .string us, .int .i64 un, .int .i64 ua, .slice A3 ul.length (capF ul.length cu)] 24)).grown hg7 (fun e => by rw [HM.out] at e; have := (hlto _ e.symm).2; omega)
              have LU8 := LU7.far (p := ⟨b6, 4, none⟩) (by show b7 ≠ b6; omega) (.slice (some ⟨gg, 0, none⟩) (m + 1) c3)
              rw [← hW8] at hG7
              have HG9 := Lib.hid hG7
              have hR8 := hR.below hG7.bw (Nat.le_refl _)
              have HX := Lib.hid (gtext_at l _ n c j2 (j2 : Int) W8 rfl T.len (by omega) h6 hR8)
              have HW8 := Lib.hid hW8
              rw [hW8] at HX
              obtain ⟨⟨q0, q1, q2, q3, q4⟩, e0, e1, e2, e3, e4⟩ := L77.five
              obtain ⟨⟨r0, r1, r2, r3, r4, r5, r6⟩, _⟩ := LU8.seven
              clear hown7 hg7 hat hB7 hG7 LU7 LU8 L77 hG5 L75 hown hG hTu hm5 hW8 hRw hbw
              obtain ⟨X, hX⟩ : ∃ X, X = xAt l j2 := ⟨_, rfl⟩
              rw [← hX] at HX HE5
              have HXL := Lib.hid hX
              clear hX
              by_cases hx : X = [125]
              · have hjn : j2 < n := by rw [T.len]; exact xAt_lt (HXL.out.symm.trans hx) (by simp)
                subst hx
                have HE6 := Lib.hid (HE5.out.1 rfl)
                go_wp2_with fail
                refine HX.out.mono ?_
                rintro e w' ⟨rfl, rfl⟩
                rw [← HW8.out]
                clear q0 q1 q2 q3 q4 e0 e1 e2 e3 e4 r0 r1 r2 r3 r4 r5 r6 HX HE5
                obtain ⟨⟨p0, p1, p2, p3, p4⟩, _⟩ := L78.five
                go_wp2_with fail
                refine (gyes_j 7 0 PL (⟨#[]⟩ : ByteArray) (some ⟨gg, 0, none⟩) (m + 1) c3 (j2 + 1) ((j2 : Int) + 1) _ (by simp)).mono ?_
                rintro e w9 ⟨rfl, hb9⟩
                have hGz := HG9.out.below hb9
                have L9 := hGz.res
                have q9 := L9.seven
                clear p0 p1 p2 p3 p4
                go_wp2_with fail
                exact bodyPost_ret (res_got (p := 4) Tryz.results61 rfl (Lies.all7 L9 _ _ _ _ _ _ _)) rfl (gpost_row (j := j2 + 1) (by have := HM.out; simp; omega) hGz.capF HE6.out hGz.bw (hGz.tin 7 0 PL (⟨#[]⟩ : ByteArray) (by decide) (by have := HM.out; simp; omega)))
              · have HE6 := Lib.hid (HE5.out.2 hx)
                have n1 := bytes_ne hx
                have b0 : (X == [125]) = false := beq_eq_false_iff_ne.2 hx
                have HX9 := HX
                rw [← HW8.out] at HX9
                have HN := Lib.hid (gno_j j2 j2 W8 rfl)
                clear HE5
                go_wp2_with fail
                refine HX.out.mono ?_
                rintro e w' ⟨rfl, rfl⟩
                rw [← HW8.out]
                clear q0 q1 q2 q3 q4 e0 e1 e2 e3 e4 r0 r1 r2 r3 r4 r5 r6 HX
                obtain ⟨⟨p0, p1, p2, p3, p4⟩, _⟩ := L78.five
                by_cases hy : X = [124]
                · have hjn : j2 < n := by rw [T.len]; exact xAt_lt (HXL.out.symm.trans hy) (by simp)
                  subst hy
                  by_cases h8 : m = 8
                  · subst h8
                    have HE7 := Lib.hid (HE6.out.1 (.inr HM.out.symm))
                    clear hx n1 b0
                    go_wp2_with fail
                    refine HX9.out.mono ?_
                    rintro e w' ⟨rfl, rfl⟩
                    go_wp2_with fail
                    refine HN.out.mono ?_
                    rintro e V9 ⟨rfl, hb2⟩
                    have hGz := HG9.out.below hb2
                    have L9 := hGz.res
                    have q9 := L9.seven
                    clear p0 p1 p2 p3 p4
                    go_wp2_with fail
                    exact bodyPost_ret (res_got (p := 4) Tryz.results61 rfl (Lies.all7 L9 _ _ _ _ _ _ _)) rfl (gpost_err (j := j2) HE7.out hGz.bw)
                  · have h8i : ¬ (m : Int) + 1 = 9 := by omega
                    have h8b : ((m : Int) + 1 == 9) = false := by simpa using h8i
                    have HE7 := Lib.hid (HE6.out.2 (fun h => h.elim (fun h => h rfl) (fun h => by have := HM.out; omega)))
                    clear hx n1 b0
                    go_wp2_with fail
                    refine HX9.out.mono ?_
                    rintro e w' ⟨rfl, rfl⟩
                    go_wp2_with fail
                    go_roundw
                    case rel =>
                      exact ⟨j2 + 1, g', pl ++ [.node uk us un ua ul], some ⟨gg, 0, none⟩, c3, _, by go_num, by rw [HPL.out] at *; exact HE7.out, by omega, by omega, by omega, by have := HM.out; simp; omega, HG9.out⟩
                    case measure => simp [intOf]; omega
                · have HE7 := Lib.hid (HE6.out.1 (.inl hy))
                  have n2 := bytes_ne hy
                  have b1 : (X == [124]) = false := beq_eq_false_iff_ne.2 hy
                  go_wp2_with fail
                  refine HX9.out.mono ?_
                  rintro e w' ⟨rfl, rfl⟩
                  go_wp2_with fail
                  refine HN.out.mono ?_
                  rintro e V9 ⟨rfl, hb2⟩
                  have hGz := HG9.out.below hb2
                  have L9 := hGz.res
                  have q9 := L9.seven
                  clear p0 p1 p2 p3 p4
                  go_wp2_with fail
                  exact bodyPost_ret (res_got (p := 4) Tryz.results61 rfl (Lies.all7 L9 _ _ _ _ _ _ _)) rfl (gpost_err (j := j2) HE7.out hGz.bw)
        · go_simp
          have hb_5 := Below.alloc hb_1 hb_1.size (.cells #[.int .i64 0, .string (⟨#[]⟩ : ByteArray), .int .i64 0, .int .i64 0, .slice none 0 0] 24)
          have hl_5 : Lies (V8.alloc (.cells #[.int .i64 0, .string (⟨#[]⟩ : ByteArray), .int .i64 0, .int .i64 0, .slice none 0 0] 24)) (V8.heap.size) 24 #[.int .i64 0, .string (⟨#[]⟩ : ByteArray), .int .i64 0, .int .i64 0, .slice none 0 0] := Lies.new _ _ _
          refine hK.out _ _ (fun _ => HS.out _ (hb_5.drew)) (fun hS9 => ?_)
          have hS_5 := hS9 (by decide)
          clear hK K hS9
          try simp only [Act.put, List.setIfInBounds_toArray, List.set_cons_zero, List.set_cons_succ]
          refine wpAnyK_one (i := 7) rfl rfl (by kernel_rfl) (fun K hK => ?_)
          go_simp
          have hb_6 := Below.alloc hb_5 hb_5.size (.cells #[.int .i64 tk, .string ts, .int .i64 tn, .int .i64 ta, .slice A2 tl.length (capF tl.length c2)] 24)
          have hl_6 : Lies ((V8.alloc (.cells #[.int .i64 0, .string (⟨#[]⟩ : ByteArray), .int .i64 0, .int .i64 0, .slice none 0 0] 24)).alloc (.cells #[.int .i64 tk, .string ts, .int .i64 tn, .int .i64 ta, .slice A2 tl.length (capF tl.length c2)] 24)) (V8.heap.size + 1) 24 #[.int .i64 tk, .string ts, .int .i64 tn, .int .i64 ta, .slice A2 tl.length (capF tl.length c2)] := by
            have h9 := Lies.new ((V8.alloc (.cells #[.int .i64 0, .string (⟨#[]⟩ : ByteArray), .int .i64 0, .int .i64 0, .slice none 0 0] 24))) 24 #[.int .i64 tk, .string ts, .int .i64 tn, .int .i64 ta, .slice A2 tl.length (capF tl.length c2)]
            simpa using h9
          have hl_5_6 := hl_5.old (.cells #[.int .i64 tk, .string ts, .int .i64 tn, .int .i64 ta, .slice A2 tl.length (capF tl.length c2)] 24)
          refine hK.out _ _ (fun _ => HS.out _ (hb_6.drew)) (fun hS9 => ?_)
          have hS_6 := hS9 (by decide)
          clear hK K hS9
          try simp only [Act.put, List.setIfInBounds_toArray, List.set_cons_zero, List.set_cons_succ]
          refine wpAnyK_take (i := 8) (oi := ⟨some 43, _, _, _, _, _⟩) (v := .agg #[.int .i64 7, .string (⟨#[]⟩ : ByteArray), .int .i64 0, .int .i64 PL, .slice (some ⟨V8.heap.size + 1, 0, none⟩) 1 1]) rfl (by kernel_rfl) (by kernel_rfl) (by kernel_rfl) (by kernel_rfl) (fun _ _ _ h => h) (.inl ⟨by kernel_rfl, fun W hW => by first | (obtain ⟨z0, z1, z2, z3, z4, z5⟩ := hW; go_simp; done) | (obtain ⟨z0, z1, z2, z3, z4, z5⟩ := hW; go_simp; omega) | (obtain ⟨z0, z1, z2, z3, z4, z5⟩ := hW; go_simp; simp [*]; done)⟩) hS_6 ?_
          try simp only [Act.put, List.setIfInBounds_toArray, List.set_cons_zero, List.set_cons_succ]
          refine wpAnyK_one (i := 10) rfl rfl (by kernel_rfl) (fun K hK => ?_)
          have hlt_7_0 := hl_5_6.lt
          have hlt_7_1 := hl_6.lt
          have hsz_7 := hb_6.size
          refine wp_store_let (F := fun W9 => Below V8.heap.size V8 W9 ∧ Lies W9 (V8.heap.size) 24 #[.int .i64 7, .string (⟨#[]⟩ : ByteArray), .int .i64 0, .int .i64 PL, .slice (some ⟨V8.heap.size + 1, 0, none⟩) 1 1] ∧ Lies W9 (V8.heap.size + 1) 24 #[.int .i64 tk, .string ts, .int .i64 tn, .int .i64 ta, .slice A2 tl.length (capF tl.length c2)]) _ _ _ rfl (V8.heap.size) 0 #[.int .i64 7, .string (⟨#[]⟩ : ByteArray), .int .i64 0, .int .i64 PL, .slice (some ⟨V8.heap.size + 1, 0, none⟩) 1 1] rfl rfl (lies_there hl_5_6.drew rfl) (by kernel_rfl) (by simp [Value.oneCell']) ⟨below_setCells (hb_6.drew) (by omega) _ _, lies_set5 (hl_5_6.drew) (.int .i64 7) (.string (⟨#[]⟩ : ByteArray)) (.int .i64 0) (.int .i64 PL) (.slice (some ⟨V8.heap.size + 1, 0, none⟩) 1 1), lies_setOff (hl_6.drew) (by omega) _ _⟩ (fun W_7 hF_7 => ?_)
          refine hK.out _ _ (fun h => absurd rfl h) (fun _ => ?_)
          clear hK K
          try simp only [Act.put, List.setIfInBounds_toArray]
          obtain ⟨hb_7, hl_5_6_7, hl_6_7⟩ := hF_7
          refine wpAnyK_done (by kernel_rfl) ?_ _
          have hbz := HB1.out.trans (hb_7.mono HB1.out.size)
          have Lr0 := HL8.out.below hb_7 HL8.out.lt
          have hta0 := TIn.below _ HT1.out hb_7 (Nat.le_refl _)
          have h8s := HL8.out.lt
          have hG0 : GBs w (V8.heap.size) 24 (fun v => #[.int .i64 7, .string (⟨#[]⟩ : ByteArray), .int .i64 0, .int .i64 PL, v]) [.node tk ts tn ta tl] (some ⟨V8.heap.size + 1, 0, none⟩) 1 [.int .i64 tk, .string ts, .int .i64 tn, .int .i64 ta, .slice A2 tl.length (capF tl.length c2)] W_7 := ⟨hbz, Lr0, hl_5_6_7, owns_five (by omega) hl_6_7, (RowTr.nil _ _).snoc (c := c2) (TIn.wide _ hta0 (fun g hg hl => ⟨⟨hg.1, by have := hg.2; omega⟩, fun e => by have := hg.2; have e9 : g = V8.heap.size + 1 := Option.some.inj e; omega⟩)), by omega, by simp [Value.ownBlock]⟩
          have h5z := Lies5.out.below hb_7 Lies5.out.lt
          obtain ⟨⟨q0, q1, q2, q3, q4, q5, q6⟩, _⟩ := h5z.seven
          clear hl_5_6_7 hl_6_7 hb_7 hbz Lr0 hta0 HS HT1 HL8 HB1 h5z
          obtain ⟨b6, hb6⟩ : ∃ q, q = V8.heap.size := ⟨_, rfl⟩
          rw [← hb6] at hG0
          go_wp2_with fail
          try rw [← hb6]
          clear hb6 q0 q1 q2 q3 q4 q5 q6 Lies5
          go_loopw [7] (fun x wr => ∃ (j g' : Nat) (pl : List Tr) (B : Option Addr) (bc : Nat) (xs : List Value), x = .int .i64 j ∧ gMatch (f + 1) l i = gAlts g' l i j pl ∧ 8 * (n - j) + 7 ≤ g' ∧ g' ≤ f ∧ j ≤ n ∧ pl.length ≤ 8 ∧ GBs w b6 24 (fun v => #[.int .i64 7, .string (⟨#[]⟩ : ByteArray), .int .i64 0, .int .i64 PL, v]) pl B bc xs wr) (fun x _ => n + 1 - (intOf x).toNat)
          case atStart => exact ⟨j + 2, f, [.node tk ts tn ta tl], _, 1, _, by go_num, HE3.out, by omega, Nat.le_refl _, by omega, by simp, hG0⟩
          case round =>
            clear hG0
            obtain ⟨j, g', pl, B, bc, xs, rfl, hE, hg1, hg2, hj, hp8, hG⟩ := hrel
            obtain ⟨g', rfl⟩ : ∃ q, g' = q + 1 := ⟨g' - 1, by omega⟩
            have hbw := hG.bw
            have Lr := hG.res
            have hRw := hR.below hbw (Nat.le_refl _)
            have HC := Lib.hid (HAl g' (by omega) j (j : Int) wr rfl (by omega) (by omega) hRw)
            have hpo := (prog_all g').alt l j
            have HE4 : (∀ j2, gAlt g' l j = .error j2 → gMatch (f + 1) l i = .error j2) ∧ (∀ b j2, gAlt g' l j = .ok (b, j2) → (xAt l j2 = [125] → gMatch (f + 1) l i = .ok (.node 7 ⟨#[]⟩ 0 (plAt l i) (pl ++ [b]), j2 + 1)) ∧ (¬ xAt l j2 = [125] → ((xAt l j2 ≠ [124] ∨ pl.length = 8) → gMatch (f + 1) l i = .error j2) ∧ (¬ (xAt l j2 ≠ [124] ∨ pl.length = 8) → gMatch (f + 1) l i = gAlts g' l i (j2 + 1) (pl ++ [b])))) := by
              rw [hE, gAlts]
              refine ⟨fun j2 h => by rw [h], fun b j2 h => ⟨fun hx => by rw [h]; simp only [hx, if_true], fun hx => ⟨fun h2 => by rw [h]; simp only [hx, if_false]; rw [if_pos h2], fun h2 => by rw [h]; simp only [hx, if_false]; rw [if_neg h2]⟩⟩⟩
            rw [← HPL.out] at HE4
            replace HE4 := Lib.hid HE4
            obtain ⟨m, hm⟩ : ∃ m, m = pl.length := ⟨_, rfl⟩
            have HM := Lib.hid hm
            have hm8 : m ≤ 8 := by omega
            clear hE hm
            go_wp2_with fail
            refine HC.out.mono ?_
            intro e V2 hG2
            clear HC
            rcases hG2.split with ⟨j2, hr2, rfl⟩ | ⟨u, j2, A3, cu, hr2, rfl, hT2⟩
            · have HE5 := Lib.hid (HE4.out.1 _ hr2)
              have L9 := (Lr.below hG2.1 Lr.lt).old (.cells #[.int .i64 0, .string ⟨#[]⟩, .int .i64 0, .int .i64 0, .slice none 0 0, .int .i64 j2, .bool false] 68)
              have q9 := L9.seven
              have hb9 := hbw.trans (hG2.1.mono hbw.size)
              have hb9 := hb9.alloc hb9.size (.cells #[.int .i64 0, .string ⟨#[]⟩, .int .i64 0, .int .i64 0, .slice none 0 0, .int .i64 j2, .bool false] 68)
              go_wp2_with fail
              exact bodyPost_ret (res_got (p := 4) Tryz.results61 rfl (Lies.all7 L9 _ _ _ _ _ _ _)) rfl (gpost_err HE5.out hb9)
            · have HE5 := HE4.out.2 _ _ hr2
              replace HE5 := Lib.hid HE5
              have hpr2 := hpo u j2 hr2
              obtain ⟨uk, us, un, ua, ul⟩ := u
              simp only [Tr.kind, Tr.name, Tr.n, Tr.place, Tr.parts]
              have hm5 := hG2.1.alloc hG2.1.size (.cells #[.int .i64 uk, .string us, .int .i64 un, .int .i64 ua, .slice A3 ul.length (capF ul.length cu), .int .i64 j2, .bool true] 68)
              have LU := Lies.new V2 68 #[.int .i64 uk, .string us, .int .i64 un, .int .i64 ua, .slice A3 ul.length (capF ul.length cu), .int .i64 j2, .bool true]
              have hs2 := hG2.1.size
              have hTu := TIn.below _ hT2 ((Below.refl _ V2).alloc (Nat.le_refl _) (.cells #[.int .i64 uk, .string us, .int .i64 un, .int .i64 ua, .slice A3 ul.length (capF ul.length cu), .int .i64 j2, .bool true] 68)) (Nat.le_refl _)
              obtain ⟨b7, hb7⟩ : ∃ b7, b7 = V2.heap.size := ⟨_, rfl⟩
              rw [← hb7] at LU
              have hwb : wr.heap.size ≤ b7 := by omega
              clear hr2 hG2 hT2 Lr hpo HE4
              go_upto_region 13 with fail
              rw [← hb7]
              obtain ⟨V5, hV5⟩ : ∃ q, q = V2.alloc (.cells #[.int .i64 uk, .string us, .int .i64 un, .int .i64 ua, .slice A3 ul.length (capF ul.length cu), .int .i64 j2, .bool true] 68) := ⟨_, rfl⟩
              rw [← hV5] at hm5 LU hTu ⊢
              clear hV5 hb7
              have hG5 := hG.below hm5
              have L75 : Lies V5 b6 24 #[.int .i64 7, .string (⟨#[]⟩ : ByteArray), .int .i64 0, .int .i64 PL, .slice B m bc] := by rw [HM.out]; exact hG5.box
              obtain ⟨⟨q0, q1, q2, q3, q4⟩, _⟩ := L75.five
              obtain ⟨⟨r0, r1, r2, r3, r4, r5, r6⟩, _⟩ := LU.seven
              have hown := hG5.own
              have hlto := hG.own.lt
              rw [← HM.out] at hown
              have h5lt := hG.sz
              have hle5 := hG.le
              have hs5 := hm5.size
              go_wp2_with (at_builtin; refine wpList_append_lies _ rfl _ _ 22 rfl (w.heap.size + 1) 24 i0 _ 5 64 Tryz.underlying22 hi0 hz0 hz1 hz2 rfl (by decide) (.slice B m bc) m xs rfl (own_below hown ((Below.refl _ V5).alloc (Nat.le_refl _) _) (Nat.le_refl _)) ⟨V5.heap.size, 0, none⟩ 1 1 [.int .i64 uk, .string us, .int .i64 un, .int .i64 ua, .slice A3 ul.length (capF ul.length cu)] rfl rfl ?c1 ?c2 (by omega) ?c3 ?c4 ?c5 (V5.heap.size + 1) (by simp) ?_)
              case c1 => exact World.news_of_block (cs := #[.int .i64 uk, .string us, .int .i64 un, .int .i64 ua, .slice A3 ul.length (capF ul.length cu)]) (t := 24) (fr := (0, 0)) (heap_alloc_new V5 _)
              case c2 => simp [Value.oneCell']
              case c3 => first | omega | (simp only [maxLen]; omega)
              case c4 => omega
              case c5 => first | omega | (simp; omega)
              intro gg c3 w7 hown7 hg7 hat hltg
              clear q0 q1 q2 q3 q4 r0 r1 r2 r3 r4 r5 r6
              have hP := hG.push (u := .node uk us un ua ul) (A := A3) (c := cu) (gg := gg) (c3 := c3) (fun _ _ => rfl) hm5 hTu (by rw [← HM.out]; exact hown7) (by rw [← HM.out]; exact hg7) (by rw [← HM.out]; exact hat)
              obtain ⟨hB7, hG7⟩ := hP
              rw [← HM.out] at hB7 hG7
              have L77 : Lies w7 b6 24 #[.int .i64 7, .string (⟨#[]⟩ : ByteArray), .int .i64 0, .int .i64 PL, .slice B m bc] := hB7
              obtain ⟨W8, hW8⟩ : ∃ q, q = w7.setCell ⟨b6, 4, none⟩ (.slice (some ⟨gg, 0, none⟩) (m + 1) c3) := ⟨_, rfl⟩
              have L78 : Lies W8 b6 24 #[.int .i64 7, .string (⟨#[]⟩ : ByteArray), .int .i64 0, .int .i64 PL, .slice (some ⟨gg, 0, none⟩) (m + 1) c3] := by rw [hW8]; simpa using L77.put 4 (.slice (some ⟨gg, 0, none⟩) (m + 1) c3)
              have LU7 := (LU.old (.cells #[.int .i64 uk, .string us, .int .i64 un, .int .i64 ua, .slice A3 ul.length (capF ul.length cu)] 24)).grown hg7 (fun e => by rw [HM.out] at e; have := (hlto _ e.symm).2; omega)
              have LU8 := LU7.far (p := ⟨b6, 4, none⟩) (by show b7 ≠ b6; omega) (.slice (some ⟨gg, 0, none⟩) (m + 1) c3)
              rw [← hW8] at hG7
              have HG9 := Lib.hid hG7
              have hR8 := hR.below hG7.bw (Nat.le_refl _)
              have HX := Lib.hid (gtext_at l _ n c j2 (j2 : Int) W8 rfl T.len (by omega) h6 hR8)
              have HW8 := Lib.hid hW8
              rw [hW8] at HX
              obtain ⟨⟨q0, q1, q2, q3, q4⟩, e0, e1, e2, e3, e4⟩ := L77.five
              obtain ⟨⟨r0, r1, r2, r3, r4, r5, r6⟩, _⟩ := LU8.seven
              clear hown7 hg7 hat hB7 hG7 LU7 LU8 L77 hG5 L75 hown hG hTu hm5 hW8 hRw hbw
              obtain ⟨X, hX⟩ : ∃ X, X = xAt l j2 := ⟨_, rfl⟩
              rw [← hX] at HX HE5
              have HXL := Lib.hid hX
              clear hX
              by_cases hx : X = [125]
              · have hjn : j2 < n := by rw [T.len]; exact xAt_lt (HXL.out.symm.trans hx) (by simp)
                subst hx
                have HE6 := Lib.hid (HE5.out.1 rfl)
                go_wp2_with fail
                refine HX.out.mono ?_
                rintro e w' ⟨rfl, rfl⟩
                rw [← HW8.out]
                clear q0 q1 q2 q3 q4 e0 e1 e2 e3 e4 r0 r1 r2 r3 r4 r5 r6 HX HE5
                obtain ⟨⟨p0, p1, p2, p3, p4⟩, _⟩ := L78.five
                go_wp2_with fail
                refine (gyes_j 7 0 PL (⟨#[]⟩ : ByteArray) (some ⟨gg, 0, none⟩) (m + 1) c3 (j2 + 1) ((j2 : Int) + 1) _ (by simp)).mono ?_
                rintro e w9 ⟨rfl, hb9⟩
                have hGz := HG9.out.below hb9
                have L9 := hGz.res
                have q9 := L9.seven
                clear p0 p1 p2 p3 p4
                go_wp2_with fail
                exact bodyPost_ret (res_got (p := 4) Tryz.results61 rfl (Lies.all7 L9 _ _ _ _ _ _ _)) rfl (gpost_row (j := j2 + 1) (by have := HM.out; simp; omega) hGz.capF HE6.out hGz.bw (hGz.tin 7 0 PL (⟨#[]⟩ : ByteArray) (by decide) (by have := HM.out; simp; omega)))
              · have HE6 := Lib.hid (HE5.out.2 hx)
                have n1 := bytes_ne hx
                have b0 : (X == [125]) = false := beq_eq_false_iff_ne.2 hx
                have HX9 := HX
                rw [← HW8.out] at HX9
                have HN := Lib.hid (gno_j j2 j2 W8 rfl)
                clear HE5
                go_wp2_with fail
                refine HX.out.mono ?_
                rintro e w' ⟨rfl, rfl⟩
                rw [← HW8.out]
                clear q0 q1 q2 q3 q4 e0 e1 e2 e3 e4 r0 r1 r2 r3 r4 r5 r6 HX
                obtain ⟨⟨p0, p1, p2, p3, p4⟩, _⟩ := L78.five
                by_cases hy : X = [124]
                · have hjn : j2 < n := by rw [T.len]; exact xAt_lt (HXL.out.symm.trans hy) (by simp)
                  subst hy
                  by_cases h8 : m = 8
                  · subst h8
                    have HE7 := Lib.hid (HE6.out.1 (.inr HM.out.symm))
                    clear hx n1 b0
                    go_wp2_with fail
                    refine HX9.out.mono ?_
                    rintro e w' ⟨rfl, rfl⟩
                    go_wp2_with fail
                    refine HN.out.mono ?_
                    rintro e V9 ⟨rfl, hb2⟩
                    have hGz := HG9.out.below hb2
                    have L9 := hGz.res
                    have q9 := L9.seven
                    clear p0 p1 p2 p3 p4
                    go_wp2_with fail
                    exact bodyPost_ret (res_got (p := 4) Tryz.results61 rfl (Lies.all7 L9 _ _ _ _ _ _ _)) rfl (gpost_err (j := j2) HE7.out hGz.bw)
                  · have h8i : ¬ (m : Int) + 1 = 9 := by omega
                    have h8b : ((m : Int) + 1 == 9) = false := by simpa using h8i
                    have HE7 := Lib.hid (HE6.out.2 (fun h => h.elim (fun h => h rfl) (fun h => by have := HM.out; omega)))
                    clear hx n1 b0
                    go_wp2_with fail
                    refine HX9.out.mono ?_
                    rintro e w' ⟨rfl, rfl⟩
                    go_wp2_with fail
                    go_roundw
                    case rel =>
                      exact ⟨j2 + 1, g', pl ++ [.node uk us un ua ul], some ⟨gg, 0, none⟩, c3, _, by go_num, by rw [HPL.out] at *; exact HE7.out, by omega, by omega, by omega, by have := HM.out; simp; omega, HG9.out⟩
                    case measure => simp [intOf]; omega
                · have HE7 := Lib.hid (HE6.out.1 (.inl hy))
                  have n2 := bytes_ne hy
                  have b1 : (X == [124]) = false := beq_eq_false_iff_ne.2 hy
                  go_wp2_with fail
                  refine HX9.out.mono ?_
                  rintro e w' ⟨rfl, rfl⟩
                  go_wp2_with fail
                  refine HN.out.mono ?_
                  rintro e V9 ⟨rfl, hb2⟩
                  have hGz := HG9.out.below hb2
                  have L9 := hGz.res
                  have q9 := L9.seven
                  clear p0 p1 p2 p3 p4
                  go_wp2_with fail
                  exact bodyPost_ret (res_got (p := 4) Tryz.results61 rfl (Lies.all7 L9 _ _ _ _ _ _ _)) rfl (gpost_err (j := j2) HE7.out hGz.bw)
      · have HE3 := Lib.hid (HE2.out.1 hcu)
        obtain ⟨X, hX⟩ : ∃ X, X = xAt l (j + 1) := ⟨_, rfl⟩
        rw [← hX] at HX3 hcu
        have n1 := bytes_ne hcu
        have b0 : (X == [123]) = false := beq_eq_false_iff_ne.2 hcu
        clear hX HE2
        refine HX3.out.mono ?_
        rintro e w' ⟨rfl, rfl⟩
        go_wp2_with fail
        refine HN2.out.mono ?_
        rintro e V2 ⟨rfl, hb2⟩
        have L9 := L7.below hb2 L7.lt
        have q9 := L9.seven
        have hb9 := hbA.trans (hb2.mono hbA.size)
        clear q0' q1' q2' q3' q4' q5' q6'
        go_wp2_with fail
        exact bodyPost_ret (res_got (p := 4) Tryz.results61 rfl (Lies.all7 L9 _ _ _ _ _ _ _)) rfl (gpost_err (j := j + 1) HE3.out hb9)
    · have HE3 := Lib.hid (HE2.out.1 hof)
      obtain ⟨X, hX⟩ : ∃ X, X = xAt l j := ⟨_, rfl⟩
      rw [← hX] at HX2 hof
      have n1 := bytes_ne hof
      have b0 : (X == [111, 102]) = false := beq_eq_false_iff_ne.2 hof
      rw [HVA.out] at HX2
      clear hX HE2
      go_wp2_with fail
      refine HX2.out.mono ?_
      rintro e w' ⟨rfl, rfl⟩
      rw [← HVA.out]
      clear q0 q1 q2 q3 q4 q5 q6
      rw [HB5.out] at q0' q1' q2' q3' q4' q5' q6'
      go_wp2_with fail
      refine HN.out.mono ?_
      rintro e V2 ⟨rfl, hb2⟩
      have L9 := L7.below hb2 L7.lt
      have q9 := L9.seven
      have hb9 := hbA.trans (hb2.mono hbA.size)
      clear q0' q1' q2' q3' q4' q5' q6'
      go_wp2_with fail
      exact bodyPost_ret (res_got (p := 4) Tryz.results61 rfl (Lies.all7 L9 _ _ _ _ _ _ _)) rfl (gpost_err (j := j) HE3.out hb9)
end Lx
end Go.Proofs.YtobdoahdjbmflaaGreatDoor
namespace Go.Proofs.YtobdoahdjbmflaaGreatDoor
open Go.RowKit
namespace Lx
set_option maxRecDepth 100000
set_option maxHeartbeats 16000000 in
theorem gapp_any {l : List Tok} {A : Option Addr} {n c f : Nat} (T : GTok l n) (HAt : ∀ g, g ≤ f → GC 101 l A n c 1 gAtom g) :
    GC 91 l A n c 2 gApp (f + 1) := by
  intro i x w hx hi hf hR
  subst hx
  by_cases hk : kAt l i = 2
  · exact gappc_any T HAt i w hi hf hR hk
  have h6 := T.few
  have hb0 := below_seven (w := w)
  have hR1 := hR.at_new hb0
  have hL := Lies.new w 68 zero7
  have HC := Lib.hid (HAt f (Nat.le_refl _) i (i : Int) (w.alloc (.cells zero7 68)) rfl hi (by omega) hR1)
  have HE : Hid (∀ r, gAtom f l i = r → gApp (f + 1) l i = (match r with | .error j => .error j | .ok (a, j) => gAppL f l (decide (kAt l i = 2)) a j)) := by
    refine Lib.hid fun r hr => ?_
    rw [gApp, hr]
    all_goals (rcases r with j9 | ⟨b9, j9⟩ <;> rfl)
  have hpo := (prog_all f).atom l i
  go_enter Tryz.func91, Tryz.ntmps91
  go_wp2_with fail
  refine HC.out.mono ?_
  intro e V hG
  have hb := hb0.trans (hG.1.mono hb0.size)
  have L := hL.below hG.1 (by simp)
  have hsz := hG.1.size
  rcases hG.split with ⟨j, hr, rfl⟩ | ⟨t, j, A2, c2, hr, rfl, hT⟩
  · replace HE := Lib.hid (HE.out _ hr)
    have L9 := L.old (.cells #[.int .i64 0, .string ⟨#[]⟩, .int .i64 0, .int .i64 0, .slice none 0 0, .int .i64 j, .bool false] 68)
    have LE := Lies.new V 68 #[.int .i64 0, .string ⟨#[]⟩, .int .i64 0, .int .i64 0, .slice none 0 0, .int .i64 j, .bool false]
    obtain ⟨⟨q0, q1, q2, q3, q4, q5, q6⟩, _⟩ := LE.seven
    have q9 := L9.seven
    have hb9 := hb.alloc hb.size (.cells #[.int .i64 0, .string ⟨#[]⟩, .int .i64 0, .int .i64 0, .slice none 0 0, .int .i64 j, .bool false] 68)
    have hRE := hR.below hb9 (Nat.le_refl _)
    have HK := Lib.hid (gkind_at l A n c i (i : Int) (V.alloc (.cells #[.int .i64 0, .string ⟨#[]⟩, .int .i64 0, .int .i64 0, .slice none 0 0, .int .i64 j, .bool false] 68)) rfl T.len (by omega) h6 hRE)
    obtain ⟨k, hk'⟩ : ∃ k, k = kAt l i := ⟨_, rfl⟩
    rw [← hk'] at HK
    clear hk' hRE
    go_wp2_with fail
    refine HK.out.mono ?_
    rintro e w' ⟨rfl, rfl⟩
    obtain ⟨VE, hVE⟩ : ∃ VE, VE = V.alloc (.cells #[.int .i64 0, .string ⟨#[]⟩, .int .i64 0, .int .i64 0, .slice none 0 0, .int .i64 j, .bool false] 68) := ⟨_, rfl⟩
    go_wp2_with fail
    rw [← hVE]
    rw [← hVE] at L9 q0 q1 q2 q3 q4 q5 q6 q9 hb9
    clear hVE LE HK
    go_loopw [] (fun wr => VE = wr) (fun _ => 0)
    case atStart => exact rfl
    case round =>
      obtain rfl := hrel
      go_wp2_with fail
      exact bodyPost_ret (res_got (p := 4) Tryz.results91 rfl (Lies.all7 L9 _ _ _ _ _ _ _)) rfl (gpost_err HE.out hb9)
  · have hpr := hpo t j hr
    have hln1 : n ≤ l.length := Nat.le_of_eq T.len
    have hln2 : l.length ≤ n := Nat.le_of_eq T.len.symm
    replace HE := Lib.hid (HE.out _ hr)
    obtain ⟨pk, ps, pn, pa, pl⟩ := t
    simp only [Tr.kind, Tr.name, Tr.n, Tr.place, Tr.parts]
    have hbA := hb.alloc hb.size (.cells #[.int .i64 pk, .string ps, .int .i64 pn, .int .i64 pa, .slice A2 pl.length (capF pl.length c2), .int .i64 j, .bool true] 68)
    have Lr := L.old (.cells #[.int .i64 pk, .string ps, .int .i64 pn, .int .i64 pa, .slice A2 pl.length (capF pl.length c2), .int .i64 j, .bool true] 68)
    have L7 := Lies.new V 68 #[.int .i64 pk, .string ps, .int .i64 pn, .int .i64 pa, .slice A2 pl.length (capF pl.length c2), .int .i64 j, .bool true]
    have hwV : w.heap.size + 1 ≤ V.heap.size := by simpa using hsz
    have hT7 := TIn.below _ (TIn.wide _ (Y := fun g => w.heap.size + 1 ≤ g ∧ g ≠ V.heap.size) hT (fun g hg hl => ⟨by simpa using hg, by omega⟩)) ((Below.refl _ V).alloc (Nat.le_refl _) (.cells #[.int .i64 pk, .string ps, .int .i64 pn, .int .i64 pa, .slice A2 pl.length (capF pl.length c2), .int .i64 j, .bool true] 68)) (Nat.le_refl _)
    have hRA := hR.below hbA (Nat.le_refl _)
    have HK := Lib.hid (gkind_at l A n c i (i : Int) (V.alloc (.cells #[.int .i64 pk, .string ps, .int .i64 pn, .int .i64 pa, .slice A2 pl.length (capF pl.length c2), .int .i64 j, .bool true] 68)) rfl T.len (by omega) h6 hRA)
    obtain ⟨b5, hb5⟩ : ∃ b5, b5 = V.heap.size := ⟨_, rfl⟩
    rw [← hb5] at L7 hT7 hwV
    have hk2 : decide (kAt l i = 2) = false := decide_eq_false hk
    have HE1 := HE.out
    rw [hk2] at HE1
    replace HE := Lib.hid HE1
    obtain ⟨k, hk'⟩ : ∃ k, k = kAt l i := ⟨_, rfl⟩
    rw [← hk'] at HK hk
    clear hk' HE1 hk2
    have hk2 : (k == 2) = false := by simpa using hk
    go_wp2_with fail
    refine HK.out.mono ?_
    rintro e w' ⟨rfl, rfl⟩
    go_wp2_with fail
    rw [← hb5]
    obtain ⟨VA, hVA⟩ : ∃ VA, VA = V.alloc (.cells #[.int .i64 pk, .string ps, .int .i64 pn, .int .i64 pa, .slice A2 pl.length (capF pl.length c2), .int .i64 j, .bool true] 68) := ⟨_, rfl⟩
    rw [← hVA] at hbA Lr L7 hT7 ⊢
    clear hVA hb5 hb L hG hsz hL HC hpo hr hT HK hRA
    go_loopw [] (fun wr => ∃ (j g : Nat) (a : Tr) (B : Option Addr) (c2 : Nat), gApp (f + 1) l i = gAppL g l false a j ∧ 8 * (n - j) + 2 ≤ g ∧ g ≤ f ∧ j ≤ n ∧ Below w.heap.size w wr ∧ Lies wr w.heap.size 68 zero7 ∧
      Lies wr b5 68 #[.int .i64 a.kind, .string a.name, .int .i64 a.n, .int .i64 a.place, .slice B a.parts.length (capF a.parts.length c2), .int .i64 j, .bool true] ∧ TIn wr (fun g => w.heap.size + 1 ≤ g ∧ g ≠ b5) a B) (fun wr => n + 1 - jAt wr b5)
    case atStart => exact ⟨j, f, .node pk ps pn pa pl, A2, c2, HE.out, by omega, Nat.le_refl _, by omega, hbA, Lr, L7, hT7⟩
    case round =>
      clear hbA Lr L7 hT7 hpr HE
      obtain ⟨j, g, a, B, c2, hE, hg1, hg2, hj, hbw, Lr, L7, hTa⟩ := hrel
      obtain ⟨g, rfl⟩ : ∃ q, g = q + 1 := ⟨g - 1, by omega⟩
      have hRw := hR.below hbw (Nat.le_refl _)
      obtain ⟨tk, ts, tn, ta, tl⟩ := a
      simp only [Tr.kind, Tr.name, Tr.n, Tr.place, Tr.parts] at L7
      obtain ⟨⟨q0, q1, q2, q3, q4, q5, q6⟩, _⟩ := L7.seven
      have HAC := Lib.hid (gatomic_any l A n c j wr T.len (by omega) h6 hRw)
      have HJ := Lib.hid (jAt_lies L7)
      by_cases ha : atomicA l j = true
      · have HC := Lib.hid (HAt g (by omega) j (j : Int) wr rfl (by omega) (by omega) hRw)
        have hpo := (prog_all g).atom l j
        have HE2 : gAppL (g + 1) l false (.node tk ts tn ta tl) j = (match gAtom g l j with | .error j2 => .error j2 | .ok (b, j2) => gAppL g l false (.node 3 ⟨#[]⟩ 0 ta [.node tk ts tn ta tl, b]) j2) := by
          rw [gAppL, if_pos ha, if_neg (by simp)]
          all_goals (rcases gAtom g l j with j9 | ⟨b9, j9⟩ <;> rfl)
        rw [HE2] at hE
        rw [ha] at HAC
        replace hE := Lib.hid hE
        clear ha HE2
        go_wp2_with fail
        refine HAC.out.mono ?_
        rintro e w' ⟨rfl, rfl⟩
        go_wp2_with fail
        refine HC.out.mono ?_
        intro e V2 hG2
        clear HAC HC
        rcases hG2.split with ⟨j2, hr2, rfl⟩ | ⟨u, j2, A3, c3, hr2, rfl, hT2⟩
        · replace hE := hE.out
          rw [hr2] at hE
          have L9 := (Lr.below hG2.1 Lr.lt).old (.cells #[.int .i64 0, .string ⟨#[]⟩, .int .i64 0, .int .i64 0, .slice none 0 0, .int .i64 j2, .bool false] 68)
          have q9 := L9.seven
          have hb9 := hbw.trans (hG2.1.mono hbw.size)
          have hb9 := hb9.alloc hb9.size (.cells #[.int .i64 0, .string ⟨#[]⟩, .int .i64 0, .int .i64 0, .slice none 0 0, .int .i64 j2, .bool false] 68)
          clear q0 q1 q2 q3 q4 q5 q6
          go_wp2_with fail
          exact bodyPost_ret (res_got (p := 4) Tryz.results91 rfl (Lies.all7 L9 _ _ _ _ _ _ _)) rfl (gpost_err hE hb9)
        · replace hE := hE.out
          rw [hr2] at hE
          have hpr2 := hpo u j2 hr2
          obtain ⟨uk, us, un, ua, ul⟩ := u
          simp only [Tr.kind, Tr.name, Tr.n, Tr.place, Tr.parts]
          have hbb := hbw.trans (hG2.1.mono hbw.size)
          have hs7 := L7.lt
          have hsr := hbw.size
          have hs2 := hG2.1.size
          obtain ⟨O2, hO2⟩ : ∃ O, O = Obj.cells #[.int .i64 uk, .string us, .int .i64 un, .int .i64 ua, .slice A3 ul.length (capF ul.length c3), .int .i64 j2, .bool true] 68 := ⟨_, rfl⟩
          have hb1 := hbb.alloc hbb.size O2
          have L8 := (Lr.below hG2.1 Lr.lt).old O2
          have L78 := (L7.below hG2.1 L7.lt).old O2
          have LU : Lies (V2.alloc O2) V2.heap.size 68 #[.int .i64 uk, .string us, .int .i64 un, .int .i64 ua, .slice A3 ul.length (capF ul.length c3), .int .i64 j2, .bool true] := by rw [hO2]; exact Lies.new V2 _ _
          have hT1 := TIn.below _ (TIn.below _ hTa hG2.1 (Nat.le_refl _)) ((Below.refl _ V2).alloc (Nat.le_refl _) O2) (Nat.le_refl _)
          have hT2 := TIn.below _ (TIn.wide _ (Y := fun g => w.heap.size + 1 ≤ g ∧ g ≠ b5) hT2 (fun g hg _ => by have h9 : wr.heap.size ≤ g := hg; exact ⟨by omega, by omega⟩)) ((Below.refl _ V2).alloc (Nat.le_refl _) O2) (Nat.le_refl _)
          clear q0 q1 q2 q3 q4 q5 q6
          obtain ⟨⟨q0, q1, q2, q3, q4, q5, q6⟩, _⟩ := L78.seven
          obtain ⟨⟨r0, r1, r2, r3, r4, r5, r6⟩, _⟩ := LU.seven
          rw [hO2] at q0 q1 q2 q3 q4 q5 q6 r0 r1 r2 r3 r4 r5 r6
          replace hE := Lib.hid hE
          go_wp2_with fail
          rw [← hO2]
          obtain ⟨V8, hV8⟩ : ∃ V8, V8 = V2.alloc O2 := ⟨_, rfl⟩
          have hs8 : V8.heap.size = V2.heap.size + 1 := by rw [hV8]; simp
          rw [← hV8] at hb1 L8 L78 LU hT1 hT2 ⊢
          clear q0 q1 q2 q3 q4 q5 q6 r0 r1 r2 r3 r4 r5 r6 hO2 hV8
          have hbR := (Below.refl _ V8).alloc (Nat.le_refl _) (.cells #[.int .i64 tk, .string ts, .int .i64 tn, .int .i64 ta, .slice B tl.length (capF tl.length c2), .int .i64 uk, .string us, .int .i64 un, .int .i64 ua, .slice A3 ul.length (capF ul.length c3)] 24)
          have LR := Lies.new V8 24 #[.int .i64 tk, .string ts, .int .i64 tn, .int .i64 ta, .slice B tl.length (capF tl.length c2), .int .i64 uk, .string us, .int .i64 un, .int .i64 ua, .slice A3 ul.length (capF ul.length c3)]
          try rw [← hs8]
          clear hs8
          refine (gyes_j 3 0 ta ⟨#[]⟩ (some ⟨V8.heap.size, 0, none⟩) 2 2 j2 j2 _ rfl).mono ?_
          rintro e w9 ⟨rfl, hb9⟩
          have hbz := hbR.trans (hb9.mono hbR.size)
          have L9 := L8.below hbz L8.lt
          have L79 := L78.below hbz L78.lt
          have LR9 := LR.below hb9 (by simp)
          have h5lt := L78.lt
          have hn9 : TIn w9 (fun g => w.heap.size + 1 ≤ g ∧ g ≠ b5) (.node 3 ⟨#[]⟩ 0 ta [.node tk ts tn ta tl, .node uk us un ua ul]) (some ⟨V8.heap.size, 0, none⟩) := TIn.mk (by decide) (by simp) (LIn.two (c1 := c2) (c2 := c3) LR9 rfl ⟨by omega, by omega⟩ (TIn.below _ hT1 hbz (Nat.le_refl _)) (TIn.below _ hT2 hbz (Nat.le_refl _)))
          have hbq := hb1.trans (hbz.mono hb1.size)
          have q7 := L79.seven
          clear hbR LR LR9 L78 LU hT1 hT2 hb9 hbz hb1 L8 hb0 hR1
          go_wp2_with fail
          go_roundw
          case rel => exact ⟨j2, g, (.node 3 ⟨#[]⟩ 0 ta [.node tk ts tn ta tl, .node uk us un ua ul]), some ⟨V8.heap.size, 0, none⟩, 2, hE.out, by omega, by omega, by omega, Below.all7 hbq (by omega) _ _ _ _ _ _ _, Lies.far7 L9 (by omega) _ _ _ _ _ _ _, Lies.all7 L79 _ _ _ _ _ _ _, TIn.all7 _ hn9 (fun h => h.2 rfl) _ _ _ _ _ _ _⟩
          case measure =>
            have h8 := jAt_lies (Lies.all7 L79 (.int .i64 3) (.string ⟨#[]⟩) (.int .i64 0) (.int .i64 ta) (.slice (some ⟨V8.heap.size, 0, none⟩) 2 2) (.int .i64 j2) (.bool true))
            rw [h8, HJ.out]
            omega
      · have ha' : atomicA l j = false := by simpa using ha
        rw [appL_stop ha'] at hE
        rw [ha'] at HAC
        have L9 := Lr
        have q9 := L9.seven
        replace hE := Lib.hid hE
        clear ha ha'
        go_wp2_with fail
        refine HAC.out.mono ?_
        rintro e w' ⟨rfl, rfl⟩
        go_wp2_with fail
        exact bodyPost_ret (res_got (p := 4) Tryz.results91 rfl (Lies.all7 L9 _ _ _ _ _ _ _)) rfl (gpost_ok (t := .node tk ts tn ta tl) (c := c2) hE.out hbw (TIn.wide _ hTa (fun g hg _ => hg.1)))
end Lx
end Go.Proofs.YtobdoahdjbmflaaGreatDoor
