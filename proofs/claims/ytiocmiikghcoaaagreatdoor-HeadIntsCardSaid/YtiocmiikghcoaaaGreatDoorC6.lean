/-
  Texts that lie one behind the other: GMatch GApp GAll ALen RefAll GParse Sc Te Tm Byx.
-/
import Derived.Test.YtiocmiikghcoaaaGreatDoorC1
import Derived.Test.YtiocmiikghcoaaaGreatDoorC5
import Derived.Test.YtiocmiikghcoaaaGreatDoorC2
import Derived.Test.YtiocmiikghcoaaaGreatDoorC3
import Derived.Deep.AppendLies
import Derived.Deep.Cut
namespace Go.Proofs.YtiocmiikghcoaaaGreatDoor
open Go.RowKit
namespace Lx
set_option maxRecDepth 100000
theorem owns_five {V : World} {base g : Nat} {a b c d e : Value} (hb : base ≤ g) (h : Lies V g 49 #[a, b, c, d, e]) : V.ownsRow base 49 5 (.slice (some ⟨g, 0, none⟩) 1 1) 1 [a, b, c, d, e] :=
 ⟨rfl, .inr ⟨g, 1, #[a, b, c, d, e], rfl, hb, h, Nat.le_refl _, by simp [maxLen], rfl, rfl⟩⟩
def GCM (l : List Tok) (A : Option Addr) (n c f : Nat) : Prop :=
 ∀ (i : Nat) (x : Int) (w : World), x = (i : Int) → i < n → 8 * (n - i) + 6 ≤ f → Row w A l → Calls Tryz.prog 75 #[.slice A n c, .int .i64 x] w (GPost w (gMatch f l i))
set_option maxHeartbeats 16000000 in
theorem gmatch_any {l : List Tok} {A : Option Addr} {n c f : Nat} (T : GTok l n) (HX0 : GC 49 l A n c 7 gExpr f) (HAl : ∀ g, g ≤ f → GC 105 l A n c 6 gAlt g) : GCM l A n c (f + 1) := by
 intro i x w hx hi hf hR
 subst hx
 have h6 := T.few
 have hb0 := below_seven (w := w)
 have hR1 := hR.at_new hb0
 have hL := Lies.new w 72 zero7
 have hln1 : n ≤ l.length := Nat.le_of_eq T.len
 have hln2 : l.length ≤ n := Nat.le_of_eq T.len.symm
 have HC := Lib.hid (HX0 (i + 1) ((i : Int) + 1) (w.alloc (.cells zero7 72)) (by simp) (by omega) (by omega) hR1)
 have HE : Hid ((∀ j, gExpr f l (i + 1) = .error j → gMatch (f + 1) l i = .error j) ∧ (∀ a j, gExpr f l (i + 1) = .ok (a, j) → (¬ xAt l j = [111, 102] → gMatch (f + 1) l i = .error j) ∧ (xAt l j = [111, 102] → (¬ xAt l (j + 1) = [123] → gMatch (f + 1) l i = .error (j + 1)) ∧ (xAt l (j + 1) = [123] → gMatch (f + 1) l i = gAlts f l i (j + 2) [a])))) := by
  refine Lib.hid ⟨fun j h => by rw [gMatch, h], fun a j h => ⟨fun hx => ?_, fun hx => ⟨fun hy => ?_, fun hy => ?_⟩⟩⟩
  ·rw [gMatch, h]
   simp only [show (ofS : List UInt8) = [111, 102] from rfl, hx, ne_eq, not_false_eq_true, if_true]
  ·rw [gMatch, h]
   simp only [show (ofS : List UInt8) = [111, 102] from rfl, hx, hy, ne_eq, not_true_eq_false, not_false_eq_true, if_true, if_false]
  ·rw [gMatch, h]
   simp only [show (ofS : List UInt8) = [111, 102] from rfl, hx, hy, ne_eq, not_true_eq_false, if_false]
 obtain ⟨i0, hi0, hz0, hz1, hz2⟩ := info_parts infoT
 go_enter Tryz.func75, Tryz.ntmps75
 go_wp2_with fail
 refine HC.out.mono ?_
 intro e V hG
 have hb := hb0.trans (hG.1.mono hb0.size)
 have L := hL.below hG.1 (by simp)
 have hsz := hG.1.size
 rcases hG.split with ⟨j, hr, rfl⟩ | ⟨t, j, A2, c2, hr, rfl, hT⟩
 ·have HE2 := Lib.hid (HE.out.1 _ hr)
  have L9 := L.old (.cells #[.int .i64 0, .string ⟨#[]⟩, .int .i64 0, .int .i64 0, .slice none 0 0, .int .i64 j, .bool false] 72)
  have q9 := L9.seven
  have hb9 := hb.alloc hb.size (.cells #[.int .i64 0, .string ⟨#[]⟩, .int .i64 0, .int .i64 0, .slice none 0 0, .int .i64 j, .bool false] 72)
  go_wp2_with fail
  exact bodyPost_ret (res_got (p := 4) Tryz.results75 rfl (Lies.all7 L9 _ _ _ _ _ _ _)) rfl (gpost_err HE2.out hb9)
 ·have HE2 := Lib.hid (HE.out.2 _ _ hr)
  have hpr := (prog_all f).expr l (i + 1) t j hr
  obtain ⟨tk, ts, tn, ta, tl⟩ := t
  simp only [Tr.kind, Tr.name, Tr.n, Tr.place, Tr.parts]
  have hbA := hb.alloc hb.size (.cells #[.int .i64 tk, .string ts, .int .i64 tn, .int .i64 ta, .slice A2 tl.length (capF tl.length c2), .int .i64 j, .bool true] 72)
  have L7 := L.old (.cells #[.int .i64 tk, .string ts, .int .i64 tn, .int .i64 ta, .slice A2 tl.length (capF tl.length c2), .int .i64 j, .bool true] 72)
  have LT := Lies.new V 72 #[.int .i64 tk, .string ts, .int .i64 tn, .int .i64 ta, .slice A2 tl.length (capF tl.length c2), .int .i64 j, .bool true]
  have hT7 := TIn.below _ (TIn.wide _ (Y := fun g => w.heap.size + 1 ≤ g) hT (fun g hg _ => by simpa using hg)) ((Below.refl _ V).alloc (Nat.le_refl _) (.cells #[.int .i64 tk, .string ts, .int .i64 tn, .int .i64 ta, .slice A2 tl.length (capF tl.length c2), .int .i64 j, .bool true] 72)) (Nat.le_refl _)
  have hRA := hR.below hbA (Nat.le_refl _)
  obtain ⟨VA, hVA⟩ : ∃ VA, VA = V.alloc (.cells #[.int .i64 tk, .string ts, .int .i64 tn, .int .i64 ta, .slice A2 tl.length (capF tl.length c2), .int .i64 j, .bool true] 72) := ⟨_, rfl⟩
  rw [← hVA] at hbA L7 LT hT7 hRA
  have HX2 := Lib.hid (gtext_at l A n c j (j : Int) VA rfl T.len (by omega) h6 hRA)
  have HX3 := Lib.hid (gtext_at l A n c (j + 1) ((j : Int) + 1) VA (by simp) T.len (by omega) h6 hRA)
  have HN := Lib.hid (gno_j j j VA rfl)
  have HN2 := Lib.hid (gno_j (j + 1) ((j : Int) + 1) VA (by simp))
  obtain ⟨b5, hb5'⟩ : ∃ b5, b5 = V.heap.size := ⟨_, rfl⟩
  rw [← hb5'] at LT
  have hVs : w.heap.size + 1 ≤ b5 := by rw [hb5']; simpa using hsz
  obtain ⟨⟨q0, q1, q2, q3, q4, q5, q6⟩, _⟩ := LT.seven
  have q0' := q0
  have q1' := q1
  have q2' := q2
  have q3' := q3
  have q4' := q4
  have q5' := q5
  have q6' := q6
  rw [hb5', hVA] at q0 q1 q2 q3 q4 q5 q6
  have HVA := Lib.hid hVA
  have HB5 := Lib.hid hb5'
  clear hVA hb5' hr hG hT HC HE hb0 hR1 hL L hb hsz
  by_cases hof : xAt l j = [111, 102]
  ·have hjn : j < n := by rw [T.len]; exact xAt_lt hof (by simp)
   replace HE2 := Lib.hid (HE2.out.2 hof)
   rw [hof] at HX2
   rw [HVA.out] at HX2
   clear hof
   go_wp2_with fail
   refine HX2.out.mono ?_
   rintro e w' ⟨rfl, rfl⟩
   go_wp2_with fail
   rw [← HVA.out, ← HB5.out]
   clear q0 q1 q2 q3 q4 q5 q6 HX2
   by_cases hcu : xAt l (j + 1) = [123]
   ·have hjn1 : j + 1 < n := by rw [T.len]; exact xAt_lt hcu (by simp)
    replace HE2 := Lib.hid (HE2.out.2 hcu)
    rw [hcu] at HX3
    clear hcu
    refine HX3.out.mono ?_
    rintro e w' ⟨rfl, rfl⟩
    go_upto_region 8 with fail
    obtain ⟨V8, hV8⟩ : ∃ q, q = VA := ⟨_, rfl⟩
    rw [← hV8] at hbA L7 LT hT7 hRA q0' q1' q2' q3' q4' ⊢
    obtain ⟨g, o, rfl, -, -, -, c3'⟩ := hRA.get (i := i) (by rw [← T.len]; omega)
    obtain ⟨PL, hPL⟩ : ∃ q, q = plAt l i := ⟨_, rfl⟩
    have HPL := Lib.hid hPL
    rw [← hPL] at c3'
    have HS : Hid (∀ V', Below V8.heap.size V8 V' → (fun V' : World => (V'.cell? ⟨g, o + i * 4 + 3, none⟩ = some (.int .i64 PL) ∧ V'.cell? ⟨b5, 0, none⟩ = some (.int .i64 tk) ∧ V'.cell? ⟨b5, 1, none⟩ = some (.string ts) ∧ V'.cell? ⟨b5, 2, none⟩ = some (.int .i64 tn) ∧ V'.cell? ⟨b5, 3, none⟩ = some (.int .i64 ta) ∧ V'.cell? ⟨b5, 4, none⟩ = some (.slice A2 tl.length (capF tl.length c2)))) V') := Lib.hid fun V' h =>
     ⟨(h.cell (p := ⟨g, _, none⟩) (cell_lt c3')).trans c3', (h.cell (p := ⟨b5, 0, none⟩) LT.lt).trans (LT.cell 0), (h.cell (p := ⟨b5, 1, none⟩) LT.lt).trans (LT.cell 1), (h.cell (p := ⟨b5, 2, none⟩) LT.lt).trans (LT.cell 2), (h.cell (p := ⟨b5, 3, none⟩) LT.lt).trans (LT.cell 3), (h.cell (p := ⟨b5, 4, none⟩) LT.lt).trans (LT.cell 4)⟩
    have HB1 := Lib.hid hbA
    have HL8 := Lib.hid L7
    have HT1 := Lib.hid (TIn.wide _ hT7 (Y := fun g => w.heap.size + 1 ≤ g ∧ g < V8.heap.size) (fun g hg hl => ⟨hg, hl⟩))
    have HE3 := HE2
    have Lies5 := Lib.hid LT
    have h5lt8 := LT.lt
    clear hV8 hbA L7 LT hT7 hRA c3' hPL q0' q1' q2' q3' q4' q5' q6' HX3 HN HN2 HE2 HVA HB5
    have hb_1 : Below V8.heap.size V8 V8 := Below.refl _ _
    refine wp_region_K (S := (fun V' : World => (V'.cell? ⟨g, o + i * 4 + 3, none⟩ = some (.int .i64 PL) ∧ V'.cell? ⟨b5, 0, none⟩ = some (.int .i64 tk) ∧ V'.cell? ⟨b5, 1, none⟩ = some (.string ts) ∧ V'.cell? ⟨b5, 2, none⟩ = some (.int .i64 tn) ∧ V'.cell? ⟨b5, 3, none⟩ = some (.int .i64 ta) ∧ V'.cell? ⟨b5, 4, none⟩ = some (.slice A2 tl.length (capF tl.length c2))))) 10 rfl (HS.out _ hb_1.drew) (fun hSs => ?_)
    change wpAnyK _ _ _ _ _ _ 11 (Array.replicate 11 false) _ _
    refine tkB (i := 0) (oi := ⟨some 35, _, _, _, _, _⟩) (v := .slice (some ⟨g, o, none⟩) n c) hSs ?_
    try go_frame
    refine tkB (i := 1) (oi := ⟨some 36, _, _, _, _, _⟩) (v := .int .i64 i) hSs ?_
    try go_frame
    refine tkA (i := 2) (oi := ⟨some 37, _, _, _, _, _⟩) (v := .pointer (some ⟨g, o + i * 4, none⟩)) hSs ?_
    try go_frame
    refine tkA (i := 3) (oi := ⟨some 38, _, _, _, _, _⟩) (v := .pointer (some ⟨g, o + i * 4 + 3, none⟩)) hSs ?_
    try go_frame
    refine tkA (i := 4) (oi := ⟨some 39, _, _, _, _, _⟩) (v := .int .i64 PL) hSs ?_
    try go_frame
    refine tkA (i := 5) (oi := ⟨some 40, _, _, _, _, _⟩) (v := .pointer (some ⟨b5, 0, none⟩)) hSs ?_
    try go_frame
    refine tkA (i := 6) (oi := ⟨some 41, _, _, _, _, _⟩) (v := .agg #[.int .i64 tk, .string ts, .int .i64 tn, .int .i64 ta, .slice A2 tl.length (capF tl.length c2)]) hSs ?_
    try go_frame
    refine wpAnyK_two (i := 7) (j := 9) rfl rfl rfl rfl (by kernel_rfl) (fun K hK => ?_) (fun K hK => ?_)
    ·go_simp
     have hb_2 := Below.alloc hb_1 hb_1.size (.cells #[.int .i64 tk, .string ts, .int .i64 tn, .int .i64 ta, .slice A2 tl.length (capF tl.length c2)] 49)
     have hl_2 : Lies (V8.alloc (.cells #[.int .i64 tk, .string ts, .int .i64 tn, .int .i64 ta, .slice A2 tl.length (capF tl.length c2)] 49)) (V8.heap.size) 49 #[.int .i64 tk, .string ts, .int .i64 tn, .int .i64 ta, .slice A2 tl.length (capF tl.length c2)] := Lies.new _ _ _
     refine hK.out _ _ (fun _ => HS.out _ (hb_2.drew)) (fun hS9 => ?_)
     have hS_2 := hS9 (by decide)
     clear hK K hS9
     try go_frame
     refine tkA (i := 8) (oi := ⟨some 43, _, _, _, _, _⟩) (v := .agg #[.int .i64 7, .string (⟨#[]⟩ : ByteArray), .int .i64 0, .int .i64 PL, .slice (some ⟨V8.heap.size, 0, none⟩) 1 1]) hS_2 ?_
     try go_frame
     refine wpAnyK_one (i := 9) rfl rfl (by kernel_rfl) (fun K hK => ?_)
     go_simp
     have hb_3 := Below.alloc hb_2 hb_2.size (.cells #[.int .i64 0, .string (⟨#[]⟩ : ByteArray), .int .i64 0, .int .i64 0, .slice none 0 0] 49)
     have hl_3 : Lies ((V8.alloc (.cells #[.int .i64 tk, .string ts, .int .i64 tn, .int .i64 ta, .slice A2 tl.length (capF tl.length c2)] 49)).alloc (.cells #[.int .i64 0, .string (⟨#[]⟩ : ByteArray), .int .i64 0, .int .i64 0, .slice none 0 0] 49)) (V8.heap.size + 1) 49 #[.int .i64 0, .string (⟨#[]⟩ : ByteArray), .int .i64 0, .int .i64 0, .slice none 0 0] := by
      have h9 := Lies.new ((V8.alloc (.cells #[.int .i64 tk, .string ts, .int .i64 tn, .int .i64 ta, .slice A2 tl.length (capF tl.length c2)] 49))) 49 #[.int .i64 0, .string (⟨#[]⟩ : ByteArray), .int .i64 0, .int .i64 0, .slice none 0 0]
      simpa using h9
     have hl_2_3 := hl_2.old (.cells #[.int .i64 0, .string (⟨#[]⟩ : ByteArray), .int .i64 0, .int .i64 0, .slice none 0 0] 49)
     refine hK.out _ _ (fun _ => HS.out _ (hb_3.drew)) (fun hS9 => ?_)
     have hS_3 := hS9 (by decide)
     clear hK K hS9
     try go_frame
     refine wpAnyK_one (i := 10) rfl rfl (by kernel_rfl) (fun K hK => ?_)
     have hlt_4_0 := hl_2_3.lt
     have hlt_4_1 := hl_3.lt
     have hsz_4 := hb_3.size
     refine wp_store_let (F := fun W9 => Below V8.heap.size V8 W9 ∧ Lies W9 (V8.heap.size) 49 #[.int .i64 tk, .string ts, .int .i64 tn, .int .i64 ta, .slice A2 tl.length (capF tl.length c2)] ∧ Lies W9 (V8.heap.size + 1) 49 #[.int .i64 7, .string (⟨#[]⟩ : ByteArray), .int .i64 0, .int .i64 PL, .slice (some ⟨V8.heap.size, 0, none⟩) 1 1]) _ _ _ rfl (V8.heap.size + 1) 0 #[.int .i64 7, .string (⟨#[]⟩ : ByteArray), .int .i64 0, .int .i64 PL, .slice (some ⟨V8.heap.size, 0, none⟩) 1 1] rfl rfl (lies_there hl_3.drew rfl) (by kernel_rfl) (by simp [Value.oneCell']) ⟨below_setCells (hb_3.drew) (by omega) _ _, lies_setOff (hl_2_3.drew) (by omega) _ _, lies_set5 (hl_3.drew) (.int .i64 7) (.string (⟨#[]⟩ : ByteArray)) (.int .i64 0) (.int .i64 PL) (.slice (some ⟨V8.heap.size, 0, none⟩) 1 1)⟩ (fun W_4 hF_4 => ?_)
     refine hK.out _ _ (fun h => absurd rfl h) (fun _ => ?_)
     clear hK K
     try go_frame
     obtain ⟨hb_4, hl_2_3_4, hl_3_4⟩ := hF_4
     refine wpAnyK_done (by kernel_rfl) ?_ _
     have hbz := HB1.out.trans (hb_4.mono HB1.out.size)
     have Lr0 := HL8.out.below hb_4 HL8.out.lt
     have hta0 := TIn.below _ HT1.out hb_4 (Nat.le_refl _)
     have h8s := HL8.out.lt
     have hG0 : GBs w (V8.heap.size + 1) 49 (fun v => #[.int .i64 7, .string (⟨#[]⟩ : ByteArray), .int .i64 0, .int .i64 PL, v]) [.node tk ts tn ta tl] (some ⟨V8.heap.size, 0, none⟩) 1 [.int .i64 tk, .string ts, .int .i64 tn, .int .i64 ta, .slice A2 tl.length (capF tl.length c2)] W_4 := ⟨hbz, Lr0, hl_3_4, owns_five (by omega) hl_2_3_4, (RowTr.nil _ _).snoc (c := c2) (TIn.wide _ hta0 (fun g hg hl => ⟨⟨hg.1, by have := hg.2; omega⟩, fun e => by have := hg.2; have e9 : g = V8.heap.size := Option.some.inj e; omega⟩)), by omega, by simp [Value.ownBlock]⟩
     have h5z := Lies5.out.below hb_4 Lies5.out.lt
     obtain ⟨⟨q0, q1, q2, q3, q4, q5, q6⟩, _⟩ := h5z.seven
     clear hl_2_3_4 hl_3_4 hb_4 hbz Lr0 hta0 HS HT1 HL8 HB1 h5z
     obtain ⟨b6, hb6⟩ : ∃ q, q = V8.heap.size + 1 := ⟨_, rfl⟩
     rw [← hb6] at hG0
     go_wp2_with fail
     try rw [← hb6]
     clear hb6 q0 q1 q2 q3 q4 q5 q6 Lies5
     go_loopw [7] (fun x wr => ∃ (j g' : Nat) (pl : List Tr) (B : Option Addr) (bc : Nat) (xs : List Value), x = .int .i64 j ∧ gMatch (f + 1) l i = gAlts g' l i j pl ∧ 8 * (n - j) + 7 ≤ g' ∧ g' ≤ f ∧ j ≤ n ∧ pl.length ≤ 8 ∧ GBs w b6 49 (fun v => #[.int .i64 7, .string (⟨#[]⟩ : ByteArray), .int .i64 0, .int .i64 PL, v]) pl B bc xs wr) (fun x _ => n + 1 - (intOf x).toNat)
     case atStart => exact ⟨j + 2, f, [.node tk ts tn ta tl], _, 1, _, by go_num, HE3.out, by omega, Nat.le_refl _, by omega, by simp, hG0⟩
     case round =>
      clear hG0
      obtain ⟨j, g', pl, B, bc, xs, rfl, hE, hg1, hg2, hj, hp8, hG⟩ := hrel
      obtain ⟨g', rfl⟩ : ∃ q, g' = q + 1 := ⟨g' - 1, by omega⟩
      have hbw := hG.bw
      have Lr := hG.res
      have hRw := hR.below hbw (Nat.le_refl _)
      have HC := Lib.hid (HAl g' (by omega) j (j : Int) wr rfl (by omega) (by omega) hRw)
      have hpo := (prog_all g').alt l j
      have HE4 : (∀ j2, gAlt g' l j = .error j2 → gMatch (f + 1) l i = .error j2) ∧ (∀ b j2, gAlt g' l j = .ok (b, j2) → (xAt l j2 = [125] → gMatch (f + 1) l i = .ok (.node 7 ⟨#[]⟩ 0 (plAt l i) (pl ++ [b]), j2 + 1)) ∧ (¬ xAt l j2 = [125] → ((xAt l j2 ≠ [124] ∨ pl.length = 8) → gMatch (f + 1) l i = .error j2) ∧ (¬ (xAt l j2 ≠ [124] ∨ pl.length = 8) → gMatch (f + 1) l i = gAlts g' l i (j2 + 1) (pl ++ [b])))) := by
       rw [hE, gAlts]
       refine ⟨fun j2 h => by rw [h], fun b j2 h => ⟨fun hx => by rw [h]; simp only [hx, if_true], fun hx => ⟨fun h2 => by rw [h]; simp only [hx, if_false]; rw [if_pos h2], fun h2 => by rw [h]; simp only [hx, if_false]; rw [if_neg h2]⟩⟩⟩
      rw [← HPL.out] at HE4
      replace HE4 := Lib.hid HE4
      obtain ⟨m, hm⟩ : ∃ m, m = pl.length := ⟨_, rfl⟩
      have HM := Lib.hid hm
      have hm8 : m ≤ 8 := by omega
      clear hE hm
      go_wp2_with fail
      refine HC.out.mono ?_
      intro e V2 hG2
      clear HC
      rcases hG2.split with ⟨j2, hr2, rfl⟩ | ⟨u, j2, A3, cu, hr2, rfl, hT2⟩
      ·have HE5 := Lib.hid (HE4.out.1 _ hr2)
       have L9 := (Lr.below hG2.1 Lr.lt).old (.cells #[.int .i64 0, .string ⟨#[]⟩, .int .i64 0, .int .i64 0, .slice none 0 0, .int .i64 j2, .bool false] 72)
       have q9 := L9.seven
       have hb9 := hbw.trans (hG2.1.mono hbw.size)
       have hb9 := hb9.alloc hb9.size (.cells #[.int .i64 0, .string ⟨#[]⟩, .int .i64 0, .int .i64 0, .slice none 0 0, .int .i64 j2, .bool false] 72)
       go_wp2_with fail
       exact bodyPost_ret (res_got (p := 4) Tryz.results75 rfl (Lies.all7 L9 _ _ _ _ _ _ _)) rfl (gpost_err HE5.out hb9)
      ·have HE5 := HE4.out.2 _ _ hr2
       replace HE5 := Lib.hid HE5
       have hpr2 := hpo u j2 hr2
       obtain ⟨uk, us, un, ua, ul⟩ := u
       simp only [Tr.kind, Tr.name, Tr.n, Tr.place, Tr.parts]
       have hm5 := hG2.1.alloc hG2.1.size (.cells #[.int .i64 uk, .string us, .int .i64 un, .int .i64 ua, .slice A3 ul.length (capF ul.length cu), .int .i64 j2, .bool true] 72)
       have LU := Lies.new V2 72 #[.int .i64 uk, .string us, .int .i64 un, .int .i64 ua, .slice A3 ul.length (capF ul.length cu), .int .i64 j2, .bool true]
       have hs2 := hG2.1.size
       have hTu := TIn.below _ hT2 ((Below.refl _ V2).alloc (Nat.le_refl _) (.cells #[.int .i64 uk, .string us, .int .i64 un, .int .i64 ua, .slice A3 ul.length (capF ul.length cu), .int .i64 j2, .bool true] 72)) (Nat.le_refl _)
       obtain ⟨b7, hb7⟩ : ∃ b7, b7 = V2.heap.size := ⟨_, rfl⟩
       rw [← hb7] at LU
       have hwb : wr.heap.size ≤ b7 := by omega
       clear hr2 hG2 hT2 Lr hpo HE4
       go_upto_region 13 with fail
       rw [← hb7]
       obtain ⟨V5, hV5⟩ : ∃ q, q = V2.alloc (.cells #[.int .i64 uk, .string us, .int .i64 un, .int .i64 ua, .slice A3 ul.length (capF ul.length cu), .int .i64 j2, .bool true] 72) := ⟨_, rfl⟩
       rw [← hV5] at hm5 LU hTu ⊢
       clear hV5 hb7
       have hG5 := hG.below hm5
       have L75 : Lies V5 b6 49 #[.int .i64 7, .string (⟨#[]⟩ : ByteArray), .int .i64 0, .int .i64 PL, .slice B m bc] := by rw [HM.out]; exact hG5.box
       obtain ⟨⟨q0, q1, q2, q3, q4⟩, _⟩ := L75.five
       obtain ⟨⟨r0, r1, r2, r3, r4, r5, r6⟩, _⟩ := LU.seven
       have hown := hG5.own
       have hlto := hG.own.lt
       rw [← HM.out] at hown
       have h5lt := hG.sz
       have hle5 := hG.le
       have hs5 := hm5.size
       go_wp2_with (at_builtin; refine wpList_append_lies _ rfl _ _ 47 rfl (w.heap.size + 1) 49 i0 _ 5 64 Tryz.underlying47 hi0 hz0 hz1 hz2 rfl (by decide) (.slice B m bc) m xs rfl (own_below hown ((Below.refl _ V5).alloc (Nat.le_refl _) _) (Nat.le_refl _)) ⟨V5.heap.size, 0, none⟩ 1 1 [.int .i64 uk, .string us, .int .i64 un, .int .i64 ua, .slice A3 ul.length (capF ul.length cu)] rfl rfl ?c1 ?c2 (by omega) ?c3 ?c4 ?c5 (V5.heap.size + 1) (by simp) ?_)
       case c1 => exact World.news_of_block (cs := #[.int .i64 uk, .string us, .int .i64 un, .int .i64 ua, .slice A3 ul.length (capF ul.length cu)]) (t := 49) (fr := (0, 0)) (heap_alloc_new V5 _)
       case c2 => simp [Value.oneCell']
       case c3 => first | omega | (simp only [maxLen]; omega)
       case c4 => omega
       case c5 => first | omega | (simp; omega)
       intro gg c3 w7 hown7 hg7 hat hltg
       clear q0 q1 q2 q3 q4 r0 r1 r2 r3 r4 r5 r6
       have hP := hG.push (u := .node uk us un ua ul) (A := A3) (c := cu) (gg := gg) (c3 := c3) (fun _ _ => rfl) hm5 hTu (by rw [← HM.out]; exact hown7) (by rw [← HM.out]; exact hg7) (by rw [← HM.out]; exact hat)
       obtain ⟨hB7, hG7⟩ := hP
       rw [← HM.out] at hB7 hG7
       have L77 : Lies w7 b6 49 #[.int .i64 7, .string (⟨#[]⟩ : ByteArray), .int .i64 0, .int .i64 PL, .slice B m bc] := hB7
       obtain ⟨W8, hW8⟩ : ∃ q, q = w7.setCell ⟨b6, 4, none⟩ (.slice (some ⟨gg, 0, none⟩) (m + 1) c3) := ⟨_, rfl⟩
       have L78 : Lies W8 b6 49 #[.int .i64 7, .string (⟨#[]⟩ : ByteArray), .int .i64 0, .int .i64 PL, .slice (some ⟨gg, 0, none⟩) (m + 1) c3] := by rw [hW8]; simpa using L77.put 4 (.slice (some ⟨gg, 0, none⟩) (m + 1) c3)
       have LU7 := (LU.old (.cells #[.int .i64 uk, .string us, .int .i64 un, .int .i64 ua, .slice A3 ul.length (capF ul.length cu)] 49)).grown hg7 (fun e => by rw [HM.out] at e; have := (hlto _ e.symm).2; omega)
       have LU8 := LU7.far (p := ⟨b6, 4, none⟩) (by show b7 ≠ b6; omega) (.slice (some ⟨gg, 0, none⟩) (m + 1) c3)
       rw [← hW8] at hG7
       have HG9 := Lib.hid hG7
       have hR8 := hR.below hG7.bw (Nat.le_refl _)
       have HX := Lib.hid (gtext_at l _ n c j2 (j2 : Int) W8 rfl T.len (by omega) h6 hR8)
       have HW8 := Lib.hid hW8
       rw [hW8] at HX
       obtain ⟨⟨q0, q1, q2, q3, q4⟩, e0, e1, e2, e3, e4⟩ := L77.five
       obtain ⟨⟨r0, r1, r2, r3, r4, r5, r6⟩, _⟩ := LU8.seven
       clear hown7 hg7 hat hB7 hG7 LU7 LU8 L77 hG5 L75 hown hG hTu hm5 hW8 hRw hbw
       obtain ⟨X, hX⟩ : ∃ X, X = xAt l j2 := ⟨_, rfl⟩
       rw [← hX] at HX HE5
       have HXL := Lib.hid hX
       clear hX
       by_cases hx : X = [125]
       ·have hjn : j2 < n := by rw [T.len]; exact xAt_lt (HXL.out.symm.trans hx) (by simp)
        subst hx
        have HE6 := Lib.hid (HE5.out.1 rfl)
        go_wp2_with fail
        refine HX.out.mono ?_
        rintro e w' ⟨rfl, rfl⟩
        rw [← HW8.out]
        clear q0 q1 q2 q3 q4 e0 e1 e2 e3 e4 r0 r1 r2 r3 r4 r5 r6 HX HE5
        obtain ⟨⟨p0, p1, p2, p3, p4⟩, _⟩ := L78.five
        go_wp2_with fail
        refine (gyes_j 7 0 PL (⟨#[]⟩ : ByteArray) (some ⟨gg, 0, none⟩) (m + 1) c3 (j2 + 1) ((j2 : Int) + 1) _ (by simp)).mono ?_
        rintro e w9 ⟨rfl, hb9⟩
        have hGz := HG9.out.below hb9
        have L9 := hGz.res
        have q9 := L9.seven
        clear p0 p1 p2 p3 p4
        go_wp2_with fail
        exact bodyPost_ret (res_got (p := 4) Tryz.results75 rfl (Lies.all7 L9 _ _ _ _ _ _ _)) rfl (gpost_row (j := j2 + 1) (by have := HM.out; simp; omega) hGz.capF HE6.out hGz.bw (hGz.tin 7 0 PL (⟨#[]⟩ : ByteArray) (by decide) (by have := HM.out; simp; omega)))
       ·have HE6 := Lib.hid (HE5.out.2 hx)
        have n1 := bytes_ne hx
        have b0 : (X == [125]) = false := beq_eq_false_iff_ne.2 hx
        have HX9 := HX
        rw [← HW8.out] at HX9
        have HN := Lib.hid (gno_j j2 j2 W8 rfl)
        clear HE5
        go_wp2_with fail
        refine HX.out.mono ?_
        rintro e w' ⟨rfl, rfl⟩
        rw [← HW8.out]
        clear q0 q1 q2 q3 q4 e0 e1 e2 e3 e4 r0 r1 r2 r3 r4 r5 r6 HX
        obtain ⟨⟨p0, p1, p2, p3, p4⟩, _⟩ := L78.five
        by_cases hy : X = [124]
        ·have hjn : j2 < n := by rw [T.len]; exact xAt_lt (HXL.out.symm.trans hy) (by simp)
         subst hy
         by_cases h8 : m = 8
         ·subst h8
          have HE7 := Lib.hid (HE6.out.1 (.inr HM.out.symm))
          clear hx n1 b0
          go_wp2_with fail
          refine HX9.out.mono ?_
          rintro e w' ⟨rfl, rfl⟩
          go_wp2_with fail
          refine HN.out.mono ?_
          rintro e V9 ⟨rfl, hb2⟩
          have hGz := HG9.out.below hb2
          have L9 := hGz.res
          have q9 := L9.seven
          clear p0 p1 p2 p3 p4
          go_wp2_with fail
          exact bodyPost_ret (res_got (p := 4) Tryz.results75 rfl (Lies.all7 L9 _ _ _ _ _ _ _)) rfl (gpost_err (j := j2) HE7.out hGz.bw)
         ·have h8i : ¬ (m : Int) + 1 = 9 := by omega
          have h8b : ((m : Int) + 1 == 9) = false := by simpa using h8i
          have HE7 := Lib.hid (HE6.out.2 (fun h => h.elim (fun h => h rfl) (fun h => by have := HM.out; omega)))
          clear hx n1 b0
          go_wp2_with fail
          refine HX9.out.mono ?_
          rintro e w' ⟨rfl, rfl⟩
          go_wp2_with fail
          go_roundw
          case rel =>
           exact ⟨j2 + 1, g', pl ++ [.node uk us un ua ul], some ⟨gg, 0, none⟩, c3, _, by go_num, by rw [HPL.out] at *; exact HE7.out, by omega, by omega, by omega, by have := HM.out; simp; omega, HG9.out⟩
          case measure => simp [intOf]; omega
        ·have HE7 := Lib.hid (HE6.out.1 (.inl hy))
         have n2 := bytes_ne hy
         have b1 : (X == [124]) = false := beq_eq_false_iff_ne.2 hy
         go_wp2_with fail
         refine HX9.out.mono ?_
         rintro e w' ⟨rfl, rfl⟩
         go_wp2_with fail
         refine HN.out.mono ?_
         rintro e V9 ⟨rfl, hb2⟩
         have hGz := HG9.out.below hb2
         have L9 := hGz.res
         have q9 := L9.seven
         clear p0 p1 p2 p3 p4
         go_wp2_with fail
         exact bodyPost_ret (res_got (p := 4) Tryz.results75 rfl (Lies.all7 L9 _ _ _ _ _ _ _)) rfl (gpost_err (j := j2) HE7.out hGz.bw)
    ·go_simp
     have hb_5 := Below.alloc hb_1 hb_1.size (.cells #[.int .i64 0, .string (⟨#[]⟩ : ByteArray), .int .i64 0, .int .i64 0, .slice none 0 0] 49)
     have hl_5 : Lies (V8.alloc (.cells #[.int .i64 0, .string (⟨#[]⟩ : ByteArray), .int .i64 0, .int .i64 0, .slice none 0 0] 49)) (V8.heap.size) 49 #[.int .i64 0, .string (⟨#[]⟩ : ByteArray), .int .i64 0, .int .i64 0, .slice none 0 0] := Lies.new _ _ _
     refine hK.out _ _ (fun _ => HS.out _ (hb_5.drew)) (fun hS9 => ?_)
     have hS_5 := hS9 (by decide)
     clear hK K hS9
     try go_frame
     refine wpAnyK_one (i := 7) rfl rfl (by kernel_rfl) (fun K hK => ?_)
     go_simp
     have hb_6 := Below.alloc hb_5 hb_5.size (.cells #[.int .i64 tk, .string ts, .int .i64 tn, .int .i64 ta, .slice A2 tl.length (capF tl.length c2)] 49)
     have hl_6 : Lies ((V8.alloc (.cells #[.int .i64 0, .string (⟨#[]⟩ : ByteArray), .int .i64 0, .int .i64 0, .slice none 0 0] 49)).alloc (.cells #[.int .i64 tk, .string ts, .int .i64 tn, .int .i64 ta, .slice A2 tl.length (capF tl.length c2)] 49)) (V8.heap.size + 1) 49 #[.int .i64 tk, .string ts, .int .i64 tn, .int .i64 ta, .slice A2 tl.length (capF tl.length c2)] := by
      have h9 := Lies.new ((V8.alloc (.cells #[.int .i64 0, .string (⟨#[]⟩ : ByteArray), .int .i64 0, .int .i64 0, .slice none 0 0] 49))) 49 #[.int .i64 tk, .string ts, .int .i64 tn, .int .i64 ta, .slice A2 tl.length (capF tl.length c2)]
      simpa using h9
     have hl_5_6 := hl_5.old (.cells #[.int .i64 tk, .string ts, .int .i64 tn, .int .i64 ta, .slice A2 tl.length (capF tl.length c2)] 49)
     refine hK.out _ _ (fun _ => HS.out _ (hb_6.drew)) (fun hS9 => ?_)
     have hS_6 := hS9 (by decide)
     clear hK K hS9
     try go_frame
     refine tkA (i := 8) (oi := ⟨some 43, _, _, _, _, _⟩) (v := .agg #[.int .i64 7, .string (⟨#[]⟩ : ByteArray), .int .i64 0, .int .i64 PL, .slice (some ⟨V8.heap.size + 1, 0, none⟩) 1 1]) hS_6 ?_
     try go_frame
     refine wpAnyK_one (i := 10) rfl rfl (by kernel_rfl) (fun K hK => ?_)
     have hlt_7_0 := hl_5_6.lt
     have hlt_7_1 := hl_6.lt
     have hsz_7 := hb_6.size
     refine wp_store_let (F := fun W9 => Below V8.heap.size V8 W9 ∧ Lies W9 (V8.heap.size) 49 #[.int .i64 7, .string (⟨#[]⟩ : ByteArray), .int .i64 0, .int .i64 PL, .slice (some ⟨V8.heap.size + 1, 0, none⟩) 1 1] ∧ Lies W9 (V8.heap.size + 1) 49 #[.int .i64 tk, .string ts, .int .i64 tn, .int .i64 ta, .slice A2 tl.length (capF tl.length c2)]) _ _ _ rfl (V8.heap.size) 0 #[.int .i64 7, .string (⟨#[]⟩ : ByteArray), .int .i64 0, .int .i64 PL, .slice (some ⟨V8.heap.size + 1, 0, none⟩) 1 1] rfl rfl (lies_there hl_5_6.drew rfl) (by kernel_rfl) (by simp [Value.oneCell']) ⟨below_setCells (hb_6.drew) (by omega) _ _, lies_set5 (hl_5_6.drew) (.int .i64 7) (.string (⟨#[]⟩ : ByteArray)) (.int .i64 0) (.int .i64 PL) (.slice (some ⟨V8.heap.size + 1, 0, none⟩) 1 1), lies_setOff (hl_6.drew) (by omega) _ _⟩ (fun W_7 hF_7 => ?_)
     refine hK.out _ _ (fun h => absurd rfl h) (fun _ => ?_)
     clear hK K
     try go_frame
     obtain ⟨hb_7, hl_5_6_7, hl_6_7⟩ := hF_7
     refine wpAnyK_done (by kernel_rfl) ?_ _
     have hbz := HB1.out.trans (hb_7.mono HB1.out.size)
     have Lr0 := HL8.out.below hb_7 HL8.out.lt
     have hta0 := TIn.below _ HT1.out hb_7 (Nat.le_refl _)
     have h8s := HL8.out.lt
     have hG0 : GBs w (V8.heap.size) 49 (fun v => #[.int .i64 7, .string (⟨#[]⟩ : ByteArray), .int .i64 0, .int .i64 PL, v]) [.node tk ts tn ta tl] (some ⟨V8.heap.size + 1, 0, none⟩) 1 [.int .i64 tk, .string ts, .int .i64 tn, .int .i64 ta, .slice A2 tl.length (capF tl.length c2)] W_7 := ⟨hbz, Lr0, hl_5_6_7, owns_five (by omega) hl_6_7, (RowTr.nil _ _).snoc (c := c2) (TIn.wide _ hta0 (fun g hg hl => ⟨⟨hg.1, by have := hg.2; omega⟩, fun e => by have := hg.2; have e9 : g = V8.heap.size + 1 := Option.some.inj e; omega⟩)), by omega, by simp [Value.ownBlock]⟩
     have h5z := Lies5.out.below hb_7 Lies5.out.lt
     obtain ⟨⟨q0, q1, q2, q3, q4, q5, q6⟩, _⟩ := h5z.seven
     clear hl_5_6_7 hl_6_7 hb_7 hbz Lr0 hta0 HS HT1 HL8 HB1 h5z
     obtain ⟨b6, hb6⟩ : ∃ q, q = V8.heap.size := ⟨_, rfl⟩
     rw [← hb6] at hG0
     go_wp2_with fail
     try rw [← hb6]
     clear hb6 q0 q1 q2 q3 q4 q5 q6 Lies5
     go_loopw [7] (fun x wr => ∃ (j g' : Nat) (pl : List Tr) (B : Option Addr) (bc : Nat) (xs : List Value), x = .int .i64 j ∧ gMatch (f + 1) l i = gAlts g' l i j pl ∧ 8 * (n - j) + 7 ≤ g' ∧ g' ≤ f ∧ j ≤ n ∧ pl.length ≤ 8 ∧ GBs w b6 49 (fun v => #[.int .i64 7, .string (⟨#[]⟩ : ByteArray), .int .i64 0, .int .i64 PL, v]) pl B bc xs wr) (fun x _ => n + 1 - (intOf x).toNat)
     case atStart => exact ⟨j + 2, f, [.node tk ts tn ta tl], _, 1, _, by go_num, HE3.out, by omega, Nat.le_refl _, by omega, by simp, hG0⟩
     case round =>
      clear hG0
      obtain ⟨j, g', pl, B, bc, xs, rfl, hE, hg1, hg2, hj, hp8, hG⟩ := hrel
      obtain ⟨g', rfl⟩ : ∃ q, g' = q + 1 := ⟨g' - 1, by omega⟩
      have hbw := hG.bw
      have Lr := hG.res
      have hRw := hR.below hbw (Nat.le_refl _)
      have HC := Lib.hid (HAl g' (by omega) j (j : Int) wr rfl (by omega) (by omega) hRw)
      have hpo := (prog_all g').alt l j
      have HE4 : (∀ j2, gAlt g' l j = .error j2 → gMatch (f + 1) l i = .error j2) ∧ (∀ b j2, gAlt g' l j = .ok (b, j2) → (xAt l j2 = [125] → gMatch (f + 1) l i = .ok (.node 7 ⟨#[]⟩ 0 (plAt l i) (pl ++ [b]), j2 + 1)) ∧ (¬ xAt l j2 = [125] → ((xAt l j2 ≠ [124] ∨ pl.length = 8) → gMatch (f + 1) l i = .error j2) ∧ (¬ (xAt l j2 ≠ [124] ∨ pl.length = 8) → gMatch (f + 1) l i = gAlts g' l i (j2 + 1) (pl ++ [b])))) := by
       rw [hE, gAlts]
       refine ⟨fun j2 h => by rw [h], fun b j2 h => ⟨fun hx => by rw [h]; simp only [hx, if_true], fun hx => ⟨fun h2 => by rw [h]; simp only [hx, if_false]; rw [if_pos h2], fun h2 => by rw [h]; simp only [hx, if_false]; rw [if_neg h2]⟩⟩⟩
      rw [← HPL.out] at HE4
      replace HE4 := Lib.hid HE4
      obtain ⟨m, hm⟩ : ∃ m, m = pl.length := ⟨_, rfl⟩
      have HM := Lib.hid hm
      have hm8 : m ≤ 8 := by omega
      clear hE hm
      go_wp2_with fail
      refine HC.out.mono ?_
      intro e V2 hG2
      clear HC
      rcases hG2.split with ⟨j2, hr2, rfl⟩ | ⟨u, j2, A3, cu, hr2, rfl, hT2⟩
      ·have HE5 := Lib.hid (HE4.out.1 _ hr2)
       have L9 := (Lr.below hG2.1 Lr.lt).old (.cells #[.int .i64 0, .string ⟨#[]⟩, .int .i64 0, .int .i64 0, .slice none 0 0, .int .i64 j2, .bool false] 72)
       have q9 := L9.seven
       have hb9 := hbw.trans (hG2.1.mono hbw.size)
       have hb9 := hb9.alloc hb9.size (.cells #[.int .i64 0, .string ⟨#[]⟩, .int .i64 0, .int .i64 0, .slice none 0 0, .int .i64 j2, .bool false] 72)
       go_wp2_with fail
       exact bodyPost_ret (res_got (p := 4) Tryz.results75 rfl (Lies.all7 L9 _ _ _ _ _ _ _)) rfl (gpost_err HE5.out hb9)
      ·have HE5 := HE4.out.2 _ _ hr2
       replace HE5 := Lib.hid HE5
       have hpr2 := hpo u j2 hr2
       obtain ⟨uk, us, un, ua, ul⟩ := u
       simp only [Tr.kind, Tr.name, Tr.n, Tr.place, Tr.parts]
       have hm5 := hG2.1.alloc hG2.1.size (.cells #[.int .i64 uk, .string us, .int .i64 un, .int .i64 ua, .slice A3 ul.length (capF ul.length cu), .int .i64 j2, .bool true] 72)
       have LU := Lies.new V2 72 #[.int .i64 uk, .string us, .int .i64 un, .int .i64 ua, .slice A3 ul.length (capF ul.length cu), .int .i64 j2, .bool true]
       have hs2 := hG2.1.size
       have hTu := TIn.below _ hT2 ((Below.refl _ V2).alloc (Nat.le_refl _) (.cells #[.int .i64 uk, .string us, .int .i64 un, .int .i64 ua, .slice A3 ul.length (capF ul.length cu), .int .i64 j2, .bool true] 72)) (Nat.le_refl _)
       obtain ⟨b7, hb7⟩ : ∃ b7, b7 = V2.heap.size := ⟨_, rfl⟩
       rw [← hb7] at LU
       have hwb : wr.heap.size ≤ b7 := by omega
       clear hr2 hG2 hT2 Lr hpo HE4
       go_upto_region 13 with fail
       rw [← hb7]
       obtain ⟨V5, hV5⟩ : ∃ q, q = V2.alloc (.cells #[.int .i64 uk, .string us, .int .i64 un, .int .i64 ua, .slice A3 ul.length (capF ul.length cu), .int .i64 j2, .bool true] 72) := ⟨_, rfl⟩
       rw [← hV5] at hm5 LU hTu ⊢
       clear hV5 hb7
       have hG5 := hG.below hm5
       have L75 : Lies V5 b6 49 #[.int .i64 7, .string (⟨#[]⟩ : ByteArray), .int .i64 0, .int .i64 PL, .slice B m bc] := by rw [HM.out]; exact hG5.box
       obtain ⟨⟨q0, q1, q2, q3, q4⟩, _⟩ := L75.five
       obtain ⟨⟨r0, r1, r2, r3, r4, r5, r6⟩, _⟩ := LU.seven
       have hown := hG5.own
       have hlto := hG.own.lt
       rw [← HM.out] at hown
       have h5lt := hG.sz
       have hle5 := hG.le
       have hs5 := hm5.size
       go_wp2_with (at_builtin; refine wpList_append_lies _ rfl _ _ 47 rfl (w.heap.size + 1) 49 i0 _ 5 64 Tryz.underlying47 hi0 hz0 hz1 hz2 rfl (by decide) (.slice B m bc) m xs rfl (own_below hown ((Below.refl _ V5).alloc (Nat.le_refl _) _) (Nat.le_refl _)) ⟨V5.heap.size, 0, none⟩ 1 1 [.int .i64 uk, .string us, .int .i64 un, .int .i64 ua, .slice A3 ul.length (capF ul.length cu)] rfl rfl ?c1 ?c2 (by omega) ?c3 ?c4 ?c5 (V5.heap.size + 1) (by simp) ?_)
       case c1 => exact World.news_of_block (cs := #[.int .i64 uk, .string us, .int .i64 un, .int .i64 ua, .slice A3 ul.length (capF ul.length cu)]) (t := 49) (fr := (0, 0)) (heap_alloc_new V5 _)
       case c2 => simp [Value.oneCell']
       case c3 => first | omega | (simp only [maxLen]; omega)
       case c4 => omega
       case c5 => first | omega | (simp; omega)
       intro gg c3 w7 hown7 hg7 hat hltg
       clear q0 q1 q2 q3 q4 r0 r1 r2 r3 r4 r5 r6
       have hP := hG.push (u := .node uk us un ua ul) (A := A3) (c := cu) (gg := gg) (c3 := c3) (fun _ _ => rfl) hm5 hTu (by rw [← HM.out]; exact hown7) (by rw [← HM.out]; exact hg7) (by rw [← HM.out]; exact hat)
       obtain ⟨hB7, hG7⟩ := hP
       rw [← HM.out] at hB7 hG7
       have L77 : Lies w7 b6 49 #[.int .i64 7, .string (⟨#[]⟩ : ByteArray), .int .i64 0, .int .i64 PL, .slice B m bc] := hB7
       obtain ⟨W8, hW8⟩ : ∃ q, q = w7.setCell ⟨b6, 4, none⟩ (.slice (some ⟨gg, 0, none⟩) (m + 1) c3) := ⟨_, rfl⟩
       have L78 : Lies W8 b6 49 #[.int .i64 7, .string (⟨#[]⟩ : ByteArray), .int .i64 0, .int .i64 PL, .slice (some ⟨gg, 0, none⟩) (m + 1) c3] := by rw [hW8]; simpa using L77.put 4 (.slice (some ⟨gg, 0, none⟩) (m + 1) c3)
       have LU7 := (LU.old (.cells #[.int .i64 uk, .string us, .int .i64 un, .int .i64 ua, .slice A3 ul.length (capF ul.length cu)] 49)).grown hg7 (fun e => by rw [HM.out] at e; have := (hlto _ e.symm).2; omega)
       have LU8 := LU7.far (p := ⟨b6, 4, none⟩) (by show b7 ≠ b6; omega) (.slice (some ⟨gg, 0, none⟩) (m + 1) c3)
       rw [← hW8] at hG7
       have HG9 := Lib.hid hG7
       have hR8 := hR.below hG7.bw (Nat.le_refl _)
       have HX := Lib.hid (gtext_at l _ n c j2 (j2 : Int) W8 rfl T.len (by omega) h6 hR8)
       have HW8 := Lib.hid hW8
       rw [hW8] at HX
       obtain ⟨⟨q0, q1, q2, q3, q4⟩, e0, e1, e2, e3, e4⟩ := L77.five
       obtain ⟨⟨r0, r1, r2, r3, r4, r5, r6⟩, _⟩ := LU8.seven
       clear hown7 hg7 hat hB7 hG7 LU7 LU8 L77 hG5 L75 hown hG hTu hm5 hW8 hRw hbw
       obtain ⟨X, hX⟩ : ∃ X, X = xAt l j2 := ⟨_, rfl⟩
       rw [← hX] at HX HE5
       have HXL := Lib.hid hX
       clear hX
       by_cases hx : X = [125]
       ·have hjn : j2 < n := by rw [T.len]; exact xAt_lt (HXL.out.symm.trans hx) (by simp)
        subst hx
        have HE6 := Lib.hid (HE5.out.1 rfl)
        go_wp2_with fail
        refine HX.out.mono ?_
        rintro e w' ⟨rfl, rfl⟩
        rw [← HW8.out]
        clear q0 q1 q2 q3 q4 e0 e1 e2 e3 e4 r0 r1 r2 r3 r4 r5 r6 HX HE5
        obtain ⟨⟨p0, p1, p2, p3, p4⟩, _⟩ := L78.five
        go_wp2_with fail
        refine (gyes_j 7 0 PL (⟨#[]⟩ : ByteArray) (some ⟨gg, 0, none⟩) (m + 1) c3 (j2 + 1) ((j2 : Int) + 1) _ (by simp)).mono ?_
        rintro e w9 ⟨rfl, hb9⟩
        have hGz := HG9.out.below hb9
        have L9 := hGz.res
        have q9 := L9.seven
        clear p0 p1 p2 p3 p4
        go_wp2_with fail
        exact bodyPost_ret (res_got (p := 4) Tryz.results75 rfl (Lies.all7 L9 _ _ _ _ _ _ _)) rfl (gpost_row (j := j2 + 1) (by have := HM.out; simp; omega) hGz.capF HE6.out hGz.bw (hGz.tin 7 0 PL (⟨#[]⟩ : ByteArray) (by decide) (by have := HM.out; simp; omega)))
       ·have HE6 := Lib.hid (HE5.out.2 hx)
        have n1 := bytes_ne hx
        have b0 : (X == [125]) = false := beq_eq_false_iff_ne.2 hx
        have HX9 := HX
        rw [← HW8.out] at HX9
        have HN := Lib.hid (gno_j j2 j2 W8 rfl)
        clear HE5
        go_wp2_with fail
        refine HX.out.mono ?_
        rintro e w' ⟨rfl, rfl⟩
        rw [← HW8.out]
        clear q0 q1 q2 q3 q4 e0 e1 e2 e3 e4 r0 r1 r2 r3 r4 r5 r6 HX
        obtain ⟨⟨p0, p1, p2, p3, p4⟩, _⟩ := L78.five
        by_cases hy : X = [124]
        ·have hjn : j2 < n := by rw [T.len]; exact xAt_lt (HXL.out.symm.trans hy) (by simp)
         subst hy
         by_cases h8 : m = 8
         ·subst h8
          have HE7 := Lib.hid (HE6.out.1 (.inr HM.out.symm))
          clear hx n1 b0
          go_wp2_with fail
          refine HX9.out.mono ?_
          rintro e w' ⟨rfl, rfl⟩
          go_wp2_with fail
          refine HN.out.mono ?_
          rintro e V9 ⟨rfl, hb2⟩
          have hGz := HG9.out.below hb2
          have L9 := hGz.res
          have q9 := L9.seven
          clear p0 p1 p2 p3 p4
          go_wp2_with fail
          exact bodyPost_ret (res_got (p := 4) Tryz.results75 rfl (Lies.all7 L9 _ _ _ _ _ _ _)) rfl (gpost_err (j := j2) HE7.out hGz.bw)
         ·have h8i : ¬ (m : Int) + 1 = 9 := by omega
          have h8b : ((m : Int) + 1 == 9) = false := by simpa using h8i
          have HE7 := Lib.hid (HE6.out.2 (fun h => h.elim (fun h => h rfl) (fun h => by have := HM.out; omega)))
          clear hx n1 b0
          go_wp2_with fail
          refine HX9.out.mono ?_
          rintro e w' ⟨rfl, rfl⟩
          go_wp2_with fail
          go_roundw
          case rel =>
           exact ⟨j2 + 1, g', pl ++ [.node uk us un ua ul], some ⟨gg, 0, none⟩, c3, _, by go_num, by rw [HPL.out] at *; exact HE7.out, by omega, by omega, by omega, by have := HM.out; simp; omega, HG9.out⟩
          case measure => simp [intOf]; omega
        ·have HE7 := Lib.hid (HE6.out.1 (.inl hy))
         have n2 := bytes_ne hy
         have b1 : (X == [124]) = false := beq_eq_false_iff_ne.2 hy
         go_wp2_with fail
         refine HX9.out.mono ?_
         rintro e w' ⟨rfl, rfl⟩
         go_wp2_with fail
         refine HN.out.mono ?_
         rintro e V9 ⟨rfl, hb2⟩
         have hGz := HG9.out.below hb2
         have L9 := hGz.res
         have q9 := L9.seven
         clear p0 p1 p2 p3 p4
         go_wp2_with fail
         exact bodyPost_ret (res_got (p := 4) Tryz.results75 rfl (Lies.all7 L9 _ _ _ _ _ _ _)) rfl (gpost_err (j := j2) HE7.out hGz.bw)
   ·have HE3 := Lib.hid (HE2.out.1 hcu)
    obtain ⟨X, hX⟩ : ∃ X, X = xAt l (j + 1) := ⟨_, rfl⟩
    rw [← hX] at HX3 hcu
    have n1 := bytes_ne hcu
    have b0 : (X == [123]) = false := beq_eq_false_iff_ne.2 hcu
    clear hX HE2
    refine HX3.out.mono ?_
    rintro e w' ⟨rfl, rfl⟩
    go_wp2_with fail
    refine HN2.out.mono ?_
    rintro e V2 ⟨rfl, hb2⟩
    have L9 := L7.below hb2 L7.lt
    have q9 := L9.seven
    have hb9 := hbA.trans (hb2.mono hbA.size)
    clear q0' q1' q2' q3' q4' q5' q6'
    go_wp2_with fail
    exact bodyPost_ret (res_got (p := 4) Tryz.results75 rfl (Lies.all7 L9 _ _ _ _ _ _ _)) rfl (gpost_err (j := j + 1) HE3.out hb9)
  ·have HE3 := Lib.hid (HE2.out.1 hof)
   obtain ⟨X, hX⟩ : ∃ X, X = xAt l j := ⟨_, rfl⟩
   rw [← hX] at HX2 hof
   have n1 := bytes_ne hof
   have b0 : (X == [111, 102]) = false := beq_eq_false_iff_ne.2 hof
   rw [HVA.out] at HX2
   clear hX HE2
   go_wp2_with fail
   refine HX2.out.mono ?_
   rintro e w' ⟨rfl, rfl⟩
   rw [← HVA.out]
   clear q0 q1 q2 q3 q4 q5 q6
   rw [HB5.out] at q0' q1' q2' q3' q4' q5' q6'
   go_wp2_with fail
   refine HN.out.mono ?_
   rintro e V2 ⟨rfl, hb2⟩
   have L9 := L7.below hb2 L7.lt
   have q9 := L9.seven
   have hb9 := hbA.trans (hb2.mono hbA.size)
   clear q0' q1' q2' q3' q4' q5' q6'
   go_wp2_with fail
   exact bodyPost_ret (res_got (p := 4) Tryz.results75 rfl (Lies.all7 L9 _ _ _ _ _ _ _)) rfl (gpost_err (j := j) HE3.out hb9)
set_option maxHeartbeats 16000000 in
theorem gapp_any {l : List Tok} {A : Option Addr} {n c f : Nat} (T : GTok l n) (HAt : ∀ g, g ≤ f → GC 120 l A n c 1 gAtom g) :
  GC 106 l A n c 2 gApp (f + 1) := by
 intro i x w hx hi hf hR
 subst hx
 by_cases hk : kAt l i = 2
 ·exact gappc_any T HAt i w hi hf hR hk
 have h6 := T.few
 have hb0 := below_seven (w := w)
 have hR1 := hR.at_new hb0
 have hL := Lies.new w 72 zero7
 have HC := Lib.hid (HAt f (Nat.le_refl _) i (i : Int) (w.alloc (.cells zero7 72)) rfl hi (by omega) hR1)
 have HE : Hid (∀ r, gAtom f l i = r → gApp (f + 1) l i = (match r with | .error j => .error j | .ok (a, j) => gAppL f l (decide (kAt l i = 2)) a j)) := by
  refine Lib.hid fun r hr => ?_
  rw [gApp, hr]
  all_goals (rcases r with j9 | ⟨b9, j9⟩ <;> rfl)
 have hpo := (prog_all f).atom l i
 go_enter Tryz.func106, Tryz.ntmps106
 go_wp2_with fail
 refine HC.out.mono ?_
 intro e V hG
 have hb := hb0.trans (hG.1.mono hb0.size)
 have L := hL.below hG.1 (by simp)
 have hsz := hG.1.size
 rcases hG.split with ⟨j, hr, rfl⟩ | ⟨t, j, A2, c2, hr, rfl, hT⟩
 ·replace HE := Lib.hid (HE.out _ hr)
  have L9 := L.old (.cells #[.int .i64 0, .string ⟨#[]⟩, .int .i64 0, .int .i64 0, .slice none 0 0, .int .i64 j, .bool false] 72)
  have LE := Lies.new V 72 #[.int .i64 0, .string ⟨#[]⟩, .int .i64 0, .int .i64 0, .slice none 0 0, .int .i64 j, .bool false]
  obtain ⟨⟨q0, q1, q2, q3, q4, q5, q6⟩, _⟩ := LE.seven
  have q9 := L9.seven
  have hb9 := hb.alloc hb.size (.cells #[.int .i64 0, .string ⟨#[]⟩, .int .i64 0, .int .i64 0, .slice none 0 0, .int .i64 j, .bool false] 72)
  have hRE := hR.below hb9 (Nat.le_refl _)
  have HK := Lib.hid (gkind_at l A n c i (i : Int) (V.alloc (.cells #[.int .i64 0, .string ⟨#[]⟩, .int .i64 0, .int .i64 0, .slice none 0 0, .int .i64 j, .bool false] 72)) rfl T.len (by omega) h6 hRE)
  obtain ⟨k, hk'⟩ : ∃ k, k = kAt l i := ⟨_, rfl⟩
  rw [← hk'] at HK
  clear hk' hRE
  go_wp2_with fail
  refine HK.out.mono ?_
  rintro e w' ⟨rfl, rfl⟩
  obtain ⟨VE, hVE⟩ : ∃ VE, VE = V.alloc (.cells #[.int .i64 0, .string ⟨#[]⟩, .int .i64 0, .int .i64 0, .slice none 0 0, .int .i64 j, .bool false] 72) := ⟨_, rfl⟩
  go_wp2_with fail
  rw [← hVE]
  rw [← hVE] at L9 q0 q1 q2 q3 q4 q5 q6 q9 hb9
  clear hVE LE HK
  go_loopw [] (fun wr => VE = wr) (fun _ => 0)
  case atStart => exact rfl
  case round =>
   obtain rfl := hrel
   go_wp2_with fail
   exact bodyPost_ret (res_got (p := 4) Tryz.results106 rfl (Lies.all7 L9 _ _ _ _ _ _ _)) rfl (gpost_err HE.out hb9)
 ·have hpr := hpo t j hr
  have hln1 : n ≤ l.length := Nat.le_of_eq T.len
  have hln2 : l.length ≤ n := Nat.le_of_eq T.len.symm
  replace HE := Lib.hid (HE.out _ hr)
  obtain ⟨pk, ps, pn, pa, pl⟩ := t
  simp only [Tr.kind, Tr.name, Tr.n, Tr.place, Tr.parts]
  have hbA := hb.alloc hb.size (.cells #[.int .i64 pk, .string ps, .int .i64 pn, .int .i64 pa, .slice A2 pl.length (capF pl.length c2), .int .i64 j, .bool true] 72)
  have Lr := L.old (.cells #[.int .i64 pk, .string ps, .int .i64 pn, .int .i64 pa, .slice A2 pl.length (capF pl.length c2), .int .i64 j, .bool true] 72)
  have L7 := Lies.new V 72 #[.int .i64 pk, .string ps, .int .i64 pn, .int .i64 pa, .slice A2 pl.length (capF pl.length c2), .int .i64 j, .bool true]
  have hwV : w.heap.size + 1 ≤ V.heap.size := by simpa using hsz
  have hT7 := TIn.below _ (TIn.wide _ (Y := fun g => w.heap.size + 1 ≤ g ∧ g ≠ V.heap.size) hT (fun g hg hl => ⟨by simpa using hg, by omega⟩)) ((Below.refl _ V).alloc (Nat.le_refl _) (.cells #[.int .i64 pk, .string ps, .int .i64 pn, .int .i64 pa, .slice A2 pl.length (capF pl.length c2), .int .i64 j, .bool true] 72)) (Nat.le_refl _)
  have hRA := hR.below hbA (Nat.le_refl _)
  have HK := Lib.hid (gkind_at l A n c i (i : Int) (V.alloc (.cells #[.int .i64 pk, .string ps, .int .i64 pn, .int .i64 pa, .slice A2 pl.length (capF pl.length c2), .int .i64 j, .bool true] 72)) rfl T.len (by omega) h6 hRA)
  obtain ⟨b5, hb5⟩ : ∃ b5, b5 = V.heap.size := ⟨_, rfl⟩
  rw [← hb5] at L7 hT7 hwV
  have hk2 : decide (kAt l i = 2) = false := decide_eq_false hk
  have HE1 := HE.out
  rw [hk2] at HE1
  replace HE := Lib.hid HE1
  obtain ⟨k, hk'⟩ : ∃ k, k = kAt l i := ⟨_, rfl⟩
  rw [← hk'] at HK hk
  clear hk' HE1 hk2
  have hk2 : (k == 2) = false := by simpa using hk
  go_wp2_with fail
  refine HK.out.mono ?_
  rintro e w' ⟨rfl, rfl⟩
  go_wp2_with fail
  rw [← hb5]
  obtain ⟨VA, hVA⟩ : ∃ VA, VA = V.alloc (.cells #[.int .i64 pk, .string ps, .int .i64 pn, .int .i64 pa, .slice A2 pl.length (capF pl.length c2), .int .i64 j, .bool true] 72) := ⟨_, rfl⟩
  rw [← hVA] at hbA Lr L7 hT7 ⊢
  clear hVA hb5 hb L hG hsz hL HC hpo hr hT HK hRA
  go_loopw [] (fun wr => ∃ (j g : Nat) (a : Tr) (B : Option Addr) (c2 : Nat), gApp (f + 1) l i = gAppL g l false a j ∧ 8 * (n - j) + 2 ≤ g ∧ g ≤ f ∧ j ≤ n ∧ Below w.heap.size w wr ∧ Lies wr w.heap.size 72 zero7 ∧
   Lies wr b5 72 #[.int .i64 a.kind, .string a.name, .int .i64 a.n, .int .i64 a.place, .slice B a.parts.length (capF a.parts.length c2), .int .i64 j, .bool true] ∧ TIn wr (fun g => w.heap.size + 1 ≤ g ∧ g ≠ b5) a B) (fun wr => n + 1 - jAt wr b5)
  case atStart => exact ⟨j, f, .node pk ps pn pa pl, A2, c2, HE.out, by omega, Nat.le_refl _, by omega, hbA, Lr, L7, hT7⟩
  case round =>
   clear hbA Lr L7 hT7 hpr HE
   obtain ⟨j, g, a, B, c2, hE, hg1, hg2, hj, hbw, Lr, L7, hTa⟩ := hrel
   obtain ⟨g, rfl⟩ : ∃ q, g = q + 1 := ⟨g - 1, by omega⟩
   have hRw := hR.below hbw (Nat.le_refl _)
   obtain ⟨tk, ts, tn, ta, tl⟩ := a
   simp only [Tr.kind, Tr.name, Tr.n, Tr.place, Tr.parts] at L7
   obtain ⟨⟨q0, q1, q2, q3, q4, q5, q6⟩, _⟩ := L7.seven
   have HAC := Lib.hid (gatomic_any l A n c j wr T.len (by omega) h6 hRw)
   have HJ := Lib.hid (jAt_lies L7)
   by_cases ha : atomicA l j = true
   ·have HC := Lib.hid (HAt g (by omega) j (j : Int) wr rfl (by omega) (by omega) hRw)
    have hpo := (prog_all g).atom l j
    have HE2 : gAppL (g + 1) l false (.node tk ts tn ta tl) j = (match gAtom g l j with | .error j2 => .error j2 | .ok (b, j2) => gAppL g l false (.node 3 ⟨#[]⟩ 0 ta [.node tk ts tn ta tl, b]) j2) := by
     rw [gAppL, if_pos ha, if_neg (by simp)]
     all_goals (rcases gAtom g l j with j9 | ⟨b9, j9⟩ <;> rfl)
    rw [HE2] at hE
    rw [ha] at HAC
    replace hE := Lib.hid hE
    clear ha HE2
    go_wp2_with fail
    refine HAC.out.mono ?_
    rintro e w' ⟨rfl, rfl⟩
    go_wp2_with fail
    refine HC.out.mono ?_
    intro e V2 hG2
    clear HAC HC
    rcases hG2.split with ⟨j2, hr2, rfl⟩ | ⟨u, j2, A3, c3, hr2, rfl, hT2⟩
    ·replace hE := hE.out
     rw [hr2] at hE
     have L9 := (Lr.below hG2.1 Lr.lt).old (.cells #[.int .i64 0, .string ⟨#[]⟩, .int .i64 0, .int .i64 0, .slice none 0 0, .int .i64 j2, .bool false] 72)
     have q9 := L9.seven
     have hb9 := hbw.trans (hG2.1.mono hbw.size)
     have hb9 := hb9.alloc hb9.size (.cells #[.int .i64 0, .string ⟨#[]⟩, .int .i64 0, .int .i64 0, .slice none 0 0, .int .i64 j2, .bool false] 72)
     clear q0 q1 q2 q3 q4 q5 q6
     go_wp2_with fail
     exact bodyPost_ret (res_got (p := 4) Tryz.results106 rfl (Lies.all7 L9 _ _ _ _ _ _ _)) rfl (gpost_err hE hb9)
    ·replace hE := hE.out
     rw [hr2] at hE
     have hpr2 := hpo u j2 hr2
     obtain ⟨uk, us, un, ua, ul⟩ := u
     simp only [Tr.kind, Tr.name, Tr.n, Tr.place, Tr.parts]
     have hbb := hbw.trans (hG2.1.mono hbw.size)
     have hs7 := L7.lt
     have hsr := hbw.size
     have hs2 := hG2.1.size
     obtain ⟨O2, hO2⟩ : ∃ O, O = Obj.cells #[.int .i64 uk, .string us, .int .i64 un, .int .i64 ua, .slice A3 ul.length (capF ul.length c3), .int .i64 j2, .bool true] 72 := ⟨_, rfl⟩
     have hb1 := hbb.alloc hbb.size O2
     have L8 := (Lr.below hG2.1 Lr.lt).old O2
     have L78 := (L7.below hG2.1 L7.lt).old O2
     have LU : Lies (V2.alloc O2) V2.heap.size 72 #[.int .i64 uk, .string us, .int .i64 un, .int .i64 ua, .slice A3 ul.length (capF ul.length c3), .int .i64 j2, .bool true] := by rw [hO2]; exact Lies.new V2 _ _
     have hT1 := TIn.below _ (TIn.below _ hTa hG2.1 (Nat.le_refl _)) ((Below.refl _ V2).alloc (Nat.le_refl _) O2) (Nat.le_refl _)
     have hT2 := TIn.below _ (TIn.wide _ (Y := fun g => w.heap.size + 1 ≤ g ∧ g ≠ b5) hT2 (fun g hg _ => by have h9 : wr.heap.size ≤ g := hg; exact ⟨by omega, by omega⟩)) ((Below.refl _ V2).alloc (Nat.le_refl _) O2) (Nat.le_refl _)
     clear q0 q1 q2 q3 q4 q5 q6
     obtain ⟨⟨q0, q1, q2, q3, q4, q5, q6⟩, _⟩ := L78.seven
     obtain ⟨⟨r0, r1, r2, r3, r4, r5, r6⟩, _⟩ := LU.seven
     rw [hO2] at q0 q1 q2 q3 q4 q5 q6 r0 r1 r2 r3 r4 r5 r6
     replace hE := Lib.hid hE
     go_wp2_with fail
     rw [← hO2]
     obtain ⟨V8, hV8⟩ : ∃ V8, V8 = V2.alloc O2 := ⟨_, rfl⟩
     have hs8 : V8.heap.size = V2.heap.size + 1 := by rw [hV8]; simp
     rw [← hV8] at hb1 L8 L78 LU hT1 hT2 ⊢
     clear q0 q1 q2 q3 q4 q5 q6 r0 r1 r2 r3 r4 r5 r6 hO2 hV8
     have hbR := (Below.refl _ V8).alloc (Nat.le_refl _) (.cells #[.int .i64 tk, .string ts, .int .i64 tn, .int .i64 ta, .slice B tl.length (capF tl.length c2), .int .i64 uk, .string us, .int .i64 un, .int .i64 ua, .slice A3 ul.length (capF ul.length c3)] 49)
     have LR := Lies.new V8 49 #[.int .i64 tk, .string ts, .int .i64 tn, .int .i64 ta, .slice B tl.length (capF tl.length c2), .int .i64 uk, .string us, .int .i64 un, .int .i64 ua, .slice A3 ul.length (capF ul.length c3)]
     try rw [← hs8]
     clear hs8
     refine (gyes_j 3 0 ta ⟨#[]⟩ (some ⟨V8.heap.size, 0, none⟩) 2 2 j2 j2 _ rfl).mono ?_
     rintro e w9 ⟨rfl, hb9⟩
     have hbz := hbR.trans (hb9.mono hbR.size)
     have L9 := L8.below hbz L8.lt
     have L79 := L78.below hbz L78.lt
     have LR9 := LR.below hb9 (by simp)
     have h5lt := L78.lt
     have hn9 : TIn w9 (fun g => w.heap.size + 1 ≤ g ∧ g ≠ b5) (.node 3 ⟨#[]⟩ 0 ta [.node tk ts tn ta tl, .node uk us un ua ul]) (some ⟨V8.heap.size, 0, none⟩) := TIn.mk (by decide) (by simp) (LIn.two (c1 := c2) (c2 := c3) LR9 rfl ⟨by omega, by omega⟩ (TIn.below _ hT1 hbz (Nat.le_refl _)) (TIn.below _ hT2 hbz (Nat.le_refl _)))
     have hbq := hb1.trans (hbz.mono hb1.size)
     have q7 := L79.seven
     clear hbR LR LR9 L78 LU hT1 hT2 hb9 hbz hb1 L8 hb0 hR1
     go_wp2_with fail
     go_roundw
     case rel => exact ⟨j2, g, (.node 3 ⟨#[]⟩ 0 ta [.node tk ts tn ta tl, .node uk us un ua ul]), some ⟨V8.heap.size, 0, none⟩, 2, hE.out, by omega, by omega, by omega, Below.all7 hbq (by omega) _ _ _ _ _ _ _, Lies.far7 L9 (by omega) _ _ _ _ _ _ _, Lies.all7 L79 _ _ _ _ _ _ _, TIn.all7 _ hn9 (fun h => h.2 rfl) _ _ _ _ _ _ _⟩
     case measure =>
      have h8 := jAt_lies (Lies.all7 L79 (.int .i64 3) (.string ⟨#[]⟩) (.int .i64 0) (.int .i64 ta) (.slice (some ⟨V8.heap.size, 0, none⟩) 2 2) (.int .i64 j2) (.bool true))
      rw [h8, HJ.out]
      omega
   ·have ha' : atomicA l j = false := by simpa using ha
    rw [appL_stop ha'] at hE
    rw [ha'] at HAC
    have L9 := Lr
    have q9 := L9.seven
    replace hE := Lib.hid hE
    clear ha ha'
    go_wp2_with fail
    refine HAC.out.mono ?_
    rintro e w' ⟨rfl, rfl⟩
    go_wp2_with fail
    exact bodyPost_ret (res_got (p := 4) Tryz.results106 rfl (Lies.all7 L9 _ _ _ _ _ _ _)) rfl (gpost_ok (t := .node tk ts tn ta tl) (c := c2) hE.out hbw (TIn.wide _ hTa (fun g hg _ => hg.1)))
structure GAllF (l : List Tok) (A : Option Addr) (n c f : Nat) : Prop where
 expr : GC 49 l A n c 7 gExpr f
 lam : GC 73 l A n c 6 gLam f
 let_ : GC 74 l A n c 6 gLet f
 alt : GC 105 l A n c 6 gAlt f
 match_ : GCM l A n c f
 ops : ∀ lev, lev ≤ 3 → GCO l A n c f lev
 app : GC 106 l A n c 2 gApp f
 atom : GC 120 l A n c 1 gAtom f
theorem gall_up {l : List Tok} {A : Option Addr} {n c f : Nat} (T : GTok l n) (h : ∀ g, g ≤ f → GAllF l A n c g) : GAllF l A n c (f + 1) :=
 have h0 := h f (Nat.le_refl _)
 ⟨gexpr_any T h0.lam h0.let_ h0.match_ (h0.ops 0 (by omega)), glam_any T h0.expr, glet_any T h0.expr, galt_any T h0.expr, gmatch_any T h0.expr (fun g hg => (h g hg).alt),
  fun lev hl => gops_any T h0.app (fun g hg => (h g hg).ops) lev hl, gapp_any T (fun g hg => (h g hg).atom), gatom_any T h0.expr⟩
theorem gall {l : List Tok} {A : Option Addr} {n c : Nat} (T : GTok l n) : ∀ f g, g ≤ f → GAllF l A n c g
 | 0, g, hg => by
  obtain rfl : g = 0 := by omega
  refine ⟨?_, ?_, ?_, ?_, ?_, ?_, ?_, ?_⟩
  all_goals first | (intro i x w _ _ h; exfalso; omega) | (intro lev hl i x y w _ _ _ h; exfalso; omega)
 | f + 1, g, hg => by
  rcases Nat.lt_or_ge f g with h | h
  ·obtain rfl : g = f + 1 := by omega
   exact gall_up T (gall T f)
  ·exact gall T f g h
theorem runK_len {l : List UInt8} {k n : Int} (h : runK l = .ok (k, n)) : l.length ≤ 18 := by
 unfold runK at h
 split at h
 ·unfold numK at h
  split at h
  ·cases h
  ·split at h
   ·cases h
   ·rename_i h2
    simp only [not_or] at h2
    omega
 ·split at h
  ·cases h
  ·omega
theorem good_len {t : Tok} (h : Good t) : t.text.length ≤ 18 := by
 obtain ⟨l, h⟩ := h
 unfold tokK at h
 split at h
 ·split at h
  ·rename_i k n h1
   simp only [Except.ok.injEq, Prod.mk.injEq] at h
   rw [← h.2.2]
   exact runK_len h1
  ·cases h
 ·split at h
  ·rename_i g h1
   simp only [Except.ok.injEq, Prod.mk.injEq] at h
   rw [← h.2.2]
   have : ∀ g ∈ signsS, g.length ≤ 18 := by decide
   exact this g (List.mem_of_find?_eq_some h1)
  ·cases h
theorem allK_good {s : List UInt8} {ts : List Tok} (h : allK s = .ok ts) : ∀ t ∈ ts, Good t := scan_all_good _ _ _ _ h
theorem allK_len {s : List UInt8} {ts : List Tok} (h : allK s = .ok ts) : ts.length ≤ 2 * s.length := by
 have h1 := textS_bound _ _ _ _ h
 have h2 := textS_len ts (allK_good h)
 simp at h1
 omega
theorem resP {fn : Func} (h : fn.results = #[.cell 4 49, .tmp 5, .tmp 6]) {tmps : Array Value} {b0 : Nat} {a b c d e x y : Value} {w : World}
  (h4 : tmps.getD 4 undef = .pointer (some ⟨b0, 0, none⟩)) (h5 : tmps.getD 5 undef = x) (h6 : tmps.getD 6 undef = y) (L0 : Lies w b0 49 #[a, b, c, d, e]) :
  (results fn tmps).run Tryz.prog w = .ok (.tuple #[.agg #[a, b, c, d, e], x, y]) w := by
 obtain ⟨⟨z0, z1, z2, z3, z4⟩, _⟩ := L0.five
 have h4' : tmps[4]?.getD undef = .pointer (some ⟨b0, 0, none⟩) := by simpa using h4
 have h5' : tmps[5]?.getD undef = x := by simpa using h5
 have h6' : tmps[6]?.getD undef = y := by simpa using h6
 simp [results, h, h4', h5', h6', asAddr, go_sem, z0, z1, z2, z3, z4]

def blkEnd (l : List UInt8) (k : Nat) : Nat := k + run blkR (l.drop k)
theorem blkEnd_step {l : List UInt8} {k : Nat} {c : UInt8} {r : List UInt8} (h : l.drop k = c :: r) (hr : l.drop (k + 1) = r) (hc : blkR (c.toNat : Int) = true) : blkEnd l k = blkEnd l (k + 1) := by
 unfold blkEnd
 rw [h, hr, run]
 simp [hc]
 omega
theorem blkEnd_stop {l : List UInt8} {k : Nat} {c : UInt8} {r : List UInt8} (h : l.drop k = c :: r) (hc : blkR (c.toNat : Int) = false) : blkEnd l k = k := by
 unfold blkEnd
 rw [h, run]
 simp [hc]
theorem cls_blank (c : UInt8) : (clsV (c.toNat : Int) == 4) = blkR (c.toNat : Int) := by
 have := c.toNat_lt
 unfold clsV
 cases h1 : lowR (c.toNat : Int)
 ·cases h2 : upR (c.toNat : Int)
  ·cases h3 : digR (c.toNat : Int)
   ·cases h4 : blkR (c.toNat : Int) <;> simp
   ·have h4 : blkR (c.toNat : Int) = false := by simp [digR] at h3; simp [blkR]; omega
    simp [h4]
  ·have h4 : blkR (c.toNat : Int) = false := by simp [upR] at h2; simp [blkR]; omega
   simp [h4]
 ·have h4 : blkR (c.toNat : Int) = false := by simp [lowR] at h1; simp [blkR]; omega
  simp [h4]
theorem res_three {fn : Func} {p q r : Tmp} (h : fn.results = #[.tmp p, .tmp q, .tmp r]) {tmps : Array Value} {x y z : Value} (hp : tmps.getD p undef = x) (hq : tmps.getD q undef = y) (hr : tmps.getD r undef = z) {w : World} :
  (results fn tmps).run Tryz.prog w = .ok (.tuple #[x, y, z]) w := by
 subst hp hq hr
 simp only [results, h]
 simp
def RAllPost (w : World) (r : Except (Int × Int) (List Tok)) (e : Ending) (w' : World) : Prop :=
 (∀ ts, r = .ok ts → ∃ A c, e = .returned (.tuple #[.slice A ts.length c, .int .i64 0, .int .i64 0]) ∧ Row w' A ts) ∧
 (∀ p x, r = .error (p, x) → e = .returned (.tuple #[.slice none 0 0, .int .i64 p, .int .i64 x])) ∧ Below w.heap.size w w'
set_option maxHeartbeats 4000000 in
theorem rall_any (s : ByteArray) (w : World) (hs : s.size ≤ 60000) :
  Calls Tryz.prog 48 #[.string s] w fun e w' => RAllPost w (allK s.data.toList) e w' := by
 have hl0 := Lib.hid (Lib.size_eq s)
 go_enter Tryz.func48, Tryz.ntmps48
 go_wp2_with fail
 go_loopw [5, 6] (fun v a wr => ∃ (k f : Nat) (acc : List Tok), k ≤ s.size ∧ a = .int .i64 k ∧ s.size < blkEnd s.data.toList k + f ∧ acc.length ≤ k ∧ wr.ownsRow w.heap.size 75 4 v acc.length (cellsOf acc) ∧ Below w.heap.size w wr ∧ Hid (allK s.data.toList = glue acc (scan f (s.data.toList.drop (blkEnd s.data.toList k)) (blkEnd s.data.toList k)))) (fun _ a _ => s.size - (intOf a).toNat)
 case atStart =>
  refine ⟨0, s.size + 1, [], by omega, rfl, by omega, by simp, World.ownsRow_made w #[] 0 (Nat.le_refl _) (by simp [maxLen]) rfl, (Below.refl _ w).alloc (Nat.le_refl _) _, ?_⟩
  show allK s.data.toList = _
  have e : blkEnd s.data.toList 0 = run blkR s.data.toList := by simp [blkEnd]
  unfold allK
  rw [e, ← hl0.out]
  cases scan (s.size + 1) (s.data.toList.drop (run blkR s.data.toList)) (run blkR s.data.toList) <;> simp [glue]
 case round =>
  obtain ⟨k, f, acc, hk, rfl, hf, ha, hown, hbw, HS⟩ := hrel
  have hbs := hbw.size
  by_cases hlt : k < s.size
  ·have hlen : k < s.data.toList.length := by simpa using hlt
   have hb : s.data.toList[k]'hlen = s[k]'hlt := by simp [ByteArray.getElem_eq_getElem_data]
   have hD := List.drop_eq_getElem_cons hlen
   rw [hb] at hD
   obtain ⟨c, hc⟩ : ∃ c, s[k]'hlt = c := ⟨_, rfl⟩
   rw [hc] at hD
   have HC := fun w => Lib.hid (class_any (c.toNat : Int) w (u8_bd c).1 (u8_bd c).2)
   have HCB := Lib.hid (cls_blank c)
   obtain ⟨v0, hv0⟩ : ∃ v, v = clsV (c.toNat : Int) := ⟨_, rfl⟩
   rw [← hv0] at HC HCB
   clear hv0
   cases hbk : blkR (c.toNat : Int) with
   | true =>
    have hv4 : (v0 == 4) = true := by rw [HCB.out, hbk]
    have HE := Lib.hid (blkEnd_step hD rfl hbk)
    clear hbk
    go_wp2_with fail
    refine (HC _).out.mono ?_
    rintro e w2 ⟨rfl, rfl⟩
    go_wp2_with fail
    go_roundw
    case rel => exact ⟨k + 1, f, acc, by omega, by go_num, by rw [← HE.out]; exact hf, by omega, hown, hbw, by rw [← HE.out]; exact HS⟩
    case measure => simp [intOf]; omega
   | false =>
    have hv4 : (v0 == 4) = false := by rw [HCB.out, hbk]
    have hE := blkEnd_stop hD hbk
    rw [hE] at hf HS
    clear hbk hE
    obtain ⟨f, rfl⟩ : ∃ f', f = f' + 1 := ⟨f - 1, by omega⟩
    have HO := fun w => Lib.hid (one_both s k w hlt (by omega))
    cases htk : tokK (s.data.toList.drop k) with
    | error x =>
     have hx0 : (x == 0) = false := by rcases tokK_err htk with rfl | rfl <;> rfl
     have HE := Lib.hid (scan_bad (f := f) (k := k) (by intro e; have := congrArg List.length e; simp at this; omega) htk)
     have HT := Lib.hid htk
     clear htk
     go_wp2_with fail
     refine (HC _).out.mono ?_
     rintro e w2 ⟨rfl, rfl⟩
     go_wp2_with fail
     refine (HO _).out.mono ?_
     rintro e w2 ⟨_, he, hb2⟩
     obtain rfl := he x HT.out
     unfold noTokR
     go_wp2_with fail
     refine bodyPost_ret (res_three (p := 2) (q := 3) (r := 4) Tryz.results48 rfl rfl rfl) rfl ?_
     refine ⟨fun ts h => ?_, fun p y h => ?_, (hbw.trans (hb2.mono hbs)).alloc (Nat.le_trans hbs hb2.size) _⟩
     ·rw [HS.out, HE.out] at h; cases h
     ·rw [HS.out, HE.out] at h
      simp only [glue, Except.error.injEq, Prod.mk.injEq] at h
      rw [← h.1, ← h.2]
      try rfl
    | ok r =>
     obtain ⟨kd, n, t⟩ := r
     have hst := scan_step (l := s.data.toList) (by rw [← hl0.out]; exact hlt) (by rw [← hl0.out]; omega) ha htk HS.out
     rw [← hl0.out] at hst
     obtain ⟨s1, s2, s3, s4, s5⟩ := hst
     have HS5 := Lib.hid s5
     have ht1 := (tok_text htk).1
     have ht2 := (tok_text htk).2.1
     rw [List.length_drop, ← hl0.out] at ht2
     have HT := Lib.hid htk
     clear htk s5 HS
     go_wp2_with fail
     refine (HC _).out.mono ?_
     rintro e w2 ⟨rfl, rfl⟩
     go_wp2_with fail
     refine (HO _).out.mono ?_
     rintro e w2 ⟨he, _, hb2⟩
     obtain rfl := he kd n t HT.out
     unfold tokR
     have hown2 := own_below hown hb2 (Nat.le_refl _)
     have hsz2 := hb2.size
     obtain ⟨i0, hi, hz0, hz1, hz2⟩ := info_parts info33
     clear HC HCB HO hD hc hb
     go_wp2_with (at_builtin; refine wpList_append_own _ rfl _ _ 68 rfl w.heap.size 75 i0 _ 4 40 Tryz.underlying68 hi hz0 hz1 hz2 rfl (by decide) _ _ _ rfl ((hown2.alloc _).alloc _) ⟨w2.heap.size + 1, 0, none⟩ 1 1 [.int .i64 kd, .string ⟨t.toArray⟩, .int .i64 n, .int .i64 k] rfl rfl ?c1 ?c2 ?c3 ?c4 ?c5 ?_)
     case c1 => exact new_cells _ 75 [.int .i64 kd, .string ⟨t.toArray⟩, .int .i64 n, .int .i64 k] _ (by simp)
     case c2 => intro u hu; simp at hu; rcases hu with rfl | rfl | rfl | rfl <;> rfl
     case c3 => simp only [maxLen]; omega
     case c4 => omega
     case c5 => simp; omega
     intro v' w3 hown3 hg3 _
     have hL : Lies w3 w2.heap.size 75 #[.int .i64 kd, .string ⟨t.toArray⟩, .int .i64 n, .int .i64 k] :=
      ((Lies.new w2 75 _).old _).grown hg3 (fun e => by have := hown2.lt _ e.symm; omega)
     have hB3 : Below w.heap.size w w3 := ((((hbw.trans (hb2.mono hbs)).alloc (by omega) _).alloc (by simp; omega) _)).grown hg3 (by simp; omega) (fun q hq => (hown2.lt q hq).1)
     clear hi hz0 hz1 hz2 hg3 hown2
     obtain ⟨⟨_, c1, _, _⟩, _⟩ := hL.four
     go_wp2_with fail
     go_roundw
     case rel =>
      refine ⟨k + t.length, f, acc ++ [⟨kd, t, n, k⟩], by omega, by go_num, s3, by simp; omega, ?_, hB3, HS5⟩
      rw [cellsOf_snoc, List.length_append]
      exact hown3
     case measure => simp [intOf]; omega
  ·go_wp2_with fail
   refine bodyPost_ret (res_three (p := 2) (q := 3) (r := 4) Tryz.results48 rfl rfl rfl) rfl ?_
   have hkk : k = s.size := by omega
   have hE : blkEnd s.data.toList k = k := by
    unfold blkEnd
    rw [List.drop_eq_nil_of_le (by rw [← hl0.out]; omega)]
    rfl
   have hH := HS.out
   rw [hE, List.drop_eq_nil_of_le (by rw [← hl0.out]; omega), scan_end] at hH
   simp only [glue, List.append_nil] at hH
   refine ⟨fun ts h => ?_, fun p x h => ?_, hbw⟩
   ·rw [hH] at h
    cases h
    obtain ⟨A, c, rfl⟩ := own_slice hown
    exact ⟨A, c, rfl, Row.of_own hown⟩
   ·rw [hH] at h; cases h
theorem parseG_inv {s : List UInt8} {deep : Int} {t : Tr} (h : parseG s deep = .ok t) :
  (1 ≤ deep ∧ deep ≤ 200) ∧ s.length ≤ 4096 ∧ ∃ l j, allK s = .ok l ∧ gExpr (8 * l.length + 8) l 0 = .ok (t, j) ∧ l.length ≤ j ∧ (depthT t : Int) ≤ deep := by
 unfold parseG at h
 split at h
 ·cases h
 ·rename_i h1
  split at h
  ·cases h
  ·rename_i h2
   split at h
   ·cases h
   ·rename_i l hl
    split at h
    ·cases h
    ·rename_i t' j hg
     split at h
     ·cases h
     ·rename_i h3
      split at h
      ·cases h
      ·rename_i h4
       cases h
       exact ⟨by omega, by omega, l, j, hl, hg, by omega, by omega⟩
theorem gtok_of {s : List UInt8} {l : List Tok} (h : allK s = .ok l) (hs : s.length ≤ 4096) : GTok l l.length := by
 have h1 := allK_len h
 refine ⟨rfl, by omega, fun i => ?_⟩
 unfold nmAt
 cases hi : l[i]? with
 | none => decide
 | some t =>
  have h2 := good_len (allK_good h t (List.mem_of_getElem? hi))
  show t.text.toArray.size ≤ _
  rw [List.size_toArray]
  omega
set_option maxHeartbeats 8000000 in
theorem gparse_ok (s : ByteArray) (deep : Int) (t : Tr) (w : World) (h : parseG s.data.toList deep = .ok t) (hz : sizeT t ≤ 100000) :
  Calls Tryz.prog 31 #[.string s, .int .i64 deep] w fun x w' => Below w.heap.size w w' ∧ ∃ A c, x = .returned (.tuple #[tv t A c, .int .i64 0, .int .i64 0]) ∧ TIn w' (fun g => w.heap.size ≤ g) t A := by
 obtain ⟨⟨hd1, hd2⟩, hs, l, j, hl, hg, hj, hdp⟩ := parseG_inv h
 have T := gtok_of hl hs
 have hj2 := (prog_all _).expr l 0 t j hg
 have hsz : s.data.toList.length = s.size := by simp
 have HA := Lib.hid (fun W => rall_any s W (by omega))
 rw [hl] at HA
 obtain ⟨n, hn⟩ : ∃ n, n = l.length := ⟨_, rfl⟩
 have HN := Lib.hid hn
 have hjn1 : n ≤ j := by omega
 have hjn2 : j ≤ n := by omega
 have hs2 : ¬ (4096 : Int) < (s.size : Int) := by omega
 have hdlt : ¬ deep < 1 := by omega
 have hdgt : ¬ (200 : Int) < deep := by omega
 have HG := Lib.hid hg
 have hn6 := T.few
 clear h hs hl hg hsz hj hj2 hn
 have hb0 : Below w.heap.size w (w.alloc (.cells #[.int .i64 0, .string ⟨#[]⟩, .int .i64 0, .int .i64 0, .slice none 0 0] 49)) := (Below.refl _ w).alloc (Nat.le_refl _) _
 have hL := Lies.new w 49 #[.int .i64 0, .string ⟨#[]⟩, .int .i64 0, .int .i64 0, .slice none 0 0]
 go_enter Tryz.func31, Tryz.ntmps31
 go_wp2_with fail
 refine (HA.out _).mono ?_
 intro e w1 hP
 obtain ⟨A, c, rfl, hR⟩ := hP.1 l rfl
 have hb1 := hb0.trans (hP.2.2.mono hb0.size)
 have L1 := hL.below hP.2.2 (by simp)
 have HC := Lib.hid ((gall (c := c) T (8 * l.length + 8) _ (Nat.le_refl _)).expr 0 0 w1 rfl (by omega) (by omega) hR)
 rw [HG.out] at HC
 rw [← HN.out] at HC ⊢
 clear hb0 hL hP HA
 go_wp2_with fail
 refine HC.out.mono ?_
 intro e V hQ
 rcases hQ.split with ⟨j', hr, rfl⟩ | ⟨t', j', A2, c2, hr, rfl, hT⟩
 ·cases hr
 ·cases hr
  have hbV := hb1.trans (hQ.1.mono hb1.size)
  have LV := L1.below hQ.1 L1.lt
  have hsV := hQ.1.size
  have hs1 := L1.lt
  obtain ⟨tk, ts, tn, ta, tl⟩ := t
  simp only [Tr.kind, Tr.name, Tr.n, Tr.place, Tr.parts]
  have hdz : (depthT (.node tk ts tn ta tl) : Int) ≤ 200 := by omega
  have hD := fun W (h : TIn W Any (.node tk ts tn ta tl) A2) => rdepth_any (depthT (.node tk ts tn ta tl)) (.node tk ts tn ta tl) A2 c2 W (Nat.le_refl _) hz h
  obtain ⟨D, hDD⟩ : ∃ D, D = depthT (.node tk ts tn ta tl) := ⟨_, rfl⟩
  rw [← hDD] at hdp hdz hD
  have hT2 := TIn.below _ hT ((Below.refl _ V).alloc (Nat.le_refl _) (.cells #[.int .i64 tk, .string ts, .int .i64 tn, .int .i64 ta, .slice A2 tl.length (capF tl.length c2), .int .i64 j, .bool true] 72)) (Nat.le_refl _)
  have hb2 := hbV.alloc hbV.size (.cells #[.int .i64 tk, .string ts, .int .i64 tn, .int .i64 ta, .slice A2 tl.length (capF tl.length c2), .int .i64 j, .bool true] 72)
  have L2 := LV.old (.cells #[.int .i64 tk, .string ts, .int .i64 tn, .int .i64 ta, .slice A2 tl.length (capF tl.length c2), .int .i64 j, .bool true] 72)
  have LG := Lies.new V 72 #[.int .i64 tk, .string ts, .int .i64 tn, .int .i64 ta, .slice A2 tl.length (capF tl.length c2), .int .i64 j, .bool true]
  have hge : ¬ (j : Int) < (n : Int) := by omega
  have hdc : ¬ deep < (D : Int) := by omega
  have hD2 := hD _ (TIn.any _ hT2)
  simp only [tv, Tr.kind, Tr.name, Tr.n, Tr.place, Tr.parts] at hD2
  have HD := Lib.hid hD2
  clear hD hD2 hDD hbV LV hQ hT HC hR hz hdp
  go_wp2_with fail
  refine HD.out.mono ?_
  rintro e w4 ⟨rfl, hb4⟩
  have LG4 := LG.below hb4 (by simp)
  have L4 := L2.below hb4 L2.lt
  obtain ⟨⟨x0, x1, x2, x3, x4, x5, x6⟩, _⟩ := LG4.seven
  obtain ⟨⟨y0, y1, y2, y3, y4⟩, f0, f1, f2, f3, f4⟩ := L4.five
  have hT4 := TIn.below _ hT2 hb4 (Nat.le_refl _)
  have hb5 := hb2.trans (hb4.mono hb2.size)
  have HZ := Lib.hid (L4.all5 (.int .i64 tk) (.string ts) (.int .i64 tn) (.int .i64 ta) (.slice A2 tl.length (capF tl.length c2)))
  have hle : w.heap.size ≤ w.heap.size := Nat.le_refl _
  have HB := Lib.hid (((((hb5.setCell (p := ⟨w.heap.size, 0, none⟩) hle (.int .i64 tk)).setCell (p := ⟨w.heap.size, 1, none⟩) hle (.string ts)).setCell (p := ⟨w.heap.size, 2, none⟩) hle (.int .i64 tn)).setCell (p := ⟨w.heap.size, 3, none⟩) hle (.int .i64 ta)).setCell (p := ⟨w.heap.size, 4, none⟩) hle (.slice A2 tl.length (capF tl.length c2)))
  have hX : ¬ w1.heap.size ≤ w.heap.size := by omega
  have HT := Lib.hid (TIn.setCell _ (TIn.setCell _ (TIn.setCell _ (TIn.setCell _ (TIn.setCell _ hT4 ⟨w.heap.size, 0, none⟩ (.int .i64 tk) hX) ⟨w.heap.size, 1, none⟩ (.string ts) hX) ⟨w.heap.size, 2, none⟩ (.int .i64 tn) hX) ⟨w.heap.size, 3, none⟩ (.int .i64 ta) hX) ⟨w.heap.size, 4, none⟩ (.slice A2 tl.length (capF tl.length c2)) hX)
  clear L4 LG4 hT4 hb5 hT2 hb2 L2 LG hb4
  go_wp2_with fail
  refine bodyPost_ret (resP Tryz.results31 (b0 := w.heap.size) (x := .int .i64 0) (y := .int .i64 0) (by simp) (by simp) (by simp) HZ.out) rfl ?_
  exact ⟨HB.out, A2, c2, rfl, TIn.wide _ HT.out fun q hq _ => by have h9 : w1.heap.size ≤ q := hq; show w.heap.size ≤ q; omega⟩
end Lx
end Go.Proofs.YtiocmiikghcoaaaGreatDoor
namespace Go.Proofs.YtiocmiikghcoaaaGreatDoor
namespace Lx
set_option maxRecDepth 100000
def inN : List ByteArray → ByteArray → Bool
 | [], _ => false
 | x :: r, s => decide (x = s) || inN r s
def varsN : Int → List Tr → List ByteArray
 | _, [] => []
 | n, t :: r => if n < 1 then [] else t.name :: varsN (n - 1) r
def innerN (k n : Int) (s : ByteArray) (i : Nat) (l : List Tr) (b : List ByteArray) : List ByteArray :=
 if k = 2 ∨ k = 5 then b ++ [s] else if k = 4 then (if i = 1 then b ++ [s] else b) else if k = 8 then b ++ varsN n l else b
def fromN (k n : Int) : Nat := if k = 8 then n.toNat else 0
def ownN (k n : Int) (l : List Tr) : Int := if k = 6 then l.length else if k = 8 then n else -1
mutual
def metT : Tr → List (ByteArray × Int)
 | .node k s n _ l => (if 0 ≤ ownN k n l then [(s, ownN k n l)] else []) ++ metL k n 0 l
def metL (k n : Int) : Nat → List Tr → List (ByteArray × Int)
 | _, [] => []
 | i, t :: r => (if i < fromN k n then [] else metT t) ++ metL k n (i + 1) r
end
def ofN : List (ByteArray × Int) → ByteArray → Int
 | [], _ => -1
 | (x, n) :: r, s => if x = s then n else ofN r s
def onceN : List (ByteArray × Int) → List (ByteArray × Int) → List (ByteArray × Int)
 | a, [] => a
 | a, (x, n) :: r => if ofN a x < 0 then onceN (a ++ [(x, n)]) r else onceN a r
def heads5 : List (ByteArray × Int) := [(⟨#[84, 114, 117, 101]⟩, 0), (⟨#[70, 97, 108, 115, 101]⟩, 0)]
def consT (t : Tr) : List (ByteArray × Int) := onceN heads5 (metT t)
def twiceN : List ByteArray → Bool
 | [] => false
 | s :: r => inN r s || twiceN r
mutual
def badT (A : List (ByteArray × Int)) (b ahead : List ByteArray) : Tr → Int × Int
 | .node k s n a l =>
  if k = 1 ∧ inN b s = false then (a, 50) else
  if 0 ≤ ownN k n l ∧ ofN A s ≠ ownN k n l then (a, 51) else
  if k = 8 ∧ (twiceN (varsN n l) = true ∨ inN ahead s = true) then (a, 52) else
  badL A k n s l b 0 [] l
def badL (A : List (ByteArray × Int)) (k n : Int) (s : ByteArray) (all : List Tr) (b : List ByteArray) : Nat → List ByteArray → List Tr → Int × Int
 | _, _, [] => (0, 0)
 | i, ahead, t :: r =>
  if i < fromN k n then badL A k n s all b (i + 1) ahead r else
  if (badT A (innerN k n s i all b) ahead t).2 ≠ 0 then badT A (innerN k n s i all b) ahead t else
  badL A k n s all b (i + 1) (if k = 7 ∧ 0 < i then ahead ++ [t.name] else ahead) r
end

inductive Te where
 | node (kind : Int) (n : Int) (name : ByteArray) (l : List Te)

def Te.kind : Te → Int | .node k _ _ _ => k
def Te.n : Te → Int | .node _ n _ _ => n
def Te.name : Te → ByteArray | .node _ _ s _ => s
def Te.parts : Te → List Te | .node _ _ _ l => l

mutual
def depthE : Te → Nat
 | .node _ _ _ l => depthEL l + 1
def depthEL : List Te → Nat
 | [] => 0
 | t :: r => max (depthE t) (depthEL r)
end
mutual
def sizeE : Te → Nat
 | .node _ _ _ l => sizeEL l + 1
def sizeEL : List Te → Nat
 | [] => 0
 | t :: r => sizeE t + sizeEL r
end
mutual
def fewE : Te → Int → Int → Int
 | .node _ _ _ l, left, deep => if left < 1 ∨ deep < 1 then -1 else fewEL l (left - 1) (deep - 1)
def fewEL : List Te → Int → Int → Int
 | [], left, _ => left
 | t :: r, left, deep => if fewE t left deep < 0 then -1 else fewEL r (fewE t left deep) deep
end
mutual
def sameE : Te → Te → Bool
 | .node k n s l, .node k' n' s' l' => decide (k = k') && (decide (n = n') && (decide (s = s') && sameEL l l'))
def sameEL : List Te → List Te → Bool
 | [], [] => true
 | t :: r, t' :: r' => sameE t t' && sameEL r r'
 | _, _ => false
end

def standsE (k : Int) (i : Nat) (p : Int) : Bool := decide (k = 5 ∧ 0 < i) == decide (p = 6)
def moreE (k n : Int) : Int := if k = 2 then 1 else if k = 6 then n else 0
def headE (k n : Int) (s : List UInt8) (m : Nat) (free bound : Int) : Bool :=
 if k = 1 then s == [] && (decide (0 ≤ n) && (decide (n - bound < free) && decide (m = 0)))
 else if k = 2 then s == [] && (decide (n = 0) && decide (m = 1))
 else if k = 3 then s == [] && (decide (n = 0) && decide (m = 2))
 else if k = 4 then conV s && (decide (n = 0) && decide (m ≤ 8))
 else if k = 5 then s == [] && (decide (n = 0) && (decide (2 ≤ m) && decide (m ≤ 9)))
 else if k = 6 then conV s && (decide (0 ≤ n) && (decide (n ≤ 8) && decide (m = 1)))
 else if k = 7 then s == [] && decide (m = 0)
 else if k = 8 then opV s && (decide (n = 0) && decide (m = 2))
 else if k = 9 then s == [] && (decide (n = 0) && decide (m = 0))
 else false
def unlikeF : List Te → List Te → Bool
 | _, [] => true
 | met, t :: r => !(met.any fun u => decide (t.name = u.name)) && unlikeF (met ++ [t]) r
def unlikeE (l : List Te) : Bool := unlikeF [] l
mutual
def mayE : Te → Int → Int → Bool
 | .node k n s l, free, bound => headE k n s.data.toList l.length free bound && (mayEL k 0 l free (bound + moreE k n) && (!(decide (k = 5)) || unlikeE (l.drop 1)))
def mayEL (k : Int) : Nat → List Te → Int → Int → Bool
 | _, [], _, _ => true
 | i, t :: r, free, bound => standsE k i t.kind && (mayE t free bound && mayEL k (i + 1) r free bound)
end
def mayV6 (t : Te) (free : Int) : Bool := decide (0 ≤ free) && (decide (t.kind ≠ 6) && mayE t free 0)

theorem depthEL_snoc (l : List Te) (t : Te) : depthEL (l ++ [t]) = max (depthEL l) (depthE t) := by
 induction l with
 | nil => simp [depthEL]
 | cons a r ih => simp only [List.cons_append, depthEL, ih]; omega
theorem sizeEL_snoc (l : List Te) (t : Te) : sizeEL (l ++ [t]) = sizeEL l + sizeE t := by
 induction l with
 | nil => simp [sizeEL]
 | cons a r ih => simp only [List.cons_append, sizeEL, ih]; omega
theorem depthE_pos (t : Te) : 0 < depthE t := by cases t; simp [depthE]
theorem sizeE_pos (t : Te) : 0 < sizeE t := by cases t; simp [sizeE]
theorem depthEL_mem : ∀ (l : List Te) (t : Te), t ∈ l → depthE t ≤ depthEL l
 | [], t, h => by simp at h
 | a :: r, t, h => by
  rw [depthEL]
  rcases List.mem_cons.1 h with rfl | h
  ·omega
  ·have := depthEL_mem r t h; omega
theorem sizeEL_mem : ∀ (l : List Te) (t : Te), t ∈ l → sizeE t ≤ sizeEL l
 | [], t, h => by simp at h
 | a :: r, t, h => by
  rw [sizeEL]
  rcases List.mem_cons.1 h with rfl | h
  ·omega
  ·have := sizeEL_mem r t h; omega
theorem sizeEL_len : ∀ l : List Te, l.length ≤ sizeEL l
 | [] => by simp [sizeEL]
 | a :: r => by
  have := sizeEL_len r
  have := sizeE_pos a
  simp only [List.length_cons, sizeEL]; omega
mutual
theorem depthE_le_size : ∀ t : Te, depthE t ≤ sizeE t
 | .node _ _ _ l => by rw [depthE, sizeE]; have := depthEL_le_size l; omega
theorem depthEL_le_size : ∀ l : List Te, depthEL l ≤ sizeEL l
 | [] => by simp [depthEL]
 | t :: r => by rw [depthEL, sizeEL]; have := depthE_le_size t; have := depthEL_le_size r; omega
end
theorem depthEL_take (l : List Te) (i : Nat) : depthEL (l.take i) ≤ depthEL l := by
 induction l generalizing i with
 | nil => simp
 | cons a r ih =>
  cases i with
  | zero => simp [depthEL]
  | succ i => simp only [List.take_succ_cons, depthEL]; have := ih i; omega
theorem sizeEL_take (l : List Te) (i : Nat) : sizeEL (l.take i) ≤ sizeEL l := by
 induction l generalizing i with
 | nil => simp
 | cons a r ih =>
  cases i with
  | zero => simp [sizeEL]
  | succ i => simp only [List.take_succ_cons, sizeEL]; have := ih i; omega
theorem sameEL_len : ∀ l l' : List Te, sameEL l l' = true → l.length = l'.length
 | [], [], _ => rfl
 | [], _ :: _, h => by simp [sameEL] at h
 | _ :: _, [], h => by simp [sameEL] at h
 | a :: r, a' :: r', h => by
  rw [sameEL, Bool.and_eq_true] at h
  simp [sameEL_len r r' h.2]
mutual
theorem fewE_size : ∀ (t : Te) (a d : Int), 0 ≤ fewE t a d → (sizeE t : Int) + fewE t a d = a ∧ (depthE t : Int) ≤ d
 | .node _ _ _ l, a, d, h => by
  rw [fewE] at h ⊢
  split at h
  ·omega
  ·rename_i h1
   rw [if_neg h1]
   have h2 := fewE_sizeL l (a - 1) (d - 1) h
   rw [sizeE, depthE]
   rcases h2.2 with h4 | rfl
   ·omega
   ·simp only [depthEL, sizeEL] at h2 ⊢
    omega
theorem fewE_sizeL : ∀ (l : List Te) (a d : Int), 0 ≤ fewEL l a d → (sizeEL l : Int) + fewEL l a d = a ∧ ((depthEL l : Int) ≤ d ∨ l = [])
 | [], a, d, h => by simp [fewEL, sizeEL]
 | t :: r, a, d, h => by
  rw [fewEL] at h ⊢
  split at h
  ·omega
  ·rename_i h1
   rw [if_neg h1]
   have h2 := fewE_size t a d (by omega)
   have h3 := fewE_sizeL r (fewE t a d) d h
   rw [sizeEL, depthEL]
   refine ⟨by omega, .inl ?_⟩
   rcases h3.2 with h4 | rfl
   ·omega
   ·simp [depthEL]; omega
end
def findR : List ByteArray → ByteArray → Nat → Nat
 | [], _, _ => 0
 | x :: r, s, k => if x = s then k else findR r s (k + 1)
def findN (b : List ByteArray) (s : ByteArray) : Nat := findR b.reverse s 0
def lam7 (t : Te) : Te := .node 2 0 ⟨#[]⟩ [t]
def two7 (k : Int) (a b : Te) : Te := .node k 0 ⟨#[]⟩ [a, b]
def var7 (n : Int) : Te := .node 1 n ⟨#[]⟩ []
def half7 : Te := lam7 (two7 3 (var7 1) (two7 3 (var7 0) (var7 0)))
def loop7 : Te := lam7 (two7 3 half7 half7)
def hd0 (l : List Te) (i : Nat) : Te := l.getD i (.node 0 0 ⟨#[]⟩ [])
def kind7 (k : Int) : Int := if k = 10 then 8 else if k = 7 then 5 else 4
mutual
def termT : List ByteArray → Tr → Te
 | b, .node k s n _ l =>
  if k = 1 then var7 (findN b s)
  else if k = 2 then lam7 (hd0 (termL (b ++ [s]) l) 0)
  else if k = 3 then two7 3 (hd0 (termL b l) 0) (hd0 (termL b l) 1)
  else if k = 4 then two7 3 (lam7 (hd0 (termL (b ++ [s]) l) 1)) (hd0 (termL b l) 0)
  else if k = 5 then two7 3 (lam7 (hd0 (termL (b ++ [s]) l) 1)) (two7 3 loop7 (lam7 (hd0 (termL (b ++ [s]) l) 0)))
  else if k = 8 then .node 6 n s [hd0 (termL (b ++ varsN n l) l) n.toNat]
  else if k = 9 then .node 7 n ⟨#[]⟩ []
  else .node (kind7 k) 0 s (termL b l)
def termL : List ByteArray → List Tr → List Te
 | _, [] => []
 | b, t :: r => termT b t :: termL b r
end
theorem termL_map (b : List ByteArray) (l : List Tr) : termL b l = l.map (termT b) := by
 induction l with
 | nil => rfl
 | cons t r ih => rw [termL, ih]; rfl
theorem termL_at (b : List ByteArray) (l : List Tr) (i : Nat) (h : i < l.length) : hd0 (termL b l) i = termT b (l[i]'h) := by
 rw [termL_map, hd0, List.getD_eq_getElem?_getD, List.getElem?_map, List.getElem?_eq_getElem h]; rfl
theorem termL_take (b : List ByteArray) (l : List Tr) (i : Nat) (h : i < l.length) : termL b (l.take (i + 1)) = termL b (l.take i) ++ [termT b (l[i]'h)] := by
 rw [termL_map, termL_map, List.take_succ_eq_append_getElem h, List.map_append]; rfl
theorem termL_len (b : List ByteArray) (l : List Tr) : (termL b l).length = l.length := by rw [termL_map, List.length_map]
theorem findR_le (l : List ByteArray) (s : ByteArray) (k : Nat) : findR l s k ≤ k + l.length := by
 induction l generalizing k with
 | nil => simp [findR]
 | cons x r ih =>
  rw [findR]
  split
  ·simp
  ·have := ih (k + 1); simp; omega
theorem findN_le (b : List ByteArray) (s : ByteArray) : findN b s ≤ b.length := by
 have := findR_le b.reverse s 0; simp [findN] at this ⊢; omega
theorem take_succ_rev (b : List ByteArray) (i : Nat) (h : i < b.length) : (b.take (i + 1)).reverse = (b[i]'h) :: (b.take i).reverse := by
 rw [List.take_succ_eq_append_getElem h, List.reverse_append]; rfl
end Lx
end Go.Proofs.YtiocmiikghcoaaaGreatDoor
namespace Go.Proofs.YtiocmiikghcoaaaGreatDoor
namespace Lx
theorem byte_ext {s t : ByteArray} (h : s.data.toList = t.data.toList) : s = t := by
 obtain ⟨⟨a⟩⟩ := s
 obtain ⟨⟨b⟩⟩ := t
 simp at h
 rw [h]
end Lx
end Go.Proofs.YtiocmiikghcoaaaGreatDoor
