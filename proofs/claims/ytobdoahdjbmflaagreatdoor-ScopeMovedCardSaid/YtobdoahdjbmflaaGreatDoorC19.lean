/-
  Texts that lie one behind the other: GOps.
-/
import Derived.Test.YtobdoahdjbmflaaGreatDoorC18
namespace Go.Proofs.YtobdoahdjbmflaaGreatDoor
open Go.RowKit
namespace Lx
set_option maxRecDepth 100000
theorem opsL_stop {l : List Tok} {lev k j g : Nat} {a : Tr} (h : ¬ (signA l j lev = true ∧ ((0 : Int) < (lev : Int) ∨ k < 1))) : gOpsL (g + 1) l lev k a j = .ok (a, j) := by rw [gOpsL, if_neg h]
set_option maxHeartbeats 16000000 in
theorem gops_any {l : List Tok} {A : Option Addr} {n c f : Nat} (T : GTok l n) (HA : GC 91 l A n c 2 gApp f) (HO : ∀ g, g ≤ f → ∀ lev, lev ≤ 3 → GCO l A n c g lev) (lev : Nat) (hlev : lev ≤ 3) :
    GCO l A n c (f + 1) lev := by
  intro i x y w hx hy hi hf hR
  subst hx
  have HYL := Lib.hid hy
  have hy1 : (0 : Int) ≤ y := by omega
  have hy2 : y ≤ 3 := by omega
  have h6 := T.few
  have hb0 := below_seven (w := w)
  have hR1 := hR.at_new hb0
  have hL := Lies.new w 68 zero7
  by_cases h3 : lev = 3
  · have HC := Lib.hid (HA i (i : Int) (w.alloc (.cells zero7 68)) rfl hi (by omega) hR1)
    have HE : Hid (gOps (f + 1) l i lev = gApp f l i) := by
      refine Lib.hid ?_
      rw [gOps, if_pos (by omega)]
    obtain rfl : y = 3 := by omega
    clear hy
    go_enter Tryz.func62, Tryz.ntmps62
    go_wp2_with fail
    refine HC.out.mono ?_
    intro e V hG
    have hb := hb0.trans (hG.1.mono hb0.size)
    have L := hL.below hG.1 (by simp)
    rcases hG.split with ⟨j, hr, rfl⟩ | ⟨t, j, A2, c2, hr, rfl, hT⟩
    · have L9 := L
      have q9 := L9.seven
      go_wp2_with fail
      exact bodyPost_ret (res_got (p := 6) Tryz.results62 rfl (Lies.all7 L9 _ _ _ _ _ _ _)) rfl (gpost_err (HE.out.trans hr) hb)
    · have L9 := L
      have q9 := L9.seven
      go_wp2_with fail
      exact bodyPost_ret (res_got (p := 6) Tryz.results62 rfl (Lies.all7 L9 _ _ _ _ _ _ _)) rfl (gpost_ok (HE.out.trans hr) hb (TIn.wide _ hT (fun g hg _ => by simpa using hg)))
  · have h3'' : ¬ y = 3 := by omega
    have h3' : (y == 3) = false := by simpa using h3''
    have HC := Lib.hid (HO f (Nat.le_refl _) (lev + 1) (by omega) i (i : Int) (y + 1) (w.alloc (.cells zero7 68)) rfl (by rw [hy]; simp) hi (by omega) hR1)
    have HE : Hid (∀ r, gOps f l i ((lev + 1 : Nat) : Int) = r → gOps (f + 1) l i lev = (match r with | .error j => .error j | .ok (a, j) => gOpsL f l lev 0 a j)) := by
      refine Lib.hid fun r hr => ?_
      simp only [Int.natCast_add, Int.natCast_one] at hr
      rw [gOps, if_neg (by omega), hr]
      all_goals (rcases r with j9 | ⟨b9, j9⟩ <;> rfl)
    have hpo := (prog_all f).ops l i ((lev + 1 : Nat) : Int)
    clear hy
    go_enter Tryz.func62, Tryz.ntmps62
    go_wp2_with fail
    refine HC.out.mono ?_
    intro e V hG
    have hb := hb0.trans (hG.1.mono hb0.size)
    have L := hL.below hG.1 (by simp)
    have hsz := hG.1.size
    rcases hG.split with ⟨j, hr, rfl⟩ | ⟨t, j, A2, c2, hr, rfl, hT⟩
    · replace HE := Lib.hid (HE.out _ hr)
      have L9 := L.old (.cells #[.int .i64 0, .string ⟨#[]⟩, .int .i64 0, .int .i64 0, .slice none 0 0, .int .i64 j, .bool false] 68)
      have LE := Lies.new V 68 #[.int .i64 0, .string ⟨#[]⟩, .int .i64 0, .int .i64 0, .slice none 0 0, .int .i64 j, .bool false]
      obtain ⟨⟨q0, q1, q2, q3, q4, q5, q6⟩, _⟩ := LE.seven
      have q9 := L9.seven
      have hb9 := hb.alloc hb.size (.cells #[.int .i64 0, .string ⟨#[]⟩, .int .i64 0, .int .i64 0, .slice none 0 0, .int .i64 j, .bool false] 68)
      obtain ⟨VE, hVE⟩ : ∃ VE, VE = V.alloc (.cells #[.int .i64 0, .string ⟨#[]⟩, .int .i64 0, .int .i64 0, .slice none 0 0, .int .i64 j, .bool false] 68) := ⟨_, rfl⟩
      go_wp2_with fail
      rw [← hVE]
      rw [← hVE] at L9 q0 q1 q2 q3 q4 q5 q6 q9 hb9
      clear hVE LE
      go_loopw [8] (fun x wr => x = .int .i64 0 ∧ VE = wr) (fun x _ => 0)
      case atStart => exact ⟨rfl, rfl⟩
      case round =>
        obtain ⟨rfl, rfl⟩ := hrel
        go_wp2_with fail
        exact bodyPost_ret (res_got (p := 6) Tryz.results62 rfl (Lies.all7 L9 _ _ _ _ _ _ _)) rfl (gpost_err HE.out hb9)
    · replace HE := Lib.hid (HE.out _ hr)
      have hpr := hpo t j hr
      obtain ⟨pk, ps, pn, pa, pl⟩ := t
      simp only [Tr.kind, Tr.name, Tr.n, Tr.place, Tr.parts]
      have hln1 : n ≤ l.length := Nat.le_of_eq T.len
      have hln2 : l.length ≤ n := Nat.le_of_eq T.len.symm
      have hbA := hb.alloc hb.size (.cells #[.int .i64 pk, .string ps, .int .i64 pn, .int .i64 pa, .slice A2 pl.length (capF pl.length c2), .int .i64 j, .bool true] 68)
      have Lr := L.old (.cells #[.int .i64 pk, .string ps, .int .i64 pn, .int .i64 pa, .slice A2 pl.length (capF pl.length c2), .int .i64 j, .bool true] 68)
      have L7 := Lies.new V 68 #[.int .i64 pk, .string ps, .int .i64 pn, .int .i64 pa, .slice A2 pl.length (capF pl.length c2), .int .i64 j, .bool true]
      have hwV : w.heap.size + 1 ≤ V.heap.size := by simpa using hsz
      have hT7 := TIn.below _ (TIn.wide _ (Y := fun g => w.heap.size + 1 ≤ g ∧ g ≠ V.heap.size) hT (fun g hg hl => ⟨by simpa using hg, by omega⟩)) ((Below.refl _ V).alloc (Nat.le_refl _) (.cells #[.int .i64 pk, .string ps, .int .i64 pn, .int .i64 pa, .slice A2 pl.length (capF pl.length c2), .int .i64 j, .bool true] 68)) (Nat.le_refl _)
      obtain ⟨b7, hb7⟩ : ∃ b7, b7 = V.heap.size := ⟨_, rfl⟩
      rw [← hb7] at L7 hT7 hwV
      go_wp2_with fail
      rw [← hb7]
      obtain ⟨VA, hVA⟩ : ∃ VA, VA = V.alloc (.cells #[.int .i64 pk, .string ps, .int .i64 pn, .int .i64 pa, .slice A2 pl.length (capF pl.length c2), .int .i64 j, .bool true] 68) := ⟨_, rfl⟩
      rw [← hVA] at hbA Lr L7 hT7 ⊢
      clear hVA hb7 hb L hG hsz hL HC hpo HA hr hT
      go_loopw [8] (fun x wr => ∃ (k j g : Nat) (z : Int) (a : Tr) (B : Option Addr) (c2 : Nat), x = .int .i64 z ∧ z = (k : Int) ∧ gOps (f + 1) l i lev = gOpsL g l lev k a j ∧ 8 * (n - j) + 1 ≤ g ∧ g ≤ f ∧ j ≤ n ∧ k ≤ j ∧ Below w.heap.size w wr ∧ Lies wr w.heap.size 68 zero7 ∧
        Lies wr b7 68 #[.int .i64 a.kind, .string a.name, .int .i64 a.n, .int .i64 a.place, .slice B a.parts.length (capF a.parts.length c2), .int .i64 j, .bool true] ∧ TIn wr (fun g => w.heap.size + 1 ≤ g ∧ g ≠ b7) a B) (fun x _ => n + 1 - (intOf x).toNat)
      case atStart => exact ⟨0, j, f, 0, .node pk ps pn pa pl, A2, c2, rfl, rfl, HE.out, by omega, Nat.le_refl _, by omega, by omega, hbA, Lr, L7, hT7⟩
      case round =>
        clear hbA Lr L7 hT7 hpr HE
        obtain ⟨k, j, g, z, a, B, c2, rfl, hz, hE, hg1, hg2, hj, hkj, hbw, Lr, L7, hTa⟩ := hrel
        obtain ⟨g, rfl⟩ : ∃ q, g = q + 1 := ⟨g - 1, by omega⟩
        have hz1 : (0 : Int) ≤ z := by omega
        have hz2 : z ≤ 60000 := by omega
        have HZL := Lib.hid hz
        have hRw := hR.below hbw (Nat.le_refl _)
        obtain ⟨tk, ts, tn, ta, tl⟩ := a
        simp only [Tr.kind, Tr.name, Tr.n, Tr.place, Tr.parts] at L7
        obtain ⟨⟨q0, q1, q2, q3, q4, q5, q6⟩, _⟩ := L7.seven
        have HSG := Lib.hid (gsign_any (c := c) T j lev (j : Int) y wr rfl HYL.out (by omega) (by omega) hRw)
        by_cases hs : signA l j lev = true
        · by_cases h1 : (0 : Int) < y
          · have h1' : (0 : Int) < (lev : Int) ∨ k < 1 := .inl (by have := HYL.out; omega)
            clear hz
            have hjn : j < n := by rw [T.len]; exact sign_lt hs
            have HC := Lib.hid (HO g (by omega) (lev + 1) (by omega) (j + 1) ((j : Int) + 1) (y + 1) wr (by simp) (by rw [HYL.out]; simp) (by omega) (by omega) hRw)
            have HE2 : gOpsL (g + 1) l lev k (.node tk ts tn ta tl) j = (match gOps g l (j + 1) ((lev + 1 : Nat) : Int) with | .error j2 => .error j2 | .ok (b, j2) => gOpsL g l lev (k + 1) (.node 10 (nmAt l j) 0 ta [.node tk ts tn ta tl, b]) j2) := by
              rw [gOpsL, if_pos ⟨hs, h1'⟩]
              simp only [Int.natCast_add, Int.natCast_one]
              all_goals (rcases gOps g l (j + 1) ((lev : Int) + 1) with j9 | ⟨b9, j9⟩ <;> rfl)
            rw [HE2] at hE
            rw [hs] at HSG
            replace hE := Lib.hid hE
            have hpo := (prog_all g).ops l (j + 1) ((lev + 1 : Nat) : Int)
            clear hs HE2
            go_wp2_with fail
            refine HSG.out.mono ?_
            rintro e w' ⟨rfl, rfl⟩
            go_wp2_with fail
            refine HC.out.mono ?_
            intro e V2 hG2
            clear q0 q1 q2 q3 q4 q5 q6 HSG HC h1'
            try clear h1f
            try clear h2
            clear h1
            rcases hG2.split with ⟨j2, hr2, rfl⟩ | ⟨u, j2, A3, c3, hr2, rfl, hT2⟩
            · replace hE := hE.out
              rw [hr2] at hE
              have L9 := (Lr.below hG2.1 Lr.lt).old (.cells #[.int .i64 0, .string ⟨#[]⟩, .int .i64 0, .int .i64 0, .slice none 0 0, .int .i64 j2, .bool false] 68)
              have q9 := L9.seven
              have hb9 := hbw.trans (hG2.1.mono hbw.size)
              have hb9 := hb9.alloc hb9.size (.cells #[.int .i64 0, .string ⟨#[]⟩, .int .i64 0, .int .i64 0, .slice none 0 0, .int .i64 j2, .bool false] 68)
              go_wp2_with fail
              exact bodyPost_ret (res_got (p := 6) Tryz.results62 rfl (Lies.all7 L9 _ _ _ _ _ _ _)) rfl (gpost_err hE hb9)
            · replace hE := hE.out
              rw [hr2] at hE
              have hpr2 := hpo u j2 hr2
              obtain ⟨uk, us, un, ua, ul⟩ := u
              simp only [Tr.kind, Tr.name, Tr.n, Tr.place, Tr.parts]
              have hbb := hbw.trans (hG2.1.mono hbw.size)
              have hb1 := hbb.alloc hbb.size (.cells #[.int .i64 uk, .string us, .int .i64 un, .int .i64 ua, .slice A3 ul.length (capF ul.length c3), .int .i64 j2, .bool true] 68)
              have hR8 := hR.below hb1 (Nat.le_refl _)
              have L8 := (Lr.below hG2.1 Lr.lt).old (.cells #[.int .i64 uk, .string us, .int .i64 un, .int .i64 ua, .slice A3 ul.length (capF ul.length c3), .int .i64 j2, .bool true] 68)
              have hs7 := L7.lt
              have L7 := (L7.below hG2.1 L7.lt).old (.cells #[.int .i64 uk, .string us, .int .i64 un, .int .i64 ua, .slice A3 ul.length (capF ul.length c3), .int .i64 j2, .bool true] 68)
              have LT9 := Lies.new V2 68 #[.int .i64 uk, .string us, .int .i64 un, .int .i64 ua, .slice A3 ul.length (capF ul.length c3), .int .i64 j2, .bool true]
              have hsr := hbw.size
              have hs2 := hG2.1.size
              have hT1 := TIn.below _ (TIn.below _ hTa hG2.1 (Nat.le_refl _)) ((Below.refl _ V2).alloc (Nat.le_refl _) (.cells #[.int .i64 uk, .string us, .int .i64 un, .int .i64 ua, .slice A3 ul.length (capF ul.length c3), .int .i64 j2, .bool true] 68)) (Nat.le_refl _)
              have hT2 := TIn.below _ (TIn.wide _ (Y := fun g => w.heap.size + 1 ≤ g ∧ g ≠ b7) hT2 (fun g hg _ => by have h9 : wr.heap.size ≤ g := hg; exact ⟨by omega, by omega⟩)) ((Below.refl _ V2).alloc (Nat.le_refl _) (.cells #[.int .i64 uk, .string us, .int .i64 un, .int .i64 ua, .slice A3 ul.length (capF ul.length c3), .int .i64 j2, .bool true] 68)) (Nat.le_refl _)
              obtain ⟨g0, o, rfl, -, c5, -, -⟩ := hR8.get (i := j) (by rw [← T.len]; omega)
              obtain ⟨KW, hKW⟩ : ∃ KW, KW = nmAt l j := ⟨_, rfl⟩
              have hKWs : KW.size ≤ 140737488351232 := by rw [hKW]; exact T.small _
              rw [← hKW] at c5 hE
              clear hKW hR8 hRw T HO
              obtain ⟨b9, hb9'⟩ : ∃ b9, b9 = V2.heap.size := ⟨_, rfl⟩
              rw [← hb9'] at LT9
              go_upto_region 10 with fail
              rw [← hb9']
              generalize V2.alloc (.cells #[.int .i64 uk, .string us, .int .i64 un, .int .i64 ua, .slice A3 ul.length (capF ul.length c3), .int .i64 j2, .bool true] 68) = V8 at LT9 L7 L8 hb1 hT1 hT2 c5 ⊢
              have HS : Hid (∀ V', Below V8.heap.size V8 V' → (fun V' : World => (V'.cell? ⟨g0, o + j * 4 + 1, none⟩ = some (.string KW) ∧ V'.cell? ⟨b7, 0, none⟩ = some (.int .i64 tk) ∧ V'.cell? ⟨b7, 1, none⟩ = some (.string ts) ∧ V'.cell? ⟨b7, 2, none⟩ = some (.int .i64 tn) ∧ V'.cell? ⟨b7, 3, none⟩ = some (.int .i64 ta) ∧ V'.cell? ⟨b7, 4, none⟩ = some (.slice B tl.length (capF tl.length c2)) ∧ V'.cell? ⟨b7, 5, none⟩ = some (.int .i64 j) ∧ V'.cell? ⟨b9, 0, none⟩ = some (.int .i64 uk) ∧ V'.cell? ⟨b9, 1, none⟩ = some (.string us) ∧ V'.cell? ⟨b9, 2, none⟩ = some (.int .i64 un) ∧ V'.cell? ⟨b9, 3, none⟩ = some (.int .i64 ua) ∧ V'.cell? ⟨b9, 4, none⟩ = some (.slice A3 ul.length (capF ul.length c3)) ∧ V'.cell? ⟨b9, 5, none⟩ = some (.int .i64 j2))) V') := Lib.hid fun V' h =>
                ⟨(h.cell (p := ⟨g0, _, none⟩) (cell_lt c5)).trans c5, (h.cell (p := ⟨b7, 0, none⟩) L7.lt).trans (L7.cell 0), (h.cell (p := ⟨b7, 1, none⟩) L7.lt).trans (L7.cell 1), (h.cell (p := ⟨b7, 2, none⟩) L7.lt).trans (L7.cell 2), (h.cell (p := ⟨b7, 3, none⟩) L7.lt).trans (L7.cell 3), (h.cell (p := ⟨b7, 4, none⟩) L7.lt).trans (L7.cell 4), (h.cell (p := ⟨b7, 5, none⟩) L7.lt).trans (L7.cell 5), (h.cell (p := ⟨b9, 0, none⟩) LT9.lt).trans (LT9.cell 0), (h.cell (p := ⟨b9, 1, none⟩) LT9.lt).trans (LT9.cell 1), (h.cell (p := ⟨b9, 2, none⟩) LT9.lt).trans (LT9.cell 2), (h.cell (p := ⟨b9, 3, none⟩) LT9.lt).trans (LT9.cell 3), (h.cell (p := ⟨b9, 4, none⟩) LT9.lt).trans (LT9.cell 4), (h.cell (p := ⟨b9, 5, none⟩) LT9.lt).trans (LT9.cell 5)⟩
              have HY : Hid (∀ X, Below V8.heap.size V8 X → ∀ gs, Calls Tryz.prog 89 #[.agg #[.int .i64 10, .string KW, .int .i64 0, .int .i64 ta, .slice (some ⟨gs, 0, none⟩) 2 2], .int .i64 j2] X fun e w' => e = .returned (.agg #[.int .i64 10, .string KW, .int .i64 0, .int .i64 ta, .slice (some ⟨gs, 0, none⟩) 2 2, .int .i64 j2, .bool true]) ∧ Below X.heap.size X w') := Lib.hid fun X _ gs => gyes_j 10 0 ta KW (some ⟨gs, 0, none⟩) 2 2 j2 j2 X rfl
              have HL8 := Lib.hid L8
              have HL7 := Lib.hid L7
              have HT1 := Lib.hid hT1
              have HT2 := Lib.hid hT2
              have HE4 := Lib.hid hE
              have HB1 := Lib.hid hb1
              have HKW := Lib.hid hKWs
              have h8 := hb1.size
              have h9 := L8.lt
              have h7 := L7.lt
              clear c5 LT9 L7 L8 hT1 hT2 hTa hb1 hb9' hE hbb hG2 Lr hr2 hpo hKWs hbw hR hR1 hb0 hs2 hsr
              have hb_1 : Below V8.heap.size V8 V8 := Below.refl _ _
              refine wp_region_K (S := (fun V' : World => (V'.cell? ⟨g0, o + j * 4 + 1, none⟩ = some (.string KW) ∧ V'.cell? ⟨b7, 0, none⟩ = some (.int .i64 tk) ∧ V'.cell? ⟨b7, 1, none⟩ = some (.string ts) ∧ V'.cell? ⟨b7, 2, none⟩ = some (.int .i64 tn) ∧ V'.cell? ⟨b7, 3, none⟩ = some (.int .i64 ta) ∧ V'.cell? ⟨b7, 4, none⟩ = some (.slice B tl.length (capF tl.length c2)) ∧ V'.cell? ⟨b7, 5, none⟩ = some (.int .i64 j) ∧ V'.cell? ⟨b9, 0, none⟩ = some (.int .i64 uk) ∧ V'.cell? ⟨b9, 1, none⟩ = some (.string us) ∧ V'.cell? ⟨b9, 2, none⟩ = some (.int .i64 un) ∧ V'.cell? ⟨b9, 3, none⟩ = some (.int .i64 ua) ∧ V'.cell? ⟨b9, 4, none⟩ = some (.slice A3 ul.length (capF ul.length c3)) ∧ V'.cell? ⟨b9, 5, none⟩ = some (.int .i64 j2)))) 18 rfl (HS.out _ hb_1.drew) (fun hSs => ?_)
              change wpAnyK _ _ _ _ _ _ 19 (Array.replicate 19 false) _ _
              refine wpAnyK_take (i := 0) (oi := ⟨some 50, _, _, _, _, _⟩) (v := .slice (some ⟨g0, o, none⟩) n c) rfl (by kernel_rfl) (by kernel_rfl) (by kernel_rfl) (by kernel_rfl) (fun _ _ _ h => h) (.inl ⟨by kernel_rfl, fun W hW => by kernel_rfl⟩) hSs ?_
              try simp only [Act.put, List.setIfInBounds_toArray, List.set_cons_zero, List.set_cons_succ]
              refine wpAnyK_take (i := 1) (oi := ⟨some 51, _, _, _, _, _⟩) (v := .pointer (some ⟨b7, 5, none⟩)) rfl (by kernel_rfl) (by kernel_rfl) (by kernel_rfl) (by kernel_rfl) (fun _ _ _ h => h) (.inl ⟨by kernel_rfl, fun W hW => by first | (obtain ⟨z0, z1, z2, z3, z4, z5, z6, z7, z8, z9, z10, z11, z12⟩ := hW; go_simp; done) | (obtain ⟨z0, z1, z2, z3, z4, z5, z6, z7, z8, z9, z10, z11, z12⟩ := hW; go_simp; omega) | (obtain ⟨z0, z1, z2, z3, z4, z5, z6, z7, z8, z9, z10, z11, z12⟩ := hW; go_simp; simp [*]; done)⟩) hSs ?_
              try simp only [Act.put, List.setIfInBounds_toArray, List.set_cons_zero, List.set_cons_succ]
              refine wpAnyK_take (i := 2) (oi := ⟨some 52, _, _, _, _, _⟩) (v := .int .i64 j) rfl (by kernel_rfl) (by kernel_rfl) (by kernel_rfl) (by kernel_rfl) (fun _ _ _ h => h) (.inl ⟨by kernel_rfl, fun W hW => by first | (obtain ⟨z0, z1, z2, z3, z4, z5, z6, z7, z8, z9, z10, z11, z12⟩ := hW; go_simp; done) | (obtain ⟨z0, z1, z2, z3, z4, z5, z6, z7, z8, z9, z10, z11, z12⟩ := hW; go_simp; omega) | (obtain ⟨z0, z1, z2, z3, z4, z5, z6, z7, z8, z9, z10, z11, z12⟩ := hW; go_simp; simp [*]; done)⟩) hSs ?_
              try simp only [Act.put, List.setIfInBounds_toArray, List.set_cons_zero, List.set_cons_succ]
              refine wpAnyK_take (i := 3) (oi := ⟨some 53, _, _, _, _, _⟩) (v := .pointer (some ⟨g0, o + j * 4, none⟩)) rfl (by kernel_rfl) (by kernel_rfl) (by kernel_rfl) (by kernel_rfl) (fun _ _ _ h => h) (.inl ⟨by kernel_rfl, fun W hW => by first | (obtain ⟨z0, z1, z2, z3, z4, z5, z6, z7, z8, z9, z10, z11, z12⟩ := hW; go_simp; done) | (obtain ⟨z0, z1, z2, z3, z4, z5, z6, z7, z8, z9, z10, z11, z12⟩ := hW; go_simp; omega) | (obtain ⟨z0, z1, z2, z3, z4, z5, z6, z7, z8, z9, z10, z11, z12⟩ := hW; go_simp; simp [*]; done)⟩) hSs ?_
              try simp only [Act.put, List.setIfInBounds_toArray, List.set_cons_zero, List.set_cons_succ]
              refine wpAnyK_take (i := 4) (oi := ⟨some 54, _, _, _, _, _⟩) (v := .pointer (some ⟨g0, o + j * 4 + 1, none⟩)) rfl (by kernel_rfl) (by kernel_rfl) (by kernel_rfl) (by kernel_rfl) (fun _ _ _ h => h) (.inl ⟨by kernel_rfl, fun W hW => by first | (obtain ⟨z0, z1, z2, z3, z4, z5, z6, z7, z8, z9, z10, z11, z12⟩ := hW; go_simp; done) | (obtain ⟨z0, z1, z2, z3, z4, z5, z6, z7, z8, z9, z10, z11, z12⟩ := hW; go_simp; omega) | (obtain ⟨z0, z1, z2, z3, z4, z5, z6, z7, z8, z9, z10, z11, z12⟩ := hW; go_simp; simp [*]; done)⟩) hSs ?_
              try simp only [Act.put, List.setIfInBounds_toArray, List.set_cons_zero, List.set_cons_succ]
              refine wpAnyK_take (i := 5) (oi := ⟨some 55, _, _, _, _, _⟩) (v := .string KW) rfl (by kernel_rfl) (by kernel_rfl) (by kernel_rfl) (by kernel_rfl) (fun _ _ _ h => h) (.inl ⟨by kernel_rfl, fun W hW => by first | (obtain ⟨z0, z1, z2, z3, z4, z5, z6, z7, z8, z9, z10, z11, z12⟩ := hW; go_simp; done) | (obtain ⟨z0, z1, z2, z3, z4, z5, z6, z7, z8, z9, z10, z11, z12⟩ := hW; go_simp; omega) | (obtain ⟨z0, z1, z2, z3, z4, z5, z6, z7, z8, z9, z10, z11, z12⟩ := hW; go_simp; simp [*]; done)⟩) hSs ?_
              try simp only [Act.put, List.setIfInBounds_toArray, List.set_cons_zero, List.set_cons_succ]
              refine wpAnyK_take (i := 6) (oi := ⟨some 56, _, _, _, _, _⟩) (v := .pointer (some ⟨b7, 0, none⟩)) rfl (by kernel_rfl) (by kernel_rfl) (by kernel_rfl) (by kernel_rfl) (fun _ _ _ h => h) (.inl ⟨by kernel_rfl, fun W hW => by first | (obtain ⟨z0, z1, z2, z3, z4, z5, z6, z7, z8, z9, z10, z11, z12⟩ := hW; go_simp; done) | (obtain ⟨z0, z1, z2, z3, z4, z5, z6, z7, z8, z9, z10, z11, z12⟩ := hW; go_simp; omega) | (obtain ⟨z0, z1, z2, z3, z4, z5, z6, z7, z8, z9, z10, z11, z12⟩ := hW; go_simp; simp [*]; done)⟩) hSs ?_
              try simp only [Act.put, List.setIfInBounds_toArray, List.set_cons_zero, List.set_cons_succ]
              refine wpAnyK_take (i := 7) (oi := ⟨some 57, _, _, _, _, _⟩) (v := .pointer (some ⟨b7, 3, none⟩)) rfl (by kernel_rfl) (by kernel_rfl) (by kernel_rfl) (by kernel_rfl) (fun _ _ _ h => h) (.inl ⟨by kernel_rfl, fun W hW => by first | (obtain ⟨z0, z1, z2, z3, z4, z5, z6, z7, z8, z9, z10, z11, z12⟩ := hW; go_simp; done) | (obtain ⟨z0, z1, z2, z3, z4, z5, z6, z7, z8, z9, z10, z11, z12⟩ := hW; go_simp; omega) | (obtain ⟨z0, z1, z2, z3, z4, z5, z6, z7, z8, z9, z10, z11, z12⟩ := hW; go_simp; simp [*]; done)⟩) hSs ?_
              try simp only [Act.put, List.setIfInBounds_toArray, List.set_cons_zero, List.set_cons_succ]
              refine wpAnyK_take (i := 8) (oi := ⟨some 58, _, _, _, _, _⟩) (v := .int .i64 ta) rfl (by kernel_rfl) (by kernel_rfl) (by kernel_rfl) (by kernel_rfl) (fun _ _ _ h => h) (.inl ⟨by kernel_rfl, fun W hW => by first | (obtain ⟨z0, z1, z2, z3, z4, z5, z6, z7, z8, z9, z10, z11, z12⟩ := hW; go_simp; done) | (obtain ⟨z0, z1, z2, z3, z4, z5, z6, z7, z8, z9, z10, z11, z12⟩ := hW; go_simp; omega) | (obtain ⟨z0, z1, z2, z3, z4, z5, z6, z7, z8, z9, z10, z11, z12⟩ := hW; go_simp; simp [*]; done)⟩) hSs ?_
              try simp only [Act.put, List.setIfInBounds_toArray, List.set_cons_zero, List.set_cons_succ]
              refine wpAnyK_take (i := 9) (oi := ⟨some 59, _, _, _, _, _⟩) (v := .pointer (some ⟨b7, 0, none⟩)) rfl (by kernel_rfl) (by kernel_rfl) (by kernel_rfl) (by kernel_rfl) (fun _ _ _ h => h) (.inl ⟨by kernel_rfl, fun W hW => by first | (obtain ⟨z0, z1, z2, z3, z4, z5, z6, z7, z8, z9, z10, z11, z12⟩ := hW; go_simp; done) | (obtain ⟨z0, z1, z2, z3, z4, z5, z6, z7, z8, z9, z10, z11, z12⟩ := hW; go_simp; omega) | (obtain ⟨z0, z1, z2, z3, z4, z5, z6, z7, z8, z9, z10, z11, z12⟩ := hW; go_simp; simp [*]; done)⟩) hSs ?_
              try simp only [Act.put, List.setIfInBounds_toArray, List.set_cons_zero, List.set_cons_succ]
              refine wpAnyK_take (i := 10) (oi := ⟨some 60, _, _, _, _, _⟩) (v := .agg #[.int .i64 tk, .string ts, .int .i64 tn, .int .i64 ta, .slice B tl.length (capF tl.length c2)]) rfl (by kernel_rfl) (by kernel_rfl) (by kernel_rfl) (by kernel_rfl) (fun _ _ _ h => h) (.inl ⟨by kernel_rfl, fun W hW => by first | (obtain ⟨z0, z1, z2, z3, z4, z5, z6, z7, z8, z9, z10, z11, z12⟩ := hW; go_simp; done) | (obtain ⟨z0, z1, z2, z3, z4, z5, z6, z7, z8, z9, z10, z11, z12⟩ := hW; go_simp; omega) | (obtain ⟨z0, z1, z2, z3, z4, z5, z6, z7, z8, z9, z10, z11, z12⟩ := hW; go_simp; simp [*]; done)⟩) hSs ?_
              try simp only [Act.put, List.setIfInBounds_toArray, List.set_cons_zero, List.set_cons_succ]
              refine wpAnyK_take (i := 11) (oi := ⟨some 61, _, _, _, _, _⟩) (v := .pointer (some ⟨b9, 0, none⟩)) rfl (by kernel_rfl) (by kernel_rfl) (by kernel_rfl) (by kernel_rfl) (fun _ _ _ h => h) (.inl ⟨by kernel_rfl, fun W hW => by first | (obtain ⟨z0, z1, z2, z3, z4, z5, z6, z7, z8, z9, z10, z11, z12⟩ := hW; go_simp; done) | (obtain ⟨z0, z1, z2, z3, z4, z5, z6, z7, z8, z9, z10, z11, z12⟩ := hW; go_simp; omega) | (obtain ⟨z0, z1, z2, z3, z4, z5, z6, z7, z8, z9, z10, z11, z12⟩ := hW; go_simp; simp [*]; done)⟩) hSs ?_
              try simp only [Act.put, List.setIfInBounds_toArray, List.set_cons_zero, List.set_cons_succ]
              refine wpAnyK_take (i := 12) (oi := ⟨some 62, _, _, _, _, _⟩) (v := .agg #[.int .i64 uk, .string us, .int .i64 un, .int .i64 ua, .slice A3 ul.length (capF ul.length c3)]) rfl (by kernel_rfl) (by kernel_rfl) (by kernel_rfl) (by kernel_rfl) (fun _ _ _ h => h) (.inl ⟨by kernel_rfl, fun W hW => by first | (obtain ⟨z0, z1, z2, z3, z4, z5, z6, z7, z8, z9, z10, z11, z12⟩ := hW; go_simp; done) | (obtain ⟨z0, z1, z2, z3, z4, z5, z6, z7, z8, z9, z10, z11, z12⟩ := hW; go_simp; omega) | (obtain ⟨z0, z1, z2, z3, z4, z5, z6, z7, z8, z9, z10, z11, z12⟩ := hW; go_simp; simp [*]; done)⟩) hSs ?_
              try simp only [Act.put, List.setIfInBounds_toArray, List.set_cons_zero, List.set_cons_succ]
              refine wpAnyK_take (i := 15) (oi := ⟨some 65, _, _, _, _, _⟩) (v := .pointer (some ⟨b9, 5, none⟩)) rfl (by kernel_rfl) (by kernel_rfl) (by kernel_rfl) (by kernel_rfl) (fun _ _ _ h => h) (.inl ⟨by kernel_rfl, fun W hW => by first | (obtain ⟨z0, z1, z2, z3, z4, z5, z6, z7, z8, z9, z10, z11, z12⟩ := hW; go_simp; done) | (obtain ⟨z0, z1, z2, z3, z4, z5, z6, z7, z8, z9, z10, z11, z12⟩ := hW; go_simp; omega) | (obtain ⟨z0, z1, z2, z3, z4, z5, z6, z7, z8, z9, z10, z11, z12⟩ := hW; go_simp; simp [*]; done)⟩) hSs ?_
              try simp only [Act.put, List.setIfInBounds_toArray, List.set_cons_zero, List.set_cons_succ]
              refine wpAnyK_take (i := 16) (oi := ⟨some 66, _, _, _, _, _⟩) (v := .int .i64 j2) rfl (by kernel_rfl) (by kernel_rfl) (by kernel_rfl) (by kernel_rfl) (fun _ _ _ h => h) (.inl ⟨by kernel_rfl, fun W hW => by first | (obtain ⟨z0, z1, z2, z3, z4, z5, z6, z7, z8, z9, z10, z11, z12⟩ := hW; go_simp; done) | (obtain ⟨z0, z1, z2, z3, z4, z5, z6, z7, z8, z9, z10, z11, z12⟩ := hW; go_simp; omega) | (obtain ⟨z0, z1, z2, z3, z4, z5, z6, z7, z8, z9, z10, z11, z12⟩ := hW; go_simp; simp [*]; done)⟩) hSs ?_
              try simp only [Act.put, List.setIfInBounds_toArray, List.set_cons_zero, List.set_cons_succ]
              refine wpAnyK_one (i := 13) rfl rfl (by kernel_rfl) (fun K hK => ?_)
              go_simp
              have hb_2 := Below.alloc hb_1 hb_1.size (.cells #[.int .i64 tk, .string ts, .int .i64 tn, .int .i64 ta, .slice B tl.length (capF tl.length c2), .int .i64 uk, .string us, .int .i64 un, .int .i64 ua, .slice A3 ul.length (capF ul.length c3)] 24)
              have hl_2 : Lies (V8.alloc (.cells #[.int .i64 tk, .string ts, .int .i64 tn, .int .i64 ta, .slice B tl.length (capF tl.length c2), .int .i64 uk, .string us, .int .i64 un, .int .i64 ua, .slice A3 ul.length (capF ul.length c3)] 24)) (V8.heap.size) 24 #[.int .i64 tk, .string ts, .int .i64 tn, .int .i64 ta, .slice B tl.length (capF tl.length c2), .int .i64 uk, .string us, .int .i64 un, .int .i64 ua, .slice A3 ul.length (capF ul.length c3)] := Lies.new _ _ _
              refine hK.out _ _ (fun _ => HS.out _ (hb_2.drew)) (fun hS9 => ?_)
              have hS_2 := hS9 (by decide)
              clear hK K hS9
              try simp only [Act.put, List.setIfInBounds_toArray, List.set_cons_zero, List.set_cons_succ]
              refine wpAnyK_take (i := 14) (oi := ⟨some 64, _, _, _, _, _⟩) (v := .agg #[.int .i64 10, .string KW, .int .i64 0, .int .i64 ta, .slice (some ⟨V8.heap.size, 0, none⟩) 2 2]) rfl (by kernel_rfl) (by kernel_rfl) (by kernel_rfl) (by kernel_rfl) (fun _ _ _ h => h) (.inl ⟨by kernel_rfl, fun W hW => by first | (obtain ⟨z0, z1, z2, z3, z4, z5, z6, z7, z8, z9, z10, z11, z12⟩ := hW; go_simp; done) | (obtain ⟨z0, z1, z2, z3, z4, z5, z6, z7, z8, z9, z10, z11, z12⟩ := hW; go_simp; omega) | (obtain ⟨z0, z1, z2, z3, z4, z5, z6, z7, z8, z9, z10, z11, z12⟩ := hW; go_simp; simp [*]; done)⟩) hS_2 ?_
              try simp only [Act.put, List.setIfInBounds_toArray, List.set_cons_zero, List.set_cons_succ]
              refine wpAnyK_one (i := 17) rfl rfl (by kernel_rfl) (fun K hK => ?_)
              go_simp
              refine (HY.out _ (hb_2.drew) (V8.heap.size)).mono ?_
              rintro e u_3 ⟨rfl, hq_3⟩
              have hb_3 := (hb_2.drew).trans (hq_3.mono (hb_2.drew).size)
              have hl_2_3 := (hl_2.drew).below hq_3 hl_2.lt
              refine hK.out _ _ (fun _ => HS.out _ hb_3) (fun hS9 => ?_)
              have hS_3 := hS9 (by decide)
              clear hK K hS9
              try simp only [Act.put, List.setIfInBounds_toArray, List.set_cons_zero, List.set_cons_succ]
              refine wpAnyK_one (i := 18) rfl rfl (by kernel_rfl) (fun K hK => ?_)
              have hz_4 := hb_3.size
              have l7_4 := HL7.out.below hb_3 HL7.out.lt
              have hn_4 : TIn u_3 (fun g => w.heap.size + 1 ≤ g ∧ g ≠ b7) (.node 10 KW 0 ta [.node tk ts tn ta tl, .node uk us un ua ul]) (some ⟨V8.heap.size, 0, none⟩) := TIn.mk HKW.out (by simp) (LIn.two (c1 := c2) (c2 := c3) hl_2_3 rfl ⟨by omega, by omega⟩ (TIn.below _ HT1.out hb_3 (Nat.le_refl _)) (TIn.below _ HT2.out hb_3 (Nat.le_refl _)))
              refine wp_store_let (F := fun W9 => Below w.heap.size w W9 ∧ Lies W9 w.heap.size 68 zero7 ∧ Lies W9 b7 68 #[.int .i64 10, .string KW, .int .i64 0, .int .i64 ta, .slice (some ⟨V8.heap.size, 0, none⟩) 2 2, .int .i64 j2, .bool true] ∧ TIn W9 (fun g => w.heap.size + 1 ≤ g ∧ g ≠ b7) (.node 10 KW 0 ta [.node tk ts tn ta tl, .node uk us un ua ul]) (some ⟨V8.heap.size, 0, none⟩)) _ _ _ rfl b7 0 #[.int .i64 10, .string KW, .int .i64 0, .int .i64 ta, .slice (some ⟨V8.heap.size, 0, none⟩) 2 2, .int .i64 j2, .bool true] rfl rfl (lies_there l7_4 rfl) (by kernel_rfl) (by simp [Value.oneCell']) ⟨below_setCells (HB1.out.trans (hb_3.mono HB1.out.size)) (by omega) _ _, lies_setOff (HL8.out.below hb_3 HL8.out.lt) (by omega) _ _, lies_set7 l7_4 _ _ _ _ _ _ _, tin_setOff _ hn_4 (fun h => h.2 rfl) _ _⟩ (fun W_4 hF_4 => ?_)
              refine hK.out _ _ (fun h => absurd rfl h) (fun _ => ?_)
              clear hK K
              try simp only [Act.put, List.setIfInBounds_toArray]
              refine wpAnyK_done (by kernel_rfl) ?_ _
              obtain ⟨f1, f2, f3, f4⟩ := hF_4
              go_wp2_with fail
              go_roundw
              case rel =>
                exact ⟨k + 1, j2, g, z + 1, (.node 10 KW 0 ta [.node tk ts tn ta tl, .node uk us un ua ul]), some ⟨V8.heap.size, 0, none⟩, 2, rfl, by have := HZL.out; omega, HE4.out, by omega, by omega, by omega, by omega, f1, f2, f3, f4⟩
              case measure =>
                have := HZL.out
                simp [intOf]
                omega
          · by_cases h2 : z < 1
            · have h1' : (0 : Int) < (lev : Int) ∨ k < 1 := .inr (by omega)
              have h1f : decide ((0 : Int) < y) = false := decide_eq_false h1
              clear hz
              have hjn : j < n := by rw [T.len]; exact sign_lt hs
              have HC := Lib.hid (HO g (by omega) (lev + 1) (by omega) (j + 1) ((j : Int) + 1) (y + 1) wr (by simp) (by rw [HYL.out]; simp) (by omega) (by omega) hRw)
              have HE2 : gOpsL (g + 1) l lev k (.node tk ts tn ta tl) j = (match gOps g l (j + 1) ((lev + 1 : Nat) : Int) with | .error j2 => .error j2 | .ok (b, j2) => gOpsL g l lev (k + 1) (.node 10 (nmAt l j) 0 ta [.node tk ts tn ta tl, b]) j2) := by
                rw [gOpsL, if_pos ⟨hs, h1'⟩]
                simp only [Int.natCast_add, Int.natCast_one]
                all_goals (rcases gOps g l (j + 1) ((lev : Int) + 1) with j9 | ⟨b9, j9⟩ <;> rfl)
              rw [HE2] at hE
              rw [hs] at HSG
              replace hE := Lib.hid hE
              have hpo := (prog_all g).ops l (j + 1) ((lev + 1 : Nat) : Int)
              clear hs HE2
              go_wp2_with fail
              refine HSG.out.mono ?_
              rintro e w' ⟨rfl, rfl⟩
              go_wp2_with fail
              refine HC.out.mono ?_
              intro e V2 hG2
              clear q0 q1 q2 q3 q4 q5 q6 HSG HC h1'
              try clear h1f
              try clear h2
              clear h1
              rcases hG2.split with ⟨j2, hr2, rfl⟩ | ⟨u, j2, A3, c3, hr2, rfl, hT2⟩
              · replace hE := hE.out
                rw [hr2] at hE
                have L9 := (Lr.below hG2.1 Lr.lt).old (.cells #[.int .i64 0, .string ⟨#[]⟩, .int .i64 0, .int .i64 0, .slice none 0 0, .int .i64 j2, .bool false] 68)
                have q9 := L9.seven
                have hb9 := hbw.trans (hG2.1.mono hbw.size)
                have hb9 := hb9.alloc hb9.size (.cells #[.int .i64 0, .string ⟨#[]⟩, .int .i64 0, .int .i64 0, .slice none 0 0, .int .i64 j2, .bool false] 68)
                go_wp2_with fail
                exact bodyPost_ret (res_got (p := 6) Tryz.results62 rfl (Lies.all7 L9 _ _ _ _ _ _ _)) rfl (gpost_err hE hb9)
              · replace hE := hE.out
                rw [hr2] at hE
                have hpr2 := hpo u j2 hr2
                obtain ⟨uk, us, un, ua, ul⟩ := u
                simp only [Tr.kind, Tr.name, Tr.n, Tr.place, Tr.parts]
                have hbb := hbw.trans (hG2.1.mono hbw.size)
                have hb1 := hbb.alloc hbb.size (.cells #[.int .i64 uk, .string us, .int .i64 un, .int .i64 ua, .slice A3 ul.length (capF ul.length c3), .int .i64 j2, .bool true] 68)
                have hR8 := hR.below hb1 (Nat.le_refl _)
                have L8 := (Lr.below hG2.1 Lr.lt).old (.cells #[.int .i64 uk, .string us, .int .i64 un, .int .i64 ua, .slice A3 ul.length (capF ul.length c3), .int .i64 j2, .bool true] 68)
                have hs7 := L7.lt
                have L7 := (L7.below hG2.1 L7.lt).old (.cells #[.int .i64 uk, .string us, .int .i64 un, .int .i64 ua, .slice A3 ul.length (capF ul.length c3), .int .i64 j2, .bool true] 68)
                have LT9 := Lies.new V2 68 #[.int .i64 uk, .string us, .int .i64 un, .int .i64 ua, .slice A3 ul.length (capF ul.length c3), .int .i64 j2, .bool true]
                have hsr := hbw.size
                have hs2 := hG2.1.size
                have hT1 := TIn.below _ (TIn.below _ hTa hG2.1 (Nat.le_refl _)) ((Below.refl _ V2).alloc (Nat.le_refl _) (.cells #[.int .i64 uk, .string us, .int .i64 un, .int .i64 ua, .slice A3 ul.length (capF ul.length c3), .int .i64 j2, .bool true] 68)) (Nat.le_refl _)
                have hT2 := TIn.below _ (TIn.wide _ (Y := fun g => w.heap.size + 1 ≤ g ∧ g ≠ b7) hT2 (fun g hg _ => by have h9 : wr.heap.size ≤ g := hg; exact ⟨by omega, by omega⟩)) ((Below.refl _ V2).alloc (Nat.le_refl _) (.cells #[.int .i64 uk, .string us, .int .i64 un, .int .i64 ua, .slice A3 ul.length (capF ul.length c3), .int .i64 j2, .bool true] 68)) (Nat.le_refl _)
                obtain ⟨g0, o, rfl, -, c5, -, -⟩ := hR8.get (i := j) (by rw [← T.len]; omega)
                obtain ⟨KW, hKW⟩ : ∃ KW, KW = nmAt l j := ⟨_, rfl⟩
                have hKWs : KW.size ≤ 140737488351232 := by rw [hKW]; exact T.small _
                rw [← hKW] at c5 hE
                clear hKW hR8 hRw T HO
                obtain ⟨b9, hb9'⟩ : ∃ b9, b9 = V2.heap.size := ⟨_, rfl⟩
                rw [← hb9'] at LT9
                go_upto_region 10 with fail
                rw [← hb9']
                generalize V2.alloc (.cells #[.int .i64 uk, .string us, .int .i64 un, .int .i64 ua, .slice A3 ul.length (capF ul.length c3), .int .i64 j2, .bool true] 68) = V8 at LT9 L7 L8 hb1 hT1 hT2 c5 ⊢
                have HS : Hid (∀ V', Below V8.heap.size V8 V' → (fun V' : World => (V'.cell? ⟨g0, o + j * 4 + 1, none⟩ = some (.string KW) ∧ V'.cell? ⟨b7, 0, none⟩ = some (.int .i64 tk) ∧ V'.cell? ⟨b7, 1, none⟩ = some (.string ts) ∧ V'.cell? ⟨b7, 2, none⟩ = some (.int .i64 tn) ∧ V'.cell? ⟨b7, 3, none⟩ = some (.int .i64 ta) ∧ V'.cell? ⟨b7, 4, none⟩ = some (.slice B tl.length (capF tl.length c2)) ∧ V'.cell? ⟨b7, 5, none⟩ = some (.int .i64 j) ∧ V'.cell? ⟨b9, 0, none⟩ = some (.int .i64 uk) ∧ V'.cell? ⟨b9, 1, none⟩ = some (.string us) ∧ V'.cell? ⟨b9, 2, none⟩ = some (.int .i64 un) ∧ V'.cell? ⟨b9, 3, none⟩ = some (.int .i64 ua) ∧ V'.cell? ⟨b9, 4, none⟩ = some (.slice A3 ul.length (capF ul.length c3)) ∧ V'.cell? ⟨b9, 5, none⟩ = some (.int .i64 j2))) V') := Lib.hid fun V' h =>
                  ⟨(h.cell (p := ⟨g0, _, none⟩) (cell_lt c5)).trans c5, (h.cell (p := ⟨b7, 0, none⟩) L7.lt).trans (L7.cell 0), (h.cell (p := ⟨b7, 1, none⟩) L7.lt).trans (L7.cell 1), (h.cell (p := ⟨b7, 2, none⟩) L7.lt).trans (L7.cell 2), (h.cell (p := ⟨b7, 3, none⟩) L7.lt).trans (L7.cell 3), (h.cell (p := ⟨b7, 4, none⟩) L7.lt).trans (L7.cell 4), (h.cell (p := ⟨b7, 5, none⟩) L7.lt).trans (L7.cell 5), (h.cell (p := ⟨b9, 0, none⟩) LT9.lt).trans (LT9.cell 0), (h.cell (p := ⟨b9, 1, none⟩) LT9.lt).trans (LT9.cell 1), (h.cell (p := ⟨b9, 2, none⟩) LT9.lt).trans (LT9.cell 2), (h.cell (p := ⟨b9, 3, none⟩) LT9.lt).trans (LT9.cell 3), (h.cell (p := ⟨b9, 4, none⟩) LT9.lt).trans (LT9.cell 4), (h.cell (p := ⟨b9, 5, none⟩) LT9.lt).trans (LT9.cell 5)⟩
                have HY : Hid (∀ X, Below V8.heap.size V8 X → ∀ gs, Calls Tryz.prog 89 #[.agg #[.int .i64 10, .string KW, .int .i64 0, .int .i64 ta, .slice (some ⟨gs, 0, none⟩) 2 2], .int .i64 j2] X fun e w' => e = .returned (.agg #[.int .i64 10, .string KW, .int .i64 0, .int .i64 ta, .slice (some ⟨gs, 0, none⟩) 2 2, .int .i64 j2, .bool true]) ∧ Below X.heap.size X w') := Lib.hid fun X _ gs => gyes_j 10 0 ta KW (some ⟨gs, 0, none⟩) 2 2 j2 j2 X rfl
                have HL8 := Lib.hid L8
                have HL7 := Lib.hid L7
                have HT1 := Lib.hid hT1
                have HT2 := Lib.hid hT2
                have HE4 := Lib.hid hE
                have HB1 := Lib.hid hb1
                have HKW := Lib.hid hKWs
                have h8 := hb1.size
                have h9 := L8.lt
                have h7 := L7.lt
                clear c5 LT9 L7 L8 hT1 hT2 hTa hb1 hb9' hE hbb hG2 Lr hr2 hpo hKWs hbw hR hR1 hb0 hs2 hsr
                have hb_1 : Below V8.heap.size V8 V8 := Below.refl _ _
                refine wp_region_K (S := (fun V' : World => (V'.cell? ⟨g0, o + j * 4 + 1, none⟩ = some (.string KW) ∧ V'.cell? ⟨b7, 0, none⟩ = some (.int .i64 tk) ∧ V'.cell? ⟨b7, 1, none⟩ = some (.string ts) ∧ V'.cell? ⟨b7, 2, none⟩ = some (.int .i64 tn) ∧ V'.cell? ⟨b7, 3, none⟩ = some (.int .i64 ta) ∧ V'.cell? ⟨b7, 4, none⟩ = some (.slice B tl.length (capF tl.length c2)) ∧ V'.cell? ⟨b7, 5, none⟩ = some (.int .i64 j) ∧ V'.cell? ⟨b9, 0, none⟩ = some (.int .i64 uk) ∧ V'.cell? ⟨b9, 1, none⟩ = some (.string us) ∧ V'.cell? ⟨b9, 2, none⟩ = some (.int .i64 un) ∧ V'.cell? ⟨b9, 3, none⟩ = some (.int .i64 ua) ∧ V'.cell? ⟨b9, 4, none⟩ = some (.slice A3 ul.length (capF ul.length c3)) ∧ V'.cell? ⟨b9, 5, none⟩ = some (.int .i64 j2)))) 18 rfl (HS.out _ hb_1.drew) (fun hSs => ?_)
                change wpAnyK _ _ _ _ _ _ 19 (Array.replicate 19 false) _ _
                refine wpAnyK_take (i := 0) (oi := ⟨some 50, _, _, _, _, _⟩) (v := .slice (some ⟨g0, o, none⟩) n c) rfl (by kernel_rfl) (by kernel_rfl) (by kernel_rfl) (by kernel_rfl) (fun _ _ _ h => h) (.inl ⟨by kernel_rfl, fun W hW => by kernel_rfl⟩) hSs ?_
                try simp only [Act.put, List.setIfInBounds_toArray, List.set_cons_zero, List.set_cons_succ]
                refine wpAnyK_take (i := 1) (oi := ⟨some 51, _, _, _, _, _⟩) (v := .pointer (some ⟨b7, 5, none⟩)) rfl (by kernel_rfl) (by kernel_rfl) (by kernel_rfl) (by kernel_rfl) (fun _ _ _ h => h) (.inl ⟨by kernel_rfl, fun W hW => by first | (obtain ⟨z0, z1, z2, z3, z4, z5, z6, z7, z8, z9, z10, z11, z12⟩ := hW; go_simp; done) | (obtain ⟨z0, z1, z2, z3, z4, z5, z6, z7, z8, z9, z10, z11, z12⟩ := hW; go_simp; omega) | (obtain ⟨z0, z1, z2, z3, z4, z5, z6, z7, z8, z9, z10, z11, z12⟩ := hW; go_simp; simp [*]; done)⟩) hSs ?_
                try simp only [Act.put, List.setIfInBounds_toArray, List.set_cons_zero, List.set_cons_succ]
                refine wpAnyK_take (i := 2) (oi := ⟨some 52, _, _, _, _, _⟩) (v := .int .i64 j) rfl (by kernel_rfl) (by kernel_rfl) (by kernel_rfl) (by kernel_rfl) (fun _ _ _ h => h) (.inl ⟨by kernel_rfl, fun W hW => by first | (obtain ⟨z0, z1, z2, z3, z4, z5, z6, z7, z8, z9, z10, z11, z12⟩ := hW; go_simp; done) | (obtain ⟨z0, z1, z2, z3, z4, z5, z6, z7, z8, z9, z10, z11, z12⟩ := hW; go_simp; omega) | (obtain ⟨z0, z1, z2, z3, z4, z5, z6, z7, z8, z9, z10, z11, z12⟩ := hW; go_simp; simp [*]; done)⟩) hSs ?_
                try simp only [Act.put, List.setIfInBounds_toArray, List.set_cons_zero, List.set_cons_succ]
                refine wpAnyK_take (i := 3) (oi := ⟨some 53, _, _, _, _, _⟩) (v := .pointer (some ⟨g0, o + j * 4, none⟩)) rfl (by kernel_rfl) (by kernel_rfl) (by kernel_rfl) (by kernel_rfl) (fun _ _ _ h => h) (.inl ⟨by kernel_rfl, fun W hW => by first | (obtain ⟨z0, z1, z2, z3, z4, z5, z6, z7, z8, z9, z10, z11, z12⟩ := hW; go_simp; done) | (obtain ⟨z0, z1, z2, z3, z4, z5, z6, z7, z8, z9, z10, z11, z12⟩ := hW; go_simp; omega) | (obtain ⟨z0, z1, z2, z3, z4, z5, z6, z7, z8, z9, z10, z11, z12⟩ := hW; go_simp; simp [*]; done)⟩) hSs ?_
                try simp only [Act.put, List.setIfInBounds_toArray, List.set_cons_zero, List.set_cons_succ]
                refine wpAnyK_take (i := 4) (oi := ⟨some 54, _, _, _, _, _⟩) (v := .pointer (some ⟨g0, o + j * 4 + 1, none⟩)) rfl (by kernel_rfl) (by kernel_rfl) (by kernel_rfl) (by kernel_rfl) (fun _ _ _ h => h) (.inl ⟨by kernel_rfl, fun W hW => by first | (obtain ⟨z0, z1, z2, z3, z4, z5, z6, z7, z8, z9, z10, z11, z12⟩ := hW; go_simp; done) | (obtain ⟨z0, z1, z2, z3, z4, z5, z6, z7, z8, z9, z10, z11, z12⟩ := hW; go_simp; omega) | (obtain ⟨z0, z1, z2, z3, z4, z5, z6, z7, z8, z9, z10, z11, z12⟩ := hW; go_simp; simp [*]; done)⟩) hSs ?_
                try simp only [Act.put, List.setIfInBounds_toArray, List.set_cons_zero, List.set_cons_succ]
                refine wpAnyK_take (i := 5) (oi := ⟨some 55, _, _, _, _, _⟩) (v := .string KW) rfl (by kernel_rfl) (by kernel_rfl) (by kernel_rfl) (by kernel_rfl) (fun _ _ _ h => h) (.inl ⟨by kernel_rfl, fun W hW => by first | (obtain ⟨z0, z1, z2, z3, z4, z5, z6, z7, z8, z9, z10, z11, z12⟩ := hW; go_simp; done) | (obtain ⟨z0, z1, z2, z3, z4, z5, z6, z7, z8, z9, z10, z11, z12⟩ := hW; go_simp; omega) | (obtain ⟨z0, z1, z2, z3, z4, z5, z6, z7, z8, z9, z10, z11, z12⟩ := hW; go_simp; simp [*]; done)⟩) hSs ?_
                try simp only [Act.put, List.setIfInBounds_toArray, List.set_cons_zero, List.set_cons_succ]
                refine wpAnyK_take (i := 6) (oi := ⟨some 56, _, _, _, _, _⟩) (v := .pointer (some ⟨b7, 0, none⟩)) rfl (by kernel_rfl) (by kernel_rfl) (by kernel_rfl) (by kernel_rfl) (fun _ _ _ h => h) (.inl ⟨by kernel_rfl, fun W hW => by first | (obtain ⟨z0, z1, z2, z3, z4, z5, z6, z7, z8, z9, z10, z11, z12⟩ := hW; go_simp; done) | (obtain ⟨z0, z1, z2, z3, z4, z5, z6, z7, z8, z9, z10, z11, z12⟩ := hW; go_simp; omega) | (obtain ⟨z0, z1, z2, z3, z4, z5, z6, z7, z8, z9, z10, z11, z12⟩ := hW; go_simp; simp [*]; done)⟩) hSs ?_
                try simp only [Act.put, List.setIfInBounds_toArray, List.set_cons_zero, List.set_cons_succ]
                refine wpAnyK_take (i := 7) (oi := ⟨some 57, _, _, _, _, _⟩) (v := .pointer (some ⟨b7, 3, none⟩)) rfl (by kernel_rfl) (by kernel_rfl) (by kernel_rfl) (by kernel_rfl) (fun _ _ _ h => h) (.inl ⟨by kernel_rfl, fun W hW => by first | (obtain ⟨z0, z1, z2, z3, z4, z5, z6, z7, z8, z9, z10, z11, z12⟩ := hW; go_simp; done) | (obtain ⟨z0, z1, z2, z3, z4, z5, z6, z7, z8, z9, z10, z11, z12⟩ := hW; go_simp; omega) | (obtain ⟨z0, z1, z2, z3, z4, z5, z6, z7, z8, z9, z10, z11, z12⟩ := hW; go_simp; simp [*]; done)⟩) hSs ?_
                try simp only [Act.put, List.setIfInBounds_toArray, List.set_cons_zero, List.set_cons_succ]
                refine wpAnyK_take (i := 8) (oi := ⟨some 58, _, _, _, _, _⟩) (v := .int .i64 ta) rfl (by kernel_rfl) (by kernel_rfl) (by kernel_rfl) (by kernel_rfl) (fun _ _ _ h => h) (.inl ⟨by kernel_rfl, fun W hW => by first | (obtain ⟨z0, z1, z2, z3, z4, z5, z6, z7, z8, z9, z10, z11, z12⟩ := hW; go_simp; done) | (obtain ⟨z0, z1, z2, z3, z4, z5, z6, z7, z8, z9, z10, z11, z12⟩ := hW; go_simp; omega) | (obtain ⟨z0, z1, z2, z3, z4, z5, z6, z7, z8, z9, z10, z11, z12⟩ := hW; go_simp; simp [*]; done)⟩) hSs ?_
                try simp only [Act.put, List.setIfInBounds_toArray, List.set_cons_zero, List.set_cons_succ]
                refine wpAnyK_take (i := 9) (oi := ⟨some 59, _, _, _, _, _⟩) (v := .pointer (some ⟨b7, 0, none⟩)) rfl (by kernel_rfl) (by kernel_rfl) (by kernel_rfl) (by kernel_rfl) (fun _ _ _ h => h) (.inl ⟨by kernel_rfl, fun W hW => by first | (obtain ⟨z0, z1, z2, z3, z4, z5, z6, z7, z8, z9, z10, z11, z12⟩ := hW; go_simp; done) | (obtain ⟨z0, z1, z2, z3, z4, z5, z6, z7, z8, z9, z10, z11, z12⟩ := hW; go_simp; omega) | (obtain ⟨z0, z1, z2, z3, z4, z5, z6, z7, z8, z9, z10, z11, z12⟩ := hW; go_simp; simp [*]; done)⟩) hSs ?_
                try simp only [Act.put, List.setIfInBounds_toArray, List.set_cons_zero, List.set_cons_succ]
                refine wpAnyK_take (i := 10) (oi := ⟨some 60, _, _, _, _, _⟩) (v := .agg #[.int .i64 tk, .string ts, .int .i64 tn, .int .i64 ta, .slice B tl.length (capF tl.length c2)]) rfl (by kernel_rfl) (by kernel_rfl) (by kernel_rfl) (by kernel_rfl) (fun _ _ _ h => h) (.inl ⟨by kernel_rfl, fun W hW => by first | (obtain ⟨z0, z1, z2, z3, z4, z5, z6, z7, z8, z9, z10, z11, z12⟩ := hW; go_simp; done) | (obtain ⟨z0, z1, z2, z3, z4, z5, z6, z7, z8, z9, z10, z11, z12⟩ := hW; go_simp; omega) | (obtain ⟨z0, z1, z2, z3, z4, z5, z6, z7, z8, z9, z10, z11, z12⟩ := hW; go_simp; simp [*]; done)⟩) hSs ?_
                try simp only [Act.put, List.setIfInBounds_toArray, List.set_cons_zero, List.set_cons_succ]
                refine wpAnyK_take (i := 11) (oi := ⟨some 61, _, _, _, _, _⟩) (v := .pointer (some ⟨b9, 0, none⟩)) rfl (by kernel_rfl) (by kernel_rfl) (by kernel_rfl) (by kernel_rfl) (fun _ _ _ h => h) (.inl ⟨by kernel_rfl, fun W hW => by first | (obtain ⟨z0, z1, z2, z3, z4, z5, z6, z7, z8, z9, z10, z11, z12⟩ := hW; go_simp; done) | (obtain ⟨z0, z1, z2, z3, z4, z5, z6, z7, z8, z9, z10, z11, z12⟩ := hW; go_simp; omega) | (obtain ⟨z0, z1, z2, z3, z4, z5, z6, z7, z8, z9, z10, z11, z12⟩ := hW; go_simp; simp [*]; done)⟩) hSs ?_
                try simp only [Act.put, List.setIfInBounds_toArray, List.set_cons_zero, List.set_cons_succ]
                refine wpAnyK_take (i := 12) (oi := ⟨some 62, _, _, _, _, _⟩) (v := .agg #[.int .i64 uk, .string us, .int .i64 un, .int .i64 ua, .slice A3 ul.length (capF ul.length c3)]) rfl (by kernel_rfl) (by kernel_rfl) (by kernel_rfl) (by kernel_rfl) (fun _ _ _ h => h) (.inl ⟨by kernel_rfl, fun W hW => by first | (obtain ⟨z0, z1, z2, z3, z4, z5, z6, z7, z8, z9, z10, z11, z12⟩ := hW; go_simp; done) | (obtain ⟨z0, z1, z2, z3, z4, z5, z6, z7, z8, z9, z10, z11, z12⟩ := hW; go_simp; omega) | (obtain ⟨z0, z1, z2, z3, z4, z5, z6, z7, z8, z9, z10, z11, z12⟩ := hW; go_simp; simp [*]; done)⟩) hSs ?_
                try simp only [Act.put, List.setIfInBounds_toArray, List.set_cons_zero, List.set_cons_succ]
                refine wpAnyK_take (i := 15) (oi := ⟨some 65, _, _, _, _, _⟩) (v := .pointer (some ⟨b9, 5, none⟩)) rfl (by kernel_rfl) (by kernel_rfl) (by kernel_rfl) (by kernel_rfl) (fun _ _ _ h => h) (.inl ⟨by kernel_rfl, fun W hW => by first | (obtain ⟨z0, z1, z2, z3, z4, z5, z6, z7, z8, z9, z10, z11, z12⟩ := hW; go_simp; done) | (obtain ⟨z0, z1, z2, z3, z4, z5, z6, z7, z8, z9, z10, z11, z12⟩ := hW; go_simp; omega) | (obtain ⟨z0, z1, z2, z3, z4, z5, z6, z7, z8, z9, z10, z11, z12⟩ := hW; go_simp; simp [*]; done)⟩) hSs ?_
                try simp only [Act.put, List.setIfInBounds_toArray, List.set_cons_zero, List.set_cons_succ]
                refine wpAnyK_take (i := 16) (oi := ⟨some 66, _, _, _, _, _⟩) (v := .int .i64 j2) rfl (by kernel_rfl) (by kernel_rfl) (by kernel_rfl) (by kernel_rfl) (fun _ _ _ h => h) (.inl ⟨by kernel_rfl, fun W hW => by first | (obtain ⟨z0, z1, z2, z3, z4, z5, z6, z7, z8, z9, z10, z11, z12⟩ := hW; go_simp; done) | (obtain ⟨z0, z1, z2, z3, z4, z5, z6, z7, z8, z9, z10, z11, z12⟩ := hW; go_simp; omega) | (obtain ⟨z0, z1, z2, z3, z4, z5, z6, z7, z8, z9, z10, z11, z12⟩ := hW; go_simp; simp [*]; done)⟩) hSs ?_
                try simp only [Act.put, List.setIfInBounds_toArray, List.set_cons_zero, List.set_cons_succ]
                refine wpAnyK_one (i := 13) rfl rfl (by kernel_rfl) (fun K hK => ?_)
                go_simp
                have hb_2 := Below.alloc hb_1 hb_1.size (.cells #[.int .i64 tk, .string ts, .int .i64 tn, .int .i64 ta, .slice B tl.length (capF tl.length c2), .int .i64 uk, .string us, .int .i64 un, .int .i64 ua, .slice A3 ul.length (capF ul.length c3)] 24)
                have hl_2 : Lies (V8.alloc (.cells #[.int .i64 tk, .string ts, .int .i64 tn, .int .i64 ta, .slice B tl.length (capF tl.length c2), .int .i64 uk, .string us, .int .i64 un, .int .i64 ua, .slice A3 ul.length (capF ul.length c3)] 24)) (V8.heap.size) 24 #[.int .i64 tk, .string ts, .int .i64 tn, .int .i64 ta, .slice B tl.length (capF tl.length c2), .int .i64 uk, .string us, .int .i64 un, .int .i64 ua, .slice A3 ul.length (capF ul.length c3)] := Lies.new _ _ _
                refine hK.out _ _ (fun _ => HS.out _ (hb_2.drew)) (fun hS9 => ?_)
                have hS_2 := hS9 (by decide)
                clear hK K hS9
                try simp only [Act.put, List.setIfInBounds_toArray, List.set_cons_zero, List.set_cons_succ]
                refine wpAnyK_take (i := 14) (oi := ⟨some 64, _, _, _, _, _⟩) (v := .agg #[.int .i64 10, .string KW, .int .i64 0, .int .i64 ta, .slice (some ⟨V8.heap.size, 0, none⟩) 2 2]) rfl (by kernel_rfl) (by kernel_rfl) (by kernel_rfl) (by kernel_rfl) (fun _ _ _ h => h) (.inl ⟨by kernel_rfl, fun W hW => by first | (obtain ⟨z0, z1, z2, z3, z4, z5, z6, z7, z8, z9, z10, z11, z12⟩ := hW; go_simp; done) | (obtain ⟨z0, z1, z2, z3, z4, z5, z6, z7, z8, z9, z10, z11, z12⟩ := hW; go_simp; omega) | (obtain ⟨z0, z1, z2, z3, z4, z5, z6, z7, z8, z9, z10, z11, z12⟩ := hW; go_simp; simp [*]; done)⟩) hS_2 ?_
                try simp only [Act.put, List.setIfInBounds_toArray, List.set_cons_zero, List.set_cons_succ]
                refine wpAnyK_one (i := 17) rfl rfl (by kernel_rfl) (fun K hK => ?_)
                go_simp
                refine (HY.out _ (hb_2.drew) (V8.heap.size)).mono ?_
                rintro e u_3 ⟨rfl, hq_3⟩
                have hb_3 := (hb_2.drew).trans (hq_3.mono (hb_2.drew).size)
                have hl_2_3 := (hl_2.drew).below hq_3 hl_2.lt
                refine hK.out _ _ (fun _ => HS.out _ hb_3) (fun hS9 => ?_)
                have hS_3 := hS9 (by decide)
                clear hK K hS9
                try simp only [Act.put, List.setIfInBounds_toArray, List.set_cons_zero, List.set_cons_succ]
                refine wpAnyK_one (i := 18) rfl rfl (by kernel_rfl) (fun K hK => ?_)
                have hz_4 := hb_3.size
                have l7_4 := HL7.out.below hb_3 HL7.out.lt
                have hn_4 : TIn u_3 (fun g => w.heap.size + 1 ≤ g ∧ g ≠ b7) (.node 10 KW 0 ta [.node tk ts tn ta tl, .node uk us un ua ul]) (some ⟨V8.heap.size, 0, none⟩) := TIn.mk HKW.out (by simp) (LIn.two (c1 := c2) (c2 := c3) hl_2_3 rfl ⟨by omega, by omega⟩ (TIn.below _ HT1.out hb_3 (Nat.le_refl _)) (TIn.below _ HT2.out hb_3 (Nat.le_refl _)))
                refine wp_store_let (F := fun W9 => Below w.heap.size w W9 ∧ Lies W9 w.heap.size 68 zero7 ∧ Lies W9 b7 68 #[.int .i64 10, .string KW, .int .i64 0, .int .i64 ta, .slice (some ⟨V8.heap.size, 0, none⟩) 2 2, .int .i64 j2, .bool true] ∧ TIn W9 (fun g => w.heap.size + 1 ≤ g ∧ g ≠ b7) (.node 10 KW 0 ta [.node tk ts tn ta tl, .node uk us un ua ul]) (some ⟨V8.heap.size, 0, none⟩)) _ _ _ rfl b7 0 #[.int .i64 10, .string KW, .int .i64 0, .int .i64 ta, .slice (some ⟨V8.heap.size, 0, none⟩) 2 2, .int .i64 j2, .bool true] rfl rfl (lies_there l7_4 rfl) (by kernel_rfl) (by simp [Value.oneCell']) ⟨below_setCells (HB1.out.trans (hb_3.mono HB1.out.size)) (by omega) _ _, lies_setOff (HL8.out.below hb_3 HL8.out.lt) (by omega) _ _, lies_set7 l7_4 _ _ _ _ _ _ _, tin_setOff _ hn_4 (fun h => h.2 rfl) _ _⟩ (fun W_4 hF_4 => ?_)
                refine hK.out _ _ (fun h => absurd rfl h) (fun _ => ?_)
                clear hK K
                try simp only [Act.put, List.setIfInBounds_toArray]
                refine wpAnyK_done (by kernel_rfl) ?_ _
                obtain ⟨f1, f2, f3, f4⟩ := hF_4
                go_wp2_with fail
                go_roundw
                case rel =>
                  exact ⟨k + 1, j2, g, z + 1, (.node 10 KW 0 ta [.node tk ts tn ta tl, .node uk us un ua ul]), some ⟨V8.heap.size, 0, none⟩, 2, rfl, by have := HZL.out; omega, HE4.out, by omega, by omega, by omega, by omega, f1, f2, f3, f4⟩
                case measure =>
                  have := HZL.out
                  simp [intOf]
                  omega
            · have h1f : decide ((0 : Int) < y) = false := decide_eq_false h1
              have h2f : decide (z < 1) = false := decide_eq_false h2
              rw [opsL_stop (by have := HYL.out; omega)] at hE
              clear hz
              rw [hs] at HSG
              have L9 := Lr
              have q9 := L9.seven
              replace hE := Lib.hid hE
              clear hs
              go_wp2_with fail
              refine HSG.out.mono ?_
              rintro e w' ⟨rfl, rfl⟩
              go_wp2_with fail
              exact bodyPost_ret (res_got (p := 6) Tryz.results62 rfl (Lies.all7 L9 _ _ _ _ _ _ _)) rfl (gpost_ok (t := .node tk ts tn ta tl) (c := c2) hE.out hbw (TIn.wide _ hTa (fun g hg _ => hg.1)))
        · rw [opsL_stop (fun h => hs h.1)] at hE
          clear hz
          have hs' : signA l j lev = false := by simpa using hs
          rw [hs'] at HSG
          have L9 := Lr
          have q9 := L9.seven
          replace hE := Lib.hid hE
          clear hs hs'
          go_wp2_with fail
          refine HSG.out.mono ?_
          rintro e w' ⟨rfl, rfl⟩
          go_wp2_with fail
          exact bodyPost_ret (res_got (p := 6) Tryz.results62 rfl (Lies.all7 L9 _ _ _ _ _ _ _)) rfl (gpost_ok (t := .node tk ts tn ta tl) (c := c2) hE.out hbw (TIn.wide _ hTa (fun g hg _ => hg.1)))
end Lx
end Go.Proofs.YtobdoahdjbmflaaGreatDoor
