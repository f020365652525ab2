/-
  Texts that lie one behind the other: HdM HFx RDp Hq Hp.
-/
import Derived.Test.YtiocmiikghcoaaaGreatDoorC1
import Derived.Test.YtiocmiikghcoaaaGreatDoorC17
import Derived.Test.YtiocmiikghcoaaaGreatDoorC7
import Derived.Test.YtiocmiikghcoaaaGreatDoorC11
import Derived.Test.YtiocmiikghcoaaaGreatDoorC13
import Derived.Test.YtiocmiikghcoaaaGreatDoorC12
import Derived.Maps.AppendAt
import Derived.Deep.RegionHeld3
import Derived.Deep.DrawnRows
import Derived.Deep.Cut
import Derived.Deep.QuietTactic
import Derived.BigQuiet
namespace Go.Proofs.YtiocmiikghcoaaaGreatDoor
open Go.RowKit
namespace Lx
set_option maxRecDepth 100000
theorem res_term3 {fn : Func} {p q r : Tmp} (h : fn.results = #[.cell p 24, .tmp q, .tmp r]) {tmps : Array Value} {g : Nat} {a b c d : Value} {w : World} (hp : tmps.getD p undef = .pointer (some ⟨g, 0, none⟩)) (L : Lies w g 24 #[a, b, c, d]) :
  (results fn tmps).run Tryz.prog w = .ok (.tuple #[.agg #[a, b, c, d], tmps.getD q undef, tmps.getD r undef]) w := by
 have hl := run_loadVar_row (P := Tryz.prog) w g 24 24 #[a, b, c, d] (0, 0) _ L Tryz.underlying24 rfl (by kernel_rfl)
 have hp' : tmps[p]?.getD undef = .pointer (some ⟨g, 0, none⟩) := by simpa using hp
 simp only [results, h]
 simp [hp', asAddr, hl]
def GivesR (R : Te × Nat × Int) (w : World) (e : Ending) (w' : World) : Prop :=
 ∃ A c, e = .returned (.tuple #[ev R.1 A c, .int .i64 (R.2.1 : Int), .int .i64 R.2.2]) ∧ EIn w' (fun g => w.heap.size ≤ g) R.1 A ∧ Below w.heap.size w w'
def runV (t : Te) (fuel : Int) : Te × Nat × Int := if 0 ≤ fuel ∧ fuel ≤ 100000 ∧ mayQ t 0 false = true then runE fuel.toNat 0 t else (noE, 0, 1)
theorem gives_R {u : Te} {n : Nat} {x : Int} {A2 : Option Addr} {c2 : Nat} {w w2 : World} {g B : Nat} (hT : EIn w2 (fun b => B ≤ b) u A2) (h0 : w.heap.size ≤ g) (h1 : g < B) (hb : Below w.heap.size w w2) (a b c d : Value) :
  GivesR (u, n, x) w (.returned (.tuple #[ev u A2 c2, .int .i64 (n : Int), .int .i64 x])) ((((w2.setCell ⟨g, 0, none⟩ a).setCell ⟨g, 1, none⟩ b).setCell ⟨g, 2, none⟩ c).setCell ⟨g, 3, none⟩ d) := by
 refine ⟨A2, c2, rfl, ?_, Below.all hb h0 _ _ _ _⟩
 refine EIn.keep _ hT fun g' j hX _ => ?_
 have hX' : B ≤ g' := hX
 have hne : ∀ q, (⟨g, q, none⟩ : Addr) ≠ ⟨g', j, none⟩ := fun q e => by injection e with e; omega
 refine ⟨?_, by show w.heap.size ≤ g'; omega⟩
 rw [World.cell?_setCell_other _ _ _ _ (hne _), World.cell?_setCell_other _ _ _ _ (hne _), World.cell?_setCell_other _ _ _ _ (hne _), World.cell?_setCell_other _ _ _ _ (hne _)]
theorem no_ein (w : World) (X : Nat → Prop) : EIn w X noE none := by rw [noE, EIn, ELIn]; exact ⟨⟨by decide, by omega, by omega⟩, by simp, trivial⟩
theorem fine_may {t : Te} (h : mayQ t 0 false = true) (hs : sizeE t ≤ 5000) : FineT t := by
 have hd := depth_size t
 exact ⟨by omega, by omega, tameE_mono (by omega) (by omega) t (may_tame t 0 false 40000 h (by omega))⟩
theorem lies_sx5 {w : World} {g : Nat} {t : TypeId} {a0 b0 c0 d0 e0 : Value} (h : Lies w g t #[a0, b0, c0, d0, e0]) (a b c d e : Value) : Lies (w.setCells g 0 [a, b, c, d, e]) g t #[a, b, c, d, e] :=
 (((((h.put 0 a).put 1 b).put 2 c).put 3 d).put 4 e)
theorem runE_wide {f n : Nat} {t : Te} (h : 5000 < sizeE t) : runE f n t = (noE, n, 91) := by unfold runE; rw [if_pos h]
theorem runE_val {f n : Nat} {t : Te} (h : ¬ 5000 < sizeE t) (hv : valK t.kind = true) : runE f n t = (t, n, 0) := by unfold runE; rw [if_neg h, if_pos hv]
theorem runE_fuel {n : Nat} {t : Te} (h : ¬ 5000 < sizeE t) (hv : valK t.kind = false) : runE 0 n t = (noE, n, 90) := by unfold runE; rw [if_neg h, if_neg (by rw [hv]; decide)]
theorem runE_step {f n : Nat} {t : Te} (h : ¬ 5000 < sizeE t) (hv : valK t.kind = false) : runE (f + 1) n t = runE f (n + 1) (stepE t).1 := by rw [runE, if_neg h, if_neg (by rw [hv]; decide)]
theorem seek_val {T t : Te} {q : List (Te × Nat)} (h : plugE t q.reverse = T) (hp : pathE q) (hk : valK t.kind = false) : valK T.kind = false := by
 rw [← h]; exact plug_val _ _ (fun e he => hp e (by simpa using he)) hk
theorem size_seek {T t : Te} {q : List (Te × Nat)} (h : plugE t q.reverse = T) (hp : pathE q) (u : Te) : sizeE (plugE u q.reverse) + sizeE t = sizeE T + sizeE u := by
 have := size_plug q.reverse t u (fun e he => hp e (by simpa using he))
 rw [h] at this; exact this
theorem size_part {T t : Te} {q : List (Te × Nat)} (h : plugE t q.reverse = T) (hp : pathE q) : sizeE t ≤ sizeE T := by
 have := size_seek h hp (.node 0 0 ⟨#[]⟩ [])
 have h1 := sizeE_one (plugE (.node 0 0 ⟨#[]⟩ []) q.reverse)
 have h2 : sizeE (.node 0 0 ⟨#[]⟩ []) = 1 := by simp [sizeE, sizeEL]
 omega
set_option maxHeartbeats 8000000 in
theorem run_any (t : Te) (A : Option Addr) (c : Nat) (fuel : Int) (w : World) (hT : EIn w Any t A) (hg : Signs w) (hf : FineT t) :
  Calls Tryz.prog 14 #[ev t A c, .int .i64 fuel] w (GivesR (runV t fuel) w) := by
 obtain ⟨tk, tn, ts, tl⟩ := t
 have hb0 : Below w.heap.size w ((w.alloc (.cells #[.int .i64 tk, .int .i64 tn, .string ts, .slice A tl.length (capF tl.length c)] 24)).alloc (.cells #[.int .i64 0, .int .i64 0, .string ⟨#[]⟩, .slice none 0 0] 24)) := below2_new _ _
 have lt : Lies ((w.alloc (.cells #[.int .i64 tk, .int .i64 tn, .string ts, .slice A tl.length (capF tl.length c)] 24)).alloc (.cells #[.int .i64 0, .int .i64 0, .string ⟨#[]⟩, .slice none 0 0] 24)) w.heap.size 24 #[.int .i64 tk, .int .i64 tn, .string ts, .slice A tl.length (capF tl.length c)] := (Lies.new w _ _).old _
 have lz : Lies ((w.alloc (.cells #[.int .i64 tk, .int .i64 tn, .string ts, .slice A tl.length (capF tl.length c)] 24)).alloc (.cells #[.int .i64 0, .int .i64 0, .string ⟨#[]⟩, .slice none 0 0] 24)) (w.heap.size + 1) 24 #[.int .i64 0, .int .i64 0, .string ⟨#[]⟩, .slice none 0 0] := by simpa using Lies.new (w.alloc (.cells #[.int .i64 tk, .int .i64 tn, .string ts, .slice A tl.length (capF tl.length c)] 24)) 24 #[.int .i64 0, .int .i64 0, .string ⟨#[]⟩, .slice none 0 0]
 have hb0lt : w.heap.size + 2 ≤ ((w.alloc (.cells #[.int .i64 tk, .int .i64 tn, .string ts, .slice A tl.length (capF tl.length c)] 24)).alloc (.cells #[.int .i64 0, .int .i64 0, .string ⟨#[]⟩, .slice none 0 0] 24)).heap.size := by simp
 show Calls Tryz.prog 14 #[.agg #[.int .i64 tk, .int .i64 tn, .string ts, .slice A tl.length (capF tl.length c)], .int .i64 fuel] w _
 have HM := Lib.hid (eMay_any (.node tk tn ts tl) A c 0 ((w.alloc (.cells #[.int .i64 tk, .int .i64 tn, .string ts, .slice A tl.length (capF tl.length c)] 24)).alloc (.cells #[.int .i64 0, .int .i64 0, .string ⟨#[]⟩, .slice none 0 0] 24)) (EIn.below _ hT hb0 (Nat.le_refl _)) (hg.below hb0 hg.pos) hf.1)
 rw [may6_same] at HM
 obtain ⟨b, hbv⟩ : ∃ b, b = mayQ (.node tk tn ts tl) 0 false := ⟨_, rfl⟩
 rw [← hbv] at HM
 have HBV := Lib.hid hbv
 have HT := Lib.hid hT
 have HF := Lib.hid hf
 simp only [ev, Te.kind, Te.n, Te.name, Te.parts] at HM
 obtain ⟨R, hR⟩ : ∃ R, R = runV (.node tk tn ts tl) fuel := ⟨_, rfl⟩
 rw [← hR]
 have HR := Lib.hid hR
 clear hT hg hf hbv hR
 by_cases h1 : fuel < 0
 ·have HE : Hid (R = (noE, 0, 1)) := Lib.hid (by rw [HR.out, runV, if_neg (fun h => by omega)])
  have HW := Lib.hid hb0
  obtain ⟨⟨z0, z1, z2, z3⟩, g0, g1, g2, g3⟩ := lz.four
  clear HM hb0 HBV HT HF HR lt
  go_enter Tryz.func14, Tryz.ntmps14
  go_upto_region 2 with fail
  clear h1 hb0lt
  generalize ((w.alloc (.cells #[.int .i64 tk, .int .i64 tn, .string ts, .slice A tl.length (capF tl.length c)] 24)).alloc (.cells #[.int .i64 0, .int .i64 0, .string ⟨#[]⟩, .slice none 0 0] 24)) = V at *
  go_wp2_with fail
  refine bodyPost_ret (res_term3 (p := 4) (q := 5) (r := 6) Tryz.results14 rfl (lz.all _ _ _ _)) rfl ?_
  rw [HE.out]
  exact gives_R (B := (w.heap.size + 2)) (no_ein _ _) (by omega) (by omega) HW.out _ _ _ _
 ·by_cases h2 : 100000 < fuel
  ·have HE : Hid (R = (noE, 0, 1)) := Lib.hid (by rw [HR.out, runV, if_neg (fun h => by omega)])
   have HW := Lib.hid hb0
   obtain ⟨⟨z0, z1, z2, z3⟩, g0, g1, g2, g3⟩ := lz.four
   clear HM hb0 HBV HT HF HR lt
   go_enter Tryz.func14, Tryz.ntmps14
   go_upto_region 2 with fail
   clear h1 h2 hb0lt
   generalize ((w.alloc (.cells #[.int .i64 tk, .int .i64 tn, .string ts, .slice A tl.length (capF tl.length c)] 24)).alloc (.cells #[.int .i64 0, .int .i64 0, .string ⟨#[]⟩, .slice none 0 0] 24)) = V at *
   go_wp2_with fail
   refine bodyPost_ret (res_term3 (p := 4) (q := 5) (r := 6) Tryz.results14 rfl (lz.all _ _ _ _)) rfl ?_
   rw [HE.out]
   exact gives_R (B := (w.heap.size + 2)) (no_ein _ _) (by omega) (by omega) HW.out _ _ _ _
  ·go_enter Tryz.func14, Tryz.ntmps14
   go_wp2_with fail
   refine HM.out.mono ?_
   rintro e w2 ⟨rfl, hb2⟩
   have lt2 := lt.below hb2 lt.lt
   have lz2 := lz.below hb2 lz.lt
   have hb02 := hb0.trans (hb2.mono hb0.size)
   have hs2 : w.heap.size + 2 ≤ w2.heap.size := Nat.le_trans hb0lt hb2.size
   clear hb2 lt lz hb0 hb0lt HM
   cases b with
   | false =>
    have HE : Hid (R = (noE, 0, 1)) := Lib.hid (by rw [HR.out, runV, if_neg (fun h => by rw [← HBV.out] at h; exact Bool.noConfusion h.2.2)])
    have HW := Lib.hid hb02
    obtain ⟨⟨z0, z1, z2, z3⟩, g0, g1, g2, g3⟩ := lz2.four
    clear hb02 HBV HT HF HR lt2
    go_upto_region 2 with fail
    clear h1 h2
    go_wp2_with fail
    refine bodyPost_ret (res_term3 (p := 4) (q := 5) (r := 6) Tryz.results14 rfl (lz2.all _ _ _ _)) rfl ?_
    rw [HE.out]
    exact gives_R (B := (w.heap.size + 2)) (no_ein _ _) (by omega) (by omega) HW.out _ _ _ _
   | true =>
    have HMQ : Hid (mayQ (.node tk tn ts tl) 0 false = true) := Lib.hid HBV.out.symm
    obtain ⟨F, hF⟩ : ∃ F : Nat, fuel = (F : Int) := ⟨fuel.toNat, by omega⟩
    subst hF
    have hF9 : F ≤ 100000 := by omega
    have HE : Hid (R = runE F 0 (.node tk tn ts tl)) := Lib.hid (by rw [HR.out, runV, if_pos ⟨by omega, by omega, HBV.out.symm⟩, Int.toNat_natCast])
    clear HBV h1 h2 HR
    obtain ⟨sT, hsT⟩ : ∃ s : Int, s = (sizeE (.node tk tn ts tl) : Int) := ⟨_, rfl⟩
    have HSZ : Hid (∀ X, Below w2.heap.size w2 X → Calls Tryz.prog 27 #[.agg #[.int .i64 tk, .int .i64 tn, .string ts, .slice A tl.length (capF tl.length c)]] X fun e w' => e = .returned (.int .i64 sT) ∧ Below X.heap.size X w') := Lib.hid fun X hX => by
     rw [hsT]
     exact esize_any _ (.node tk tn ts tl) A c X (Nat.le_refl _) HF.out.2.1 (EIn.below _ HT.out (hb02.trans (hX.mono hb02.size)) (Nat.le_refl _))
    have HST := Lib.hid hsT
    clear hsT
    have HSS : Hid (∀ V', Below w2.heap.size w2 V' → (fun V' : World => (V'.cell? ⟨w.heap.size, 0, none⟩ = some (.int .i64 tk) ∧ V'.cell? ⟨w.heap.size, 1, none⟩ = some (.int .i64 tn) ∧ V'.cell? ⟨w.heap.size, 2, none⟩ = some (.string ts) ∧ V'.cell? ⟨w.heap.size, 3, none⟩ = some (.slice A tl.length (capF tl.length c)))) V') := Lib.hid fun V' h =>
     ⟨(h.cell (p := ⟨w.heap.size, 0, none⟩) lt2.lt).trans (lt2.cell 0), (h.cell (p := ⟨w.heap.size, 1, none⟩) lt2.lt).trans (lt2.cell 1), (h.cell (p := ⟨w.heap.size, 2, none⟩) lt2.lt).trans (lt2.cell 2), (h.cell (p := ⟨w.heap.size, 3, none⟩) lt2.lt).trans (lt2.cell 3)⟩
    go_upto_region 3 with fail
    go_cut [7, 8] (fun v x wx => ∃ g, v = .pointer (some ⟨g, 0, none⟩) ∧ x = .int .i64 sT ∧ Hid (Zp wx g (w.heap.size + 1) (.node tk tn ts tl) [] A c none 0 []) ∧ Lies wx (w.heap.size + 1) 24 #[.int .i64 0, .int .i64 0, .string ⟨#[]⟩, .slice none 0 0] ∧ w.heap.size + 2 ≤ g ∧ Below w.heap.size w wx)
    case first =>
     have hb_1 : Below w2.heap.size w2 w2 := Below.refl _ _
     refine wp_region_K (S := (fun V' : World => (V'.cell? ⟨w.heap.size, 0, none⟩ = some (.int .i64 tk) ∧ V'.cell? ⟨w.heap.size, 1, none⟩ = some (.int .i64 tn) ∧ V'.cell? ⟨w.heap.size, 2, none⟩ = some (.string ts) ∧ V'.cell? ⟨w.heap.size, 3, none⟩ = some (.slice A tl.length (capF tl.length c))))) 6 rfl (HSS.out _ hb_1.drew) (fun hSs => ?_)
     change wpAnyK _ _ _ _ _ _ 7 (Array.replicate 7 false) _ _
     refine tkA (i := 0) (oi := ⟨some 24, _, _, _, _, _⟩) (v := .agg #[.int .i64 tk, .int .i64 tn, .string ts, .slice A tl.length (capF tl.length c)]) hSs ?_
     try go_frame
     refine tkA (i := 1) (oi := ⟨some 25, _, _, _, _, _⟩) (v := .agg #[.int .i64 tk, .int .i64 tn, .string ts, .slice A tl.length (capF tl.length c), .slice none 0 0]) hSs ?_
     try go_frame
     refine tkA (i := 2) (oi := ⟨some 26, _, _, _, _, _⟩) (v := .agg #[.int .i64 tk, .int .i64 tn, .string ts, .slice A tl.length (capF tl.length c)]) hSs ?_
     try go_frame
     refine wpAnyK_both  (i := 3) (j := 4) rfl rfl rfl rfl (by kernel_rfl) (fun K hK => ?_) (fun K hK => ?_)
     ·go_simp
      refine (HSZ.out _ (hb_1.drew) ).mono ?_
      rintro e u_2 ⟨rfl, hq_2⟩
      have hb_2 := (hb_1.drew).trans (hq_2.mono (hb_1.drew).size)
      have hsq_2 := hb_2.size
      have lz2_2 := (lz2.drew).below hq_2 lz2.lt
      refine hK.out _ _ (fun _ => HSS.out _ hb_2) (fun hS9 => ?_)
      have hS_2 := hS9 (by decide)
      clear hK K hS9
      try go_frame
      refine wpAnyK_one  (i := 4) rfl rfl (by kernel_rfl) (fun K hK => ?_)
      go_simp
      have hb_3 := Below.alloc hb_2 hb_2.size (.cells #[.int .i64 0, .int .i64 0, .string (⟨#[]⟩ : ByteArray), .slice none 0 0, .slice none 0 0] 43)
      have hl_3 : Lies (u_2.alloc (.cells #[.int .i64 0, .int .i64 0, .string (⟨#[]⟩ : ByteArray), .slice none 0 0, .slice none 0 0] 43)) (u_2.heap.size) 43 #[.int .i64 0, .int .i64 0, .string (⟨#[]⟩ : ByteArray), .slice none 0 0, .slice none 0 0] := Lies.new _ _ _
      have lz2_2_3 := lz2_2.old (.cells #[.int .i64 0, .int .i64 0, .string (⟨#[]⟩ : ByteArray), .slice none 0 0, .slice none 0 0] 43)
      refine hK.out _ _ (fun _ => HSS.out _ hb_3) (fun hS9 => ?_)
      have hS_3 := hS9 (by decide)
      clear hK K hS9
      try go_frame
      refine wpAnyK_one  (i := 5) rfl rfl (by kernel_rfl) (fun K hK => ?_)
      have hlt_4_0 := lz2_2_3.lt
      have hlt_4_1 := hl_3.lt
      have hsz_4 := hb_3.size
      refine wp_store_as (F := fun W9 => Below w2.heap.size w2 W9 ∧ Lies W9 (w.heap.size + 1) 24 #[.int .i64 0, .int .i64 0, .string (⟨#[]⟩ : ByteArray), .slice none 0 0] ∧ Lies W9 (u_2.heap.size) 43 #[.int .i64 tk, .int .i64 tn, .string ts, .slice A tl.length (capF tl.length c), .slice none 0 0]) _ _ _ rfl (u_2.heap.size) 0 #[.int .i64 tk, .int .i64 tn, .string ts, .slice A tl.length (capF tl.length c), .slice none 0 0] rfl rfl (lies_is hl_3 rfl) (by kernel_rfl) (by simp [Value.oneCell']) ⟨below_cells hb_3 (by omega) _ _, lies_offs lz2_2_3 (by omega) _ _, lies_sx5 hl_3 (.int .i64 tk) (.int .i64 tn) (.string ts) (.slice A tl.length (capF tl.length c)) (.slice none 0 0)⟩ (fun W_4 hF_4 => ?_)
      refine hK.out _ _ (fun _ => HSS.out _ hF_4.1) (fun hS9 => ?_)
      have hS_4 := hS9 (by decide)
      clear hK K hS9
      try go_frame
      obtain ⟨hb_4, lz2_2_3_4, hl_3_4⟩ := hF_4
      refine wpAnyK_one  (i := 6) rfl rfl (by kernel_rfl) (fun K hK => ?_)
      go_simp
      refine hK.out _ _ (fun h => absurd rfl h) (fun _ => ?_)
      clear hK K
      try go_frame
      refine wpAnyK_done (by kernel_rfl) ?_ _
      go_wp2_with fail
      go_meet
      have hq9 := hb02.trans (hb_4.mono hb02.size)
      refine ⟨u_2.heap.size, rfl, rfl, Lib.hid ⟨hl_3_4, World.ownsRow_nil _ _ _ _, RowP.nil _ _, EIn.keep _ HT.out fun b j _ hlt => ⟨hq9.cell (p := ⟨b, j, none⟩) hlt, by omega, by omega, fun a h => by cases h⟩⟩, lz2_2_3_4, by omega, hq9⟩
     ·go_simp
      have hb_6 := Below.alloc hb_1 hb_1.size (.cells #[.int .i64 0, .int .i64 0, .string (⟨#[]⟩ : ByteArray), .slice none 0 0, .slice none 0 0] 43)
      have hl_6 : Lies (w2.alloc (.cells #[.int .i64 0, .int .i64 0, .string (⟨#[]⟩ : ByteArray), .slice none 0 0, .slice none 0 0] 43)) (w2.heap.size) 43 #[.int .i64 0, .int .i64 0, .string (⟨#[]⟩ : ByteArray), .slice none 0 0, .slice none 0 0] := Lies.new _ _ _
      have lz2_6 := lz2.old (.cells #[.int .i64 0, .int .i64 0, .string (⟨#[]⟩ : ByteArray), .slice none 0 0, .slice none 0 0] 43)
      refine hK.out _ _ (fun _ => HSS.out _ (hb_6.drew)) (fun hS9 => ?_)
      have hS_6 := hS9 (by decide)
      clear hK K hS9
      try go_frame
      refine wpAnyK_one  (i := 3) rfl rfl (by kernel_rfl) (fun K hK => ?_)
      go_simp
      refine (HSZ.out _ (hb_6.drew) ).mono ?_
      rintro e u_7 ⟨rfl, hq_7⟩
      have hb_7 := (hb_6.drew).trans (hq_7.mono (hb_6.drew).size)
      have hsq_7 := hb_7.size
      have lz2_6_7 := (lz2_6.drew).below hq_7 lz2_6.lt
      have hl_6_7 := (hl_6.drew).below hq_7 hl_6.lt
      refine hK.out _ _ (fun _ => HSS.out _ hb_7) (fun hS9 => ?_)
      have hS_7 := hS9 (by decide)
      clear hK K hS9
      try go_frame
      refine wpAnyK_one  (i := 5) rfl rfl (by kernel_rfl) (fun K hK => ?_)
      have hlt_8_0 := lz2_6_7.lt
      have hlt_8_1 := hl_6_7.lt
      have hsz_8 := hb_7.size
      refine wp_store_as (F := fun W9 => Below w2.heap.size w2 W9 ∧ Lies W9 (w.heap.size + 1) 24 #[.int .i64 0, .int .i64 0, .string (⟨#[]⟩ : ByteArray), .slice none 0 0] ∧ Lies W9 (w2.heap.size) 43 #[.int .i64 tk, .int .i64 tn, .string ts, .slice A tl.length (capF tl.length c), .slice none 0 0]) _ _ _ rfl (w2.heap.size) 0 #[.int .i64 tk, .int .i64 tn, .string ts, .slice A tl.length (capF tl.length c), .slice none 0 0] rfl rfl (lies_is hl_6_7 rfl) (by kernel_rfl) (by simp [Value.oneCell']) ⟨below_cells hb_7 (by omega) _ _, lies_offs lz2_6_7 (by omega) _ _, lies_sx5 hl_6_7 (.int .i64 tk) (.int .i64 tn) (.string ts) (.slice A tl.length (capF tl.length c)) (.slice none 0 0)⟩ (fun W_8 hF_8 => ?_)
      refine hK.out _ _ (fun _ => HSS.out _ hF_8.1) (fun hS9 => ?_)
      have hS_8 := hS9 (by decide)
      clear hK K hS9
      try go_frame
      obtain ⟨hb_8, lz2_6_7_8, hl_6_7_8⟩ := hF_8
      refine wpAnyK_one  (i := 6) rfl rfl (by kernel_rfl) (fun K hK => ?_)
      go_simp
      refine hK.out _ _ (fun h => absurd rfl h) (fun _ => ?_)
      clear hK K
      try go_frame
      refine wpAnyK_done (by kernel_rfl) ?_ _
      go_wp2_with fail
      go_meet
      have hq9 := hb02.trans (hb_8.mono hb02.size)
      refine ⟨w2.heap.size, rfl, rfl, Lib.hid ⟨hl_6_7_8, World.ownsRow_nil _ _ _ _, RowP.nil _ _, EIn.keep _ HT.out fun b j _ hlt => ⟨hq9.cell (p := ⟨b, j, none⟩) hlt, by omega, by omega, fun a h => by cases h⟩⟩, lz2_6_7_8, by omega, hq9⟩
    case rest =>
     obtain ⟨g, rfl, rfl, HZ0, lz3, hg2, hb03⟩ := hcut
     clear hb02 lt2 lz2 hs2 HSZ HSS
     go_wp2_with fail
     go_loopw [8, 9] (fun v x wr => ∃ (n : Nat) (T t : Te) (q : List (Te × Nat)) (A : Option Addr) (c : Nat) (B : Option Addr) (bc : Nat) (xs : List Value), v = .int .i64 (sizeE T : Int) ∧ x = .int .i64 (n : Int) ∧ Hid (Zp wr g (w.heap.size + 1) t q A c B bc xs) ∧ Hid (PzE 0 T t q) ∧ Hid (mayQ T 0 false = true) ∧ Hid (R = runE (F - n) n T) ∧ n ≤ F ∧ sizeE T ≤ 1000000000000 ∧ Lies wr (w.heap.size + 1) 24 #[.int .i64 0, .int .i64 0, .string ⟨#[]⟩, .slice none 0 0] ∧ Below w.heap.size w wr) (fun _ x _ => F - (intOf x).toNat)
     case atStart =>
      refine ⟨0, .node tk tn ts tl, .node tk tn ts tl, [], A, c, none, 0, [], by rw [HST.out], rfl, HZ0, Lib.hid ⟨rfl, fun e he => by simp at he, HMQ.out, fun e he => by simp at he⟩, HMQ, Lib.hid HE.out, Nat.zero_le _, HF.out.2.1, lz3, hb03⟩
     case round =>
      clear HZ0 lz3 hb03 HMQ HST HT HF HE
      clear sT
      obtain ⟨n, T, t, q, A1, c1, B, bc, xs, rfl, rfl, HZ, HP, HM, HR1, hnF, hTs, lz3, hbw⟩ := hrel
      obtain ⟨sT, hsT⟩ : ∃ s : Int, s = (sizeE T : Int) := ⟨_, rfl⟩
      have hs0 : 0 ≤ sT := by omega
      have hs1 : sT ≤ 1000000000000 := by omega
      rw [← hsT]
      have HST := Lib.hid hsT
      clear hsT
      have hbs := hbw.size
      have hlz := lz3.lt
      by_cases h5 : 5000 < sT
      ·have HE : Hid (R = (noE, n, 91)) := Lib.hid (by rw [HR1.out, runE_wide (by have := HST.out; omega)])
       have HW := Lib.hid hbw
       obtain ⟨⟨z0, z1, z2, z3⟩, g0, g1, g2, g3⟩ := lz3.four
       clear HZ HP HM HR1 hTs hbw HST
       go_upto_region 7 with fail
       clear h5 hs0 hs1 hnF hF9 hbs
       go_wp2_with fail
       refine bodyPost_ret (res_term3 (p := 4) (q := 5) (r := 6) Tryz.results14 rfl (lz3.all _ _ _ _)) rfl ?_
       rw [HE.out]
       exact gives_R (B := (w.heap.size + 2)) (no_ein _ _) (by omega) (by omega) HW.out _ _ _ _
      ·have h5' : ¬ 5000 < sizeE T := by have := HST.out; omega
       have HFT := Lib.hid (fine_may HM.out (by omega))
       have HSK := Lib.hid (seek_any 0 g (w.heap.size + 1) T t q A1 c1 B bc xs wr HZ.out HP.out HFT.out.1 hlz)
       have H5 := Lib.hid h5'
       clear h5' hTs HZ HP
       go_wp2_with fail
       refine HSK.out.mono ?_
       rintro e w3 ⟨rfl, ⟨t', q', A3, c3, B3, bc3, xs3, hz, hpz, hwt, hvq⟩, hb3, hs3⟩
       clear HSK
       have hgw : g < w3.heap.size := hz.box.lt
       have lz4 := lz3.below hb3 (by omega)
       have hb04 := hbw.trans (hb3.mono (by omega))
       obtain ⟨nq, hnq⟩ : ∃ nq, nq = q'.length := ⟨_, rfl⟩
       have hbx := hz.box
       rw [← hnq] at hbx
       have HNQ := Lib.hid hnq
       have HZ := Lib.hid hz
       have HPZ := Lib.hid hpz
       have HWT := Lib.hid hwt
       have HVQ := Lib.hid hvq
       clear hz hnq hpz hwt hvq hb3 hbw lz3
       obtain ⟨pk, pn, ps, pl⟩ := t'
       simp only [Te.kind, Te.n, Te.name, Te.parts] at hbx
       have y0 := hbx.cell 0
       have y1 := hbx.cell 1
       have y2 := hbx.cell 2
       have y3 := hbx.cell 3
       simp at y0 y1 y2 y3
       have HD := Lib.hid (isDone_any pk pn ps A3 pl.length (capF pl.length c3) w3)
       obtain ⟨bv, hbv⟩ : ∃ b, b = valK pk := ⟨_, rfl⟩
       rw [← hbv] at HD
       have HBV := Lib.hid hbv
       clear hbv
       go_wp2_with fail
       refine HD.out.mono ?_
       rintro e w9 ⟨rfl, hb9⟩
       have hbx := hbx.below hb9 hbx.lt
       have HZ := Lib.hid (HZ.out.below hb9)
       have lz4 := lz4.below hb9 lz4.lt
       have hb04 := hb04.trans (hb9.mono hb04.size)
       have hgw : g < w9.heap.size := Nat.lt_of_lt_of_le hgw hb9.size
       have hws9 : w.heap.size ≤ w9.heap.size := hb04.size
       clear y0 y1 y2 y3 HD hb9 hs3
       cases bv with
       | true =>
        have hq0 : q' = [] := HVQ.out HBV.out.symm
        have hTt : Te.node pk pn ps pl = T := by have := HPZ.out.plug; rw [hq0] at this; exact this
        have HE : Hid (R = (Te.node pk pn ps pl, n, 0)) := Lib.hid (by rw [HR1.out, runE_val H5.out (by rw [← hTt]; exact HBV.out.symm), hTt])
        have HWH := Lib.hid (whole_any 0 g (w.heap.size + 1) _ _ q' A3 c3 B3 bc3 xs3 w9 HZ.out (HPZ.out.pw (Te.node pk pn ps pl)) (by rw [HPZ.out.plug]; exact HFT.out.1))
        rw [HPZ.out.plug, ← hTt] at HWH
        have HFU : Hid (FineT (Te.node pk pn ps pl)) := Lib.hid (by rw [hTt]; exact HFT.out)
        clear HR1 hTt hq0 HVQ HWT HPZ HZ HNQ HFT HM HST h5 hs0 hs1 H5 HBV hbx
        go_wp2_with fail
        refine HWH.out.mono ?_
        rintro e w5 ⟨A5, c5, rfl, hT5, hb5⟩
        simp only [ev, Te.kind, Te.n, Te.name, Te.parts]
        have HC := Lib.hid (copied_any (.node pk pn ps pl) A5 c5 w5 hT5 HFU.out.1 HFU.out.2.1 HFU.out.2.2)
        simp only [ev, Te.kind, Te.n, Te.name, Te.parts] at HC
        have lz8 := lz4.below hb5 (by omega)
        have hb8 := hb04.trans (hb5.mono (by omega))
        clear hT5 hb5 hb04 lz4 HWH HFU
        go_wp2_with fail
        refine HC.out.mono ?_
        rintro e w6 ⟨A6, c6, rfl, hT6, hb6⟩
        simp only [ev, Te.kind, Te.n, Te.name, Te.parts]
        have lz9 := lz8.below hb6 lz8.lt
        have HW := Lib.hid (hb8.trans (hb6.mono hb8.size))
        obtain ⟨⟨x0, x1, x2, x3⟩, g0, g1, g2, g3⟩ := lz9.four
        have HT6 := Lib.hid hT6
        clear hT6 hb6 HC
        go_wp2_with fail
        refine bodyPost_ret (res_term3 (p := 4) (q := 5) (r := 6) Tryz.results14 rfl (lz9.all _ _ _ _)) rfl ?_
        rw [HE.out]
        exact gives_R (B := w5.heap.size) HT6.out (by omega) lz8.lt HW.out _ _ _ _
       | false =>
        have hVT : valK T.kind = false := seek_val HPZ.out.plug HPZ.out.path HBV.out.symm
        by_cases hnf : (n : Int) = (F : Int)
        ·have hnf' : n = F := by omega
         have HE : Hid (R = (noE, n, 90)) := Lib.hid (by rw [HR1.out, show F - n = 0 by omega, runE_fuel H5.out hVT])
         have HW := Lib.hid hb04
         obtain ⟨⟨z0, z1, z2, z3⟩, g0, g1, g2, g3⟩ := lz4.four
         clear HR1 hVT HVQ HWT HPZ HZ HNQ HFT HM HST h5 hs0 hs1 H5 HBV hbx hb04 hnf
         subst hnf'
         go_upto_region 12 with fail
         go_wp2_with fail
         refine bodyPost_ret (res_term3 (p := 4) (q := 5) (r := 6) Tryz.results14 rfl (lz4.all _ _ _ _)) rfl ?_
         rw [HE.out]
         exact gives_R (B := (w.heap.size + 2)) (no_ein _ _) (by omega) (by omega) HW.out _ _ _ _
        ·have hnlt : n < F := by omega
         have hst := step_seek HPZ.out.plug HPZ.out.path HWT.out HVQ.out
         have HR2 : Hid (R = runE (F - (n + 1)) (n + 1) (stepE T).1) := Lib.hid (by rw [HR1.out, show F - n = (F - (n + 1)) + 1 by omega, runE_step H5.out hVT])
         have hszp := size_part HPZ.out.plug HPZ.out.path
         have hdp : FineT (Te.node pk pn ps pl) := fine_plug q'.reverse _ (fun e he => HPZ.out.path e (by simpa using he)) (by rw [HPZ.out.plug]; exact HFT.out)
         have HA := Lib.hid (act_any 0 (OffG g (w.heap.size + 1) B3) (Te.node pk pn ps pl) A3 c3 w9 HZ.out.ein HPZ.out.may hdp)
         have hain := act_in (Te.node pk pn ps pl)
         have hmu := act_may HPZ.out.may
         have hpw := size_seek HPZ.out.plug HPZ.out.path (actE (Te.node pk pn ps pl)).1
         obtain ⟨UX, hU⟩ : ∃ u, u = actE (Te.node pk pn ps pl) := ⟨_, rfl⟩
         rw [← hU] at HA hst hain hmu hpw
         clear hU hdp
         obtain ⟨⟨uk, un, us, ul⟩, x⟩ := UX
         have hst1 : (stepE T).1 = plugE (Te.node uk un us ul) q'.reverse := by rw [hst]
         have HMT2 : Hid (mayQ (plugE (Te.node uk un us ul) q'.reverse) 0 false = true) := Lib.hid (by rw [← hst1]; exact step_may HM.out)
         have HPZ2 : Hid (PzE 0 (plugE (Te.node uk un us ul) q'.reverse) (Te.node uk un us ul) q') := Lib.hid ⟨rfl, HPZ.out.path, hmu, HPZ.out.all⟩
         rw [hst1] at HR2
         obtain ⟨sP, hsP⟩ : ∃ s : Int, s = (sizeE (Te.node pk pn ps pl) : Int) := ⟨_, rfl⟩
         obtain ⟨sU, hsU⟩ : ∃ s : Int, s = (sizeE (Te.node uk un us ul) : Int) := ⟨_, rfl⟩
         have hs5 : sizeE T ≤ 5000 := by have := H5.out; omega
         have hU25 : sizeE (Te.node uk un us ul) ≤ 25000000 := Nat.le_trans hain.1 (Nat.mul_le_mul (Nat.le_trans hszp hs5) (Nat.le_trans hszp hs5))
         have HSZ2 : Hid (sT + (sU - sP) = (sizeE (plugE (Te.node uk un us ul) q'.reverse) : Int) ∧ sizeE (plugE (Te.node uk un us ul) q'.reverse) ≤ 1000000000000) := Lib.hid ⟨by
          have := HST.out
          simp only [] at hpw
          omega, by
          simp only [] at hpw
          omega⟩
         have hp0 : 0 ≤ sP := by omega
         have hp1 : sP ≤ 5000 := by omega
         have hu0 : 0 ≤ sU := by omega
         have hu1 : sU ≤ 25000000 := by omega
         have HSP : Hid (∀ X, Below w9.heap.size w9 X → Calls Tryz.prog 27 #[.agg #[.int .i64 pk, .int .i64 pn, .string ps, .slice A3 pl.length (capF pl.length c3)]] X fun e w' => e = .returned (.int .i64 sP) ∧ Below X.heap.size X w') := Lib.hid fun X hX => by
          rw [hsP]
          exact esize_any _ (.node pk pn ps pl) A3 c3 X (Nat.le_refl _) (by omega) (EIn.below _ (EIn.keep _ HZ.out.ein fun _ _ _ _ => ⟨rfl, trivial⟩) hX (Nat.le_refl _))
         have HSU : Hid (∀ X (A4 : Option Addr) (c4 : Nat), EIn X Any (Te.node uk un us ul) A4 → Calls Tryz.prog 27 #[.agg #[.int .i64 uk, .int .i64 un, .string us, .slice A4 ul.length (capF ul.length c4)]] X fun e w' => e = .returned (.int .i64 sU) ∧ Below X.heap.size X w') := Lib.hid fun X A4 c4 hX => by
          rw [hsU]
          exact esize_any _ (.node uk un us ul) A4 c4 X (Nat.le_refl _) (by omega) hX
         clear hst hst1 hain hmu hpw hsP hsU hs5 hU25 hszp hVT HR1 HVQ HWT HPZ HFT HM HST H5 HBV
         have y0 := hbx.cell 0
         have y1 := hbx.cell 1
         have y2 := hbx.cell 2
         have y3 := hbx.cell 3
         simp at y0 y1 y2 y3
         simp only [ev, Te.kind, Te.n, Te.name, Te.parts] at HA
         have h5b : sT ≤ 5000 := by omega
         clear h5 hs1
         go_wp2_with fail
         refine HA.out.mono ?_
         rintro e w4 ⟨A4, c4, rfl, hT4, hb4⟩
         simp only [ev, Te.kind, Te.n, Te.name, Te.parts]
         clear y0 y1 y2 y3 HA
         have HT4 := Lib.hid hT4
         have bx4 := hbx.below hb4 hbx.lt
         have lz5 := lz4.below hb4 lz4.lt
         have hb05 := hb04.trans (hb4.mono (by omega))
         have HB4 := Lib.hid hb4
         have hs4 := hb4.size
         clear hT4 hb4 hb04 lz4 hbx
         go_upto_region 14 with fail
         have j6 := bx4.old (.cells #[.int .i64 uk, .int .i64 un, .string us, .slice A4 ul.length (capF ul.length c4)] 24)
         have lz6 := lz5.old (.cells #[.int .i64 uk, .int .i64 un, .string us, .slice A4 ul.length (capF ul.length c4)] 24)
         have lu : Lies (w4.alloc (.cells #[.int .i64 uk, .int .i64 un, .string us, .slice A4 ul.length (capF ul.length c4)] 24)) w4.heap.size 24 #[.int .i64 uk, .int .i64 un, .string us, .slice A4 ul.length (capF ul.length c4)] := Lies.new _ _ _
         have hb06 := hb05.alloc (by omega) (.cells #[.int .i64 uk, .int .i64 un, .string us, .slice A4 ul.length (capF ul.length c4)] 24)
         have HB6 : Hid (Below w9.heap.size w9 (w4.alloc (.cells #[.int .i64 uk, .int .i64 un, .string us, .slice A4 ul.length (capF ul.length c4)] 24))) := Lib.hid (HB4.out.alloc hs4 _)
         have HT6 : Hid (EIn (w4.alloc (.cells #[.int .i64 uk, .int .i64 un, .string us, .slice A4 ul.length (capF ul.length c4)] 24)) (OffG g (w.heap.size + 1) B3) (.node uk un us ul) A4) := Lib.hid (EIn.keep _ HT4.out fun b j hX hlt => ⟨World.cell?_alloc_lt _ _ ⟨b, j, none⟩ hlt, by
          rcases hX with h | h
          ·exact h
          ·refine ⟨by omega, by omega, fun a ha => ?_⟩
           have := (HZ.out.blk a ha).2
           omega⟩)
         have hs6 : (w4.alloc (.cells #[.int .i64 uk, .int .i64 un, .string us, .slice A4 ul.length (capF ul.length c4)] 24)).heap.size = w4.heap.size + 1 := by simp
         obtain ⟨b9, hb9⟩ : ∃ b, b = w4.heap.size := ⟨_, rfl⟩
         rw [← hb9] at lu
         rw [← hb9]
         have hb9g : b9 ≠ g := by omega
         have hb9s : w9.heap.size ≤ b9 := by omega
         clear hb9
         generalize (w4.alloc (.cells #[.int .i64 uk, .int .i64 un, .string us, .slice A4 ul.length (capF ul.length c4)] 24)) = V6 at *
         clear hs6 hs4 bx4 lz5 hb05 HT4 HB4
         have HSZU : Hid (∀ X, Below V6.heap.size V6 X → Calls Tryz.prog 27 #[.agg #[.int .i64 uk, .int .i64 un, .string us, .slice A4 ul.length (capF ul.length c4)]] X fun e w' => e = .returned (.int .i64 sU) ∧ Below X.heap.size X w') := Lib.hid fun X hX =>
          HSU.out X A4 c4 (EIn.below _ (EIn.keep _ HT6.out fun _ _ _ _ => ⟨rfl, trivial⟩) hX (Nat.le_refl _))
         have HSZP : Hid (∀ X, Below V6.heap.size V6 X → Calls Tryz.prog 27 #[.agg #[.int .i64 pk, .int .i64 pn, .string ps, .slice A3 pl.length (capF pl.length c3)]] X fun e w' => e = .returned (.int .i64 sP) ∧ Below X.heap.size X w') := Lib.hid fun X hX =>
          HSP.out X (HB6.out.trans (hX.mono HB6.out.size))
         have HS2 : Hid (∀ V', Below V6.heap.size V6 V' → (fun V' : World => (V'.cell? ⟨b9, 0, none⟩ = some (.int .i64 uk) ∧ V'.cell? ⟨b9, 1, none⟩ = some (.int .i64 un) ∧ V'.cell? ⟨b9, 2, none⟩ = some (.string us) ∧ V'.cell? ⟨b9, 3, none⟩ = some (.slice A4 ul.length (capF ul.length c4)) ∧ V'.cell? ⟨g, 0, none⟩ = some (.int .i64 pk) ∧ V'.cell? ⟨g, 1, none⟩ = some (.int .i64 pn) ∧ V'.cell? ⟨g, 2, none⟩ = some (.string ps) ∧ V'.cell? ⟨g, 3, none⟩ = some (.slice A3 pl.length (capF pl.length c3)))) V') := Lib.hid fun V' h =>
          ⟨(h.cell (p := ⟨b9, 0, none⟩) lu.lt).trans (lu.cell 0), (h.cell (p := ⟨b9, 1, none⟩) lu.lt).trans (lu.cell 1), (h.cell (p := ⟨b9, 2, none⟩) lu.lt).trans (lu.cell 2), (h.cell (p := ⟨b9, 3, none⟩) lu.lt).trans (lu.cell 3), (h.cell (p := ⟨g, 0, none⟩) j6.lt).trans (j6.cell 0), (h.cell (p := ⟨g, 1, none⟩) j6.lt).trans (j6.cell 1), (h.cell (p := ⟨g, 2, none⟩) j6.lt).trans (j6.cell 2), (h.cell (p := ⟨g, 3, none⟩) j6.lt).trans (j6.cell 3)⟩
         clear HSU HSP
         go_cut [8] (fun v wx => v = .int .i64 (sT + (sU - sP)) ∧ Below V6.heap.size V6 wx)
         case first =>
          clear HSZ2 HR2 HMT2 HPZ2 HT6 HB6 HZ lz6 hb06 HNQ
          have hb_1 : Below V6.heap.size V6 V6 := Below.refl _ _
          refine wp_region_K (S := (fun V' : World => (V'.cell? ⟨b9, 0, none⟩ = some (.int .i64 uk) ∧ V'.cell? ⟨b9, 1, none⟩ = some (.int .i64 un) ∧ V'.cell? ⟨b9, 2, none⟩ = some (.string us) ∧ V'.cell? ⟨b9, 3, none⟩ = some (.slice A4 ul.length (capF ul.length c4)) ∧ V'.cell? ⟨g, 0, none⟩ = some (.int .i64 pk) ∧ V'.cell? ⟨g, 1, none⟩ = some (.int .i64 pn) ∧ V'.cell? ⟨g, 2, none⟩ = some (.string ps) ∧ V'.cell? ⟨g, 3, none⟩ = some (.slice A3 pl.length (capF pl.length c3))))) 8 rfl (HS2.out _ hb_1.drew) (fun hSs => ?_)
          change wpAnyK _ _ _ _ _ _ 9 (Array.replicate 9 false) _ _
          refine tkB (i := 0) (oi := ⟨some 52, _, _, _, _, _⟩) (v := .int .i64 sT) hSs ?_
          try go_frame
          refine tkA (i := 1) (oi := ⟨some 53, _, _, _, _, _⟩) (v := .agg #[.int .i64 uk, .int .i64 un, .string us, .slice A4 ul.length (capF ul.length c4)]) hSs ?_
          try go_frame
          refine tkA (i := 3) (oi := ⟨some 55, _, _, _, _, _⟩) (v := .pointer (some ⟨g, 0, none⟩)) hSs ?_
          try go_frame
          refine tkA (i := 4) (oi := ⟨some 56, _, _, _, _, _⟩) (v := .agg #[.int .i64 pk, .int .i64 pn, .string ps, .slice A3 pl.length (capF pl.length c3)]) hSs ?_
          try go_frame
          refine wpAnyK_one  (i := 2) rfl rfl (by kernel_rfl) (fun K hK => ?_)
          go_simp
          refine (HSZU.out _ (hb_1.drew) ).mono ?_
          rintro e u_2 ⟨rfl, hq_2⟩
          have hb_2 := (hb_1.drew).trans (hq_2.mono (hb_1.drew).size)
          have hsq_2 := hb_2.size
          refine hK.out _ _ (fun _ => HS2.out _ hb_2) (fun hS9 => ?_)
          have hS_2 := hS9 (by decide)
          clear hK K hS9
          try go_frame
          refine wpAnyK_one  (i := 5) rfl rfl (by kernel_rfl) (fun K hK => ?_)
          go_simp
          refine (HSZP.out _ hb_2 ).mono ?_
          rintro e u_3 ⟨rfl, hq_3⟩
          have hb_3 := hb_2.trans (hq_3.mono hb_2.size)
          have hsq_3 := hb_3.size
          refine hK.out _ _ (fun _ => HS2.out _ hb_3) (fun hS9 => ?_)
          have hS_3 := hS9 (by decide)
          clear hK K hS9
          try go_frame
          refine tkA (i := 6) (oi := ⟨some 58, _, _, _, _, _⟩) (v := .int .i64 (sU - sP)) hS_3 ?_
          try go_frame
          refine tkA (i := 7) (oi := ⟨some 59, _, _, _, _, _⟩) (v := .int .i64 (sT + (sU - sP))) hS_3 ?_
          try go_frame
          refine wpAnyK_one  (i := 8) rfl rfl (by kernel_rfl) (fun K hK => ?_)
          go_simp
          refine hK.out _ _ (fun h => absurd rfl h) (fun _ => ?_)
          clear hK K
          try go_frame
          refine wpAnyK_done (by kernel_rfl) ?_ _
          go_wp2_with fail
          go_meet
          exact ⟨rfl, hb_3⟩
         case rest =>
          obtain ⟨rfl, hb8⟩ := hcut
          have j8 := j6.below hb8 j6.lt
          have lz8 := lz6.below hb8 lz6.lt
          have lu8 := lu.below hb8 lu.lt
          have hb08 := hb06.trans (hb8.mono hb06.size)
          have HB8 := Lib.hid (HB6.out.trans (hb8.mono HB6.out.size))
          have HT8 := Lib.hid (EIn.keep (Y := OffG g (w.heap.size + 1) B3) _ HT6.out fun b j hX hlt => ⟨hb8.cell (p := ⟨b, j, none⟩) hlt, hX⟩)
          clear HSZU HSZP HS2 hb8 j6 lz6 lu hb06 HB6 HT6
          obtain ⟨⟨u0, u1, u2, u3⟩, _⟩ := lu8.four
          have m0 := j8.cell 0
          have m1 := j8.cell 1
          have m2 := j8.cell 2
          have m3 := j8.cell 3
          simp at m0 m1 m2 m3
          have n0 := j8.frozen 0
          have n1 := j8.frozen 1
          have n2 := j8.frozen 2
          have n3 := j8.frozen 3
          have Z7 : Hid (∀ V7, V7 = (((wc.setCell ⟨g, 0, none⟩ (.int .i64 uk)).setCell ⟨g, 1, none⟩ (.int .i64 un)).setCell ⟨g, 2, none⟩ (.string us)).setCell ⟨g, 3, none⟩ (.slice A4 ul.length (capF ul.length c4)) → Zp V7 g (w.heap.size + 1) (.node uk un us ul) q' A4 c4 B3 bc3 xs3 ∧ Below w.heap.size w V7 ∧ Lies V7 (w.heap.size + 1) 24 #[.int .i64 0, .int .i64 0, .string ⟨#[]⟩, .slice none 0 0]) := Lib.hid fun V7 hV => by
           subst hV
           have hgo : ¬ OffG g (w.heap.size + 1) B3 g := fun h => h.1 rfl
           have hne : ∀ r b j, OffG g (w.heap.size + 1) B3 b → (⟨g, r, none⟩ : Addr) ≠ ⟨b, j, none⟩ := fun r b j hX e => by injection e with e; exact hX.1 e.symm
           refine ⟨⟨?_, ?_, ?_, ?_⟩, (((hb08.setCell (p := ⟨g, 0, none⟩) (by show w.heap.size ≤ g; omega) _).setCell (p := ⟨g, 1, none⟩) (by show w.heap.size ≤ g; omega) _).setCell (p := ⟨g, 2, none⟩) (by show w.heap.size ≤ g; omega) _).setCell (p := ⟨g, 3, none⟩) (by show w.heap.size ≤ g; omega) _, ?_⟩
           ·rw [← HNQ.out]
            have := (((j8.put 0 (.int .i64 uk)).put 1 (.int .i64 un)).put 2 (.string us)).put 3 (.slice A4 ul.length (capF ul.length c4))
            simpa [Te.kind, Te.n, Te.name, Te.parts] using this
           ·refine ownsRow_setCell_below (ownsRow_setCell_below (ownsRow_setCell_below (ownsRow_setCell_below ?_ (by show g < _; omega) _) (by show g < _; omega) _) (by show g < _; omega) _) (by show g < _; omega) _
            exact own_below HZ.out.own HB8.out (Nat.le_refl _)
           ·exact HZ.out.row.keep fun b j hX hlt => ⟨by rw [World.cell?_setCell_other _ _ _ _ (hne _ b j hX), World.cell?_setCell_other _ _ _ _ (hne _ b j hX), World.cell?_setCell_other _ _ _ _ (hne _ b j hX), World.cell?_setCell_other _ _ _ _ (hne _ b j hX)]; exact HB8.out.cell (p := ⟨b, j, none⟩) hlt, hX⟩
           ·exact EIn.setCell _ (EIn.setCell _ (EIn.setCell _ (EIn.setCell _ HT8.out ⟨g, 0, none⟩ _ hgo) ⟨g, 1, none⟩ _ hgo) ⟨g, 2, none⟩ _ hgo) ⟨g, 3, none⟩ _ hgo
           ·have hn9 : w.heap.size + 1 ≠ g := by omega
            exact (((lz8.far (p := ⟨g, 0, none⟩) hn9 _).far (p := ⟨g, 1, none⟩) hn9 _).far (p := ⟨g, 2, none⟩) hn9 _).far (p := ⟨g, 3, none⟩) hn9 _
          clear HT8 HB8 j8 lz8 lu8 hb08 HZ HNQ
          go_upto_region 5 with fail
          obtain ⟨HZ7, hb7, lz7⟩ := Z7.out _ rfl
          generalize (((wc.setCell ⟨g, 0, none⟩ (.int .i64 uk)).setCell ⟨g, 1, none⟩ (.int .i64 un)).setCell ⟨g, 2, none⟩ (.string us)).setCell ⟨g, 3, none⟩ (.slice A4 ul.length (capF ul.length c4)) = V7 at *
          have HZ7 := Lib.hid HZ7
          clear Z7 m0 m1 m2 m3 n0 n1 n2 n3 u0 u1 u2 u3
          have hnb : (n : Int) + 1 ≤ 100001 := by omega
          go_wp2_with fail
          go_roundw
          case rel => exact ⟨n + 1, _, _, q', A4, c4, B3, bc3, xs3, by rw [HSZ2.out.1], by go_num, HZ7, HPZ2, HMT2, HR2, hnlt, HSZ2.out.2, lz7, hb7⟩
          case measure => simp [intOf]; omega
mutual
def simyB : Te → Bool
 | .node k n s l => (decide (k = 7) && (decide (-9223372036854775808 ≤ n) && decide (n ≤ 9223372036854775807))) || (decide (k = 9) || ((decide (k = 3) && simyBL l) || (decide (k = 4) && (decide (s.size ≤ 10) && simyBL l))))
def simyBL : List Te → Bool
 | [] => true
 | t :: r => simyB t && simyBL r
end
mutual
theorem simyB_spec : ∀ t : Te, simyB t = true → simyE t
 | .node k n s l, h => by
  rw [simyB] at h
  rw [simyE]
  simp only [Bool.or_eq_true, Bool.and_eq_true, decide_eq_true_eq] at h
  rcases h with h | h | h | h
  ·exact .inl h
  ·exact .inr (.inl h)
  ·exact .inr (.inr (.inl ⟨h.1, simyBL_spec l h.2⟩))
  ·exact .inr (.inr (.inr ⟨h.1, h.2.1, simyBL_spec l h.2.2⟩))
theorem simyBL_spec : ∀ l : List Te, simyBL l = true → simyEL l
 | [], _ => by rw [simyEL]; trivial
 | t :: r, h => by
  rw [simyBL, Bool.and_eq_true] at h
  rw [simyEL]
  exact ⟨simyB_spec t h.1, simyBL_spec r h.2⟩
end
def chk9 (s v : List UInt8) : Bool := match ofT s with
 | some X => mayQ X 0 false && (decide (sizeE X ≤ 5000) && (match runE 1000 0 X with
  | (U, n, x) => decide (x = 0) && (decide (1 ≤ n) && (decide (n ≤ 1000) && (simyB U && (decide (sizeE U ≤ 80) && decide (tyE U = v)))))))
 | none => false
theorem chk9_spec {s v : List UInt8} (h : chk9 s v = true) : ∃ X U n, ofT s = some X ∧ mayQ X 0 false = true ∧ sizeE X ≤ 5000 ∧ runE 1000 0 X = (U, n, 0) ∧ 1 ≤ n ∧ n ≤ 1000 ∧ simyE U ∧ sizeE U ≤ 80 ∧ tyE U = v := by
 unfold chk9 at h
 split at h
 ·rename_i X hX
  simp only [Bool.and_eq_true, decide_eq_true_eq] at h
  obtain ⟨h1, h2, h⟩ := h
  generalize hr : runE 1000 0 X = r at h
  obtain ⟨U, n, x⟩ := r
  simp only at h
  obtain ⟨hx, h3, h4, h5, h6, h7⟩ := h
  subst hx
  exact ⟨X, U, n, hX, h1, h2, hr, h3, h4, simyB_spec U h5, h6, h7⟩
 ·cases h
def txt9 : List ByteArray := [⟨#[40, 92, 120, 46, 32, 120, 41, 32, 49]⟩, ⟨#[99, 97, 115, 101, 32, 65, 32, 50, 32, 51, 32, 111, 102, 32, 123, 32, 65, 32, 120, 32, 121, 32, 45, 62, 32, 120, 32, 45, 32, 121, 32, 125]⟩, ⟨#[49, 32, 47, 32, 48]⟩, ⟨#[49, 32, 50]⟩, ⟨#[108, 101, 116, 114, 101, 99, 32, 102, 32, 61, 32, 92, 110, 46, 32, 99, 97, 115, 101, 32, 110, 32, 61, 61, 32, 48, 32, 111, 102, 32, 123, 32, 84, 114, 117, 101, 32, 45, 62, 32, 49, 32, 124, 32, 70, 97, 108, 115, 101, 32, 45, 62, 32, 110, 32, 42, 32, 102, 32, 40, 110, 32, 45, 32, 49, 41, 32, 125, 32, 105, 110, 32, 102, 32, 53]⟩, ⟨#[40, 92, 120, 46, 32, 65, 32, 40, 120, 32, 120, 41, 41, 32, 51]⟩, ⟨#[99, 97, 115, 101, 32, 49, 32, 111, 102, 32, 123, 32, 65, 32, 45, 62, 32, 49, 32, 125]⟩, ⟨#[99, 97, 115, 101, 32, 65, 32, 111, 102, 32, 123, 32, 66, 32, 45, 62, 32, 49, 32, 125]⟩, ⟨#[65, 32, 43, 32, 49]⟩, ⟨#[55, 32, 47, 32, 50, 32, 45, 32, 57]⟩]
def out9 : List ByteArray := [⟨#[49]⟩, ⟨#[45, 49]⟩, ⟨#[33]⟩, ⟨#[33]⟩, ⟨#[49, 50, 48]⟩, ⟨#[40, 65, 32, 40, 64, 32, 51, 32, 51, 41, 41]⟩, ⟨#[33]⟩, ⟨#[33]⟩, ⟨#[33]⟩, ⟨#[45, 54]⟩]
def txtA (i : Nat) : ByteArray := txt9.getD i ⟨#[]⟩
def outA (i : Nat) : ByteArray := out9.getD i ⟨#[]⟩
theorem chk9_0 : chk9 (txtA 0).data.toList (outA 0).data.toList = true := by kernel_rfl
theorem chk9_1 : chk9 (txtA 1).data.toList (outA 1).data.toList = true := by kernel_rfl
theorem chk9_2 : chk9 (txtA 2).data.toList (outA 2).data.toList = true := by kernel_rfl
theorem chk9_3 : chk9 (txtA 3).data.toList (outA 3).data.toList = true := by kernel_rfl
theorem chk9_4 : chk9 (txtA 4).data.toList (outA 4).data.toList = true := by kernel_rfl
theorem chk9_5 : chk9 (txtA 5).data.toList (outA 5).data.toList = true := by kernel_rfl
theorem chk9_6 : chk9 (txtA 6).data.toList (outA 6).data.toList = true := by kernel_rfl
theorem chk9_7 : chk9 (txtA 7).data.toList (outA 7).data.toList = true := by kernel_rfl
theorem chk9_8 : chk9 (txtA 8).data.toList (outA 8).data.toList = true := by kernel_rfl
theorem chk9_9 : chk9 (txtA 9).data.toList (outA 9).data.toList = true := by kernel_rfl
theorem chk9_all (i : Nat) (h : i < 10) : chk9 (txtA i).data.toList (outA i).data.toList = true := by
 rcases (by omega : i = 0 ∨ i = 1 ∨ i = 2 ∨ i = 3 ∨ i = 4 ∨ i = 5 ∨ i = 6 ∨ i = 7 ∨ i = 8 ∨ i = 9) with rfl | rfl | rfl | rfl | rfl | rfl | rfl | rfl | rfl | rfl
 ·exact chk9_0
 ·exact chk9_1
 ·exact chk9_2
 ·exact chk9_3
 ·exact chk9_4
 ·exact chk9_5
 ·exact chk9_6
 ·exact chk9_7
 ·exact chk9_8
 ·exact chk9_9
theorem txtA_cell (i : Nat) (h : i < 10) : (#[.string ⟨#[40, 92, 120, 46, 32, 120, 41, 32, 49]⟩, .string ⟨#[99, 97, 115, 101, 32, 65, 32, 50, 32, 51, 32, 111, 102, 32, 123, 32, 65, 32, 120, 32, 121, 32, 45, 62, 32, 120, 32, 45, 32, 121, 32, 125]⟩, .string ⟨#[49, 32, 47, 32, 48]⟩, .string ⟨#[49, 32, 50]⟩, .string ⟨#[108, 101, 116, 114, 101, 99, 32, 102, 32, 61, 32, 92, 110, 46, 32, 99, 97, 115, 101, 32, 110, 32, 61, 61, 32, 48, 32, 111, 102, 32, 123, 32, 84, 114, 117, 101, 32, 45, 62, 32, 49, 32, 124, 32, 70, 97, 108, 115, 101, 32, 45, 62, 32, 110, 32, 42, 32, 102, 32, 40, 110, 32, 45, 32, 49, 41, 32, 125, 32, 105, 110, 32, 102, 32, 53]⟩, .string ⟨#[40, 92, 120, 46, 32, 65, 32, 40, 120, 32, 120, 41, 41, 32, 51]⟩, .string ⟨#[99, 97, 115, 101, 32, 49, 32, 111, 102, 32, 123, 32, 65, 32, 45, 62, 32, 49, 32, 125]⟩, .string ⟨#[99, 97, 115, 101, 32, 65, 32, 111, 102, 32, 123, 32, 66, 32, 45, 62, 32, 49, 32, 125]⟩, .string ⟨#[65, 32, 43, 32, 49]⟩, .string ⟨#[55, 32, 47, 32, 50, 32, 45, 32, 57]⟩] : Array Value)[i]? = some (.string (txtA i)) ∧ (#[.string ⟨#[49]⟩, .string ⟨#[45, 49]⟩, .string ⟨#[33]⟩, .string ⟨#[33]⟩, .string ⟨#[49, 50, 48]⟩, .string ⟨#[40, 65, 32, 40, 64, 32, 51, 32, 51, 41, 41]⟩, .string ⟨#[33]⟩, .string ⟨#[33]⟩, .string ⟨#[33]⟩, .string ⟨#[45, 54]⟩] : Array Value)[i]? = some (.string (outA i)) ∧ (outA i).size ≤ 20 := by
 rcases (by omega : i = 0 ∨ i = 1 ∨ i = 2 ∨ i = 3 ∨ i = 4 ∨ i = 5 ∨ i = 6 ∨ i = 7 ∨ i = 8 ∨ i = 9) with rfl | rfl | rfl | rfl | rfl | rfl | rfl | rfl | rfl | rfl
 all_goals exact ⟨rfl, rfl, by decide⟩
def xa9 : Te := two7 3 (lam7 (var7 0)) (.node 7 1 ⟨#[]⟩ [])
def xb9 : Te := lam7 (two7 3 (var7 0) (.node 7 1 ⟨#[]⟩ []))
def xo9 : Te := two7 3 (lam7 (two7 3 (var7 0) (var7 0))) (lam7 (two7 3 (var7 0) (var7 0)))
theorem xa9_of : ofT (txtA 0).data.toList = some xa9 := by kernel_rfl
def sb9 : ByteArray := ⟨#[92, 120, 46, 32, 120, 32, 49]⟩
def so9 : ByteArray := ⟨#[40, 92, 120, 46, 32, 120, 32, 120, 41, 32, 40, 92, 120, 46, 32, 120, 32, 120, 41]⟩
theorem xb9_of : ofT sb9.data.toList = some xb9 := by kernel_rfl
theorem xo9_of : ofT so9.data.toList = some xo9 := by kernel_rfl
theorem xa9_step : stepV xa9 = (.node 7 1 ⟨#[]⟩ [], 1) := by kernel_rfl
theorem xb9_step : stepV xb9 = (xb9, 0) := by kernel_rfl
theorem xo9_run : runV xo9 50 = (noE, 50, 90) := by kernel_rfl
theorem xa9_may : mayQ xa9 0 false = true := by kernel_rfl
theorem xb9_may : mayQ xb9 0 false = true := by kernel_rfl
theorem xo9_may : mayQ xo9 0 false = true := by kernel_rfl
theorem run9_is {X U : Te} {n : Nat} {x : Int} {F : Nat} (hm : mayQ X 0 false = true) (hF : F ≤ 100000) (h : runE F 0 X = (U, n, x)) : runV X (F : Int) = (U, n, x) := by
 rw [runV, if_pos ⟨by omega, by omega, hm⟩, Int.toNat_natCast, h]
theorem step_fine {t : Te} (hm : mayQ t 0 false = true) (_hs : sizeE t ≤ 5000) (h2 : sizeE (stepE t).1 ≤ 5000) : mayV6 t 4611686018427387904 = true → mayQ t 0 false = true ∧ FineT (stepE t).1 := fun _ => ⟨hm, fine_may (step_may hm) h2⟩
set_option maxHeartbeats 8000000 in
theorem fixed9_any (w : World) (hg : Signs w) : Calls Tryz.prog 11 #[] w fun e w' => e = .returned (.bool true) ∧ Below w.heap.size w w' := by
 obtain ⟨V2, hV2⟩ : ∃ V, V = (w.alloc (.cells #[.string ⟨#[40, 92, 120, 46, 32, 120, 41, 32, 49]⟩, .string ⟨#[99, 97, 115, 101, 32, 65, 32, 50, 32, 51, 32, 111, 102, 32, 123, 32, 65, 32, 120, 32, 121, 32, 45, 62, 32, 120, 32, 45, 32, 121, 32, 125]⟩, .string ⟨#[49, 32, 47, 32, 48]⟩, .string ⟨#[49, 32, 50]⟩, .string ⟨#[108, 101, 116, 114, 101, 99, 32, 102, 32, 61, 32, 92, 110, 46, 32, 99, 97, 115, 101, 32, 110, 32, 61, 61, 32, 48, 32, 111, 102, 32, 123, 32, 84, 114, 117, 101, 32, 45, 62, 32, 49, 32, 124, 32, 70, 97, 108, 115, 101, 32, 45, 62, 32, 110, 32, 42, 32, 102, 32, 40, 110, 32, 45, 32, 49, 41, 32, 125, 32, 105, 110, 32, 102, 32, 53]⟩, .string ⟨#[40, 92, 120, 46, 32, 65, 32, 40, 120, 32, 120, 41, 41, 32, 51]⟩, .string ⟨#[99, 97, 115, 101, 32, 49, 32, 111, 102, 32, 123, 32, 65, 32, 45, 62, 32, 49, 32, 125]⟩, .string ⟨#[99, 97, 115, 101, 32, 65, 32, 111, 102, 32, 123, 32, 66, 32, 45, 62, 32, 49, 32, 125]⟩, .string ⟨#[65, 32, 43, 32, 49]⟩, .string ⟨#[55, 32, 47, 32, 50, 32, 45, 32, 57]⟩] 9)).alloc (.cells #[.string ⟨#[49]⟩, .string ⟨#[45, 49]⟩, .string ⟨#[33]⟩, .string ⟨#[33]⟩, .string ⟨#[49, 50, 48]⟩, .string ⟨#[40, 65, 32, 40, 64, 32, 51, 32, 51, 41, 41]⟩, .string ⟨#[33]⟩, .string ⟨#[33]⟩, .string ⟨#[33]⟩, .string ⟨#[45, 54]⟩] 9) := ⟨_, rfl⟩
 have hb2 : Below w.heap.size w V2 := by rw [hV2]; exact below2_new _ _
 have l1 : Lies V2 w.heap.size 9 #[.string ⟨#[40, 92, 120, 46, 32, 120, 41, 32, 49]⟩, .string ⟨#[99, 97, 115, 101, 32, 65, 32, 50, 32, 51, 32, 111, 102, 32, 123, 32, 65, 32, 120, 32, 121, 32, 45, 62, 32, 120, 32, 45, 32, 121, 32, 125]⟩, .string ⟨#[49, 32, 47, 32, 48]⟩, .string ⟨#[49, 32, 50]⟩, .string ⟨#[108, 101, 116, 114, 101, 99, 32, 102, 32, 61, 32, 92, 110, 46, 32, 99, 97, 115, 101, 32, 110, 32, 61, 61, 32, 48, 32, 111, 102, 32, 123, 32, 84, 114, 117, 101, 32, 45, 62, 32, 49, 32, 124, 32, 70, 97, 108, 115, 101, 32, 45, 62, 32, 110, 32, 42, 32, 102, 32, 40, 110, 32, 45, 32, 49, 41, 32, 125, 32, 105, 110, 32, 102, 32, 53]⟩, .string ⟨#[40, 92, 120, 46, 32, 65, 32, 40, 120, 32, 120, 41, 41, 32, 51]⟩, .string ⟨#[99, 97, 115, 101, 32, 49, 32, 111, 102, 32, 123, 32, 65, 32, 45, 62, 32, 49, 32, 125]⟩, .string ⟨#[99, 97, 115, 101, 32, 65, 32, 111, 102, 32, 123, 32, 66, 32, 45, 62, 32, 49, 32, 125]⟩, .string ⟨#[65, 32, 43, 32, 49]⟩, .string ⟨#[55, 32, 47, 32, 50, 32, 45, 32, 57]⟩] := by rw [hV2]; exact (Lies.new w _ _).old _
 have l2 : Lies V2 (w.heap.size + 1) 9 #[.string ⟨#[49]⟩, .string ⟨#[45, 49]⟩, .string ⟨#[33]⟩, .string ⟨#[33]⟩, .string ⟨#[49, 50, 48]⟩, .string ⟨#[40, 65, 32, 40, 64, 32, 51, 32, 51, 41, 41]⟩, .string ⟨#[33]⟩, .string ⟨#[33]⟩, .string ⟨#[33]⟩, .string ⟨#[45, 54]⟩] := by rw [hV2]; exact lies_next _ _ _ _ (by simp)
 have HG := Lib.hid hg
 clear hg
 go_enter Tryz.func11, Tryz.ntmps11
 go_wp2_with fail
 rw [← hV2]
 clear hV2
 obtain ⟨b1, hb1⟩ : ∃ b, b = w.heap.size := ⟨_, rfl⟩
 obtain ⟨b2, hb2'⟩ : ∃ b, b = w.heap.size + 1 := ⟨_, rfl⟩
 rw [← hb1] at l1
 rw [← hb2'] at l2
 rw [← hb2', ← hb1]
 clear hb1 hb2'
 go_loopw [3] (fun v wr => ∃ i : Nat, i ≤ 10 ∧ v = .int .i64 (i : Int) ∧ Lies wr b1 9 #[.string ⟨#[40, 92, 120, 46, 32, 120, 41, 32, 49]⟩, .string ⟨#[99, 97, 115, 101, 32, 65, 32, 50, 32, 51, 32, 111, 102, 32, 123, 32, 65, 32, 120, 32, 121, 32, 45, 62, 32, 120, 32, 45, 32, 121, 32, 125]⟩, .string ⟨#[49, 32, 47, 32, 48]⟩, .string ⟨#[49, 32, 50]⟩, .string ⟨#[108, 101, 116, 114, 101, 99, 32, 102, 32, 61, 32, 92, 110, 46, 32, 99, 97, 115, 101, 32, 110, 32, 61, 61, 32, 48, 32, 111, 102, 32, 123, 32, 84, 114, 117, 101, 32, 45, 62, 32, 49, 32, 124, 32, 70, 97, 108, 115, 101, 32, 45, 62, 32, 110, 32, 42, 32, 102, 32, 40, 110, 32, 45, 32, 49, 41, 32, 125, 32, 105, 110, 32, 102, 32, 53]⟩, .string ⟨#[40, 92, 120, 46, 32, 65, 32, 40, 120, 32, 120, 41, 41, 32, 51]⟩, .string ⟨#[99, 97, 115, 101, 32, 49, 32, 111, 102, 32, 123, 32, 65, 32, 45, 62, 32, 49, 32, 125]⟩, .string ⟨#[99, 97, 115, 101, 32, 65, 32, 111, 102, 32, 123, 32, 66, 32, 45, 62, 32, 49, 32, 125]⟩, .string ⟨#[65, 32, 43, 32, 49]⟩, .string ⟨#[55, 32, 47, 32, 50, 32, 45, 32, 57]⟩] ∧ Lies wr b2 9 #[.string ⟨#[49]⟩, .string ⟨#[45, 49]⟩, .string ⟨#[33]⟩, .string ⟨#[33]⟩, .string ⟨#[49, 50, 48]⟩, .string ⟨#[40, 65, 32, 40, 64, 32, 51, 32, 51, 41, 41]⟩, .string ⟨#[33]⟩, .string ⟨#[33]⟩, .string ⟨#[33]⟩, .string ⟨#[45, 54]⟩] ∧ Below w.heap.size w wr) (fun v _ => 10 - (intOf v).toNat)
 case atStart => exact ⟨0, by omega, rfl, l1, l2, hb2⟩
 case round =>
  clear l1 l2 hb2
  obtain ⟨i, hi, rfl, l1, l2, hbw⟩ := hrel
  by_cases hlt : i < 10
  ·obtain ⟨X, U, n, hX, hm, hsz, hr, hn1, hn2, hsy, hu80, htx⟩ := chk9_spec (chk9_all i hlt)
   obtain ⟨t1, t2, t3⟩ := txtA_cell i hlt
   have d1 := l1.cell i
   have d2 := l2.cell i
   rw [t1] at d1
   rw [t2] at d2
   have hrv := run9_is (F := 1000) hm (by omega) hr
   obtain ⟨Q, hQ⟩ : ∃ Q, Q = txtA i := ⟨_, rfl⟩
   obtain ⟨S, hS⟩ : ∃ S, S = outA i := ⟨_, rfl⟩
   rw [← hQ] at d1 hX
   rw [← hS] at d2 t3 htx
   have hSe : ByteArray.mk (tyE U).toArray = S := by rw [htx]
   have HOF := Lib.hid (fun W => of9_any Q X W hX)
   have HRU := Lib.hid (fun (A : Option Addr) (c : Nat) (W : World) (h : EIn W Any X A) (g : Signs W) => run_any X A c 1000 W h g (fine_may hm hsz))
   have hrv : runV X 1000 = (U, n, 0) := hrv
   rw [hrv] at HRU
   have HTY := Lib.hid (fun (A : Option Addr) (c : Nat) (W : World) (h : EIn W Any U A) => rty6_any (depthE U) U A c W (Nat.le_refl _) hu80 hsy h)
   rw [hSe] at HTY
   have hbs := hbw.size
   obtain ⟨xk, xn, xs, xl⟩ := X
   obtain ⟨uk, un, us, ul⟩ := U
   have HSO := Lib.hid hS
   clear hX hm hsz hr hsy hu80 htx hQ hS t1 t2 hrv hSe
   go_wp2_with fail
   refine (HOF.out _).mono ?_
   rintro e w3 ⟨A3, c3, rfl, hT3, hb3⟩
   simp only [ev, Te.kind, Te.n, Te.name, Te.parts]
   have hb03 := hbw.trans (hb3.mono hbs)
   have l1 := l1.below hb3 l1.lt
   have l2 := l2.below hb3 l2.lt
   have HR3 := Lib.hid (HRU.out A3 c3 w3 (EIn.keep _ hT3 fun _ _ _ _ => ⟨rfl, trivial⟩) (HG.out.below hb03 HG.out.pos))
   simp only [ev, Te.kind, Te.n, Te.name, Te.parts] at HR3
   clear hT3 hb3 hbw hbs d1 d2 HOF HRU
   go_wp2_with fail
   refine HR3.out.mono ?_
   rintro e w4 ⟨AU, cU, rfl, hT4, hb4⟩
   simp only [ev, Te.kind, Te.n, Te.name, Te.parts]
   have hb04 := hb03.trans (hb4.mono hb03.size)
   have l1 := l1.below hb4 l1.lt
   have l2 := l2.below hb4 l2.lt
   clear HR3 hb03 hb4
   go_upto_if 7 with fail
   have hTU : EIn (w4.alloc (.cells #[.int .i64 uk, .int .i64 un, .string us, .slice AU ul.length (capF ul.length cU)] 24)) Any (.node uk un us ul) AU := EIn.keep _ hT4 fun b j _ hlt => ⟨World.cell?_alloc_lt _ _ ⟨b, j, none⟩ hlt, trivial⟩
   have l1 := l1.old (.cells #[.int .i64 uk, .int .i64 un, .string us, .slice AU ul.length (capF ul.length cU)] 24)
   have l2 := l2.old (.cells #[.int .i64 uk, .int .i64 un, .string us, .slice AU ul.length (capF ul.length cU)] 24)
   have lu : Lies (w4.alloc (.cells #[.int .i64 uk, .int .i64 un, .string us, .slice AU ul.length (capF ul.length cU)] 24)) w4.heap.size 24 #[.int .i64 uk, .int .i64 un, .string us, .slice AU ul.length (capF ul.length cU)] := Lies.new _ _ _
   have hbV := hb04.alloc hb04.size (.cells #[.int .i64 uk, .int .i64 un, .string us, .slice AU ul.length (capF ul.length cU)] 24)
   obtain ⟨b4, hb4'⟩ : ∃ b, b = w4.heap.size := ⟨_, rfl⟩
   rw [← hb4'] at lu
   rw [← hb4']
   clear hb4' hT4 hb04
   generalize w4.alloc (.cells #[.int .i64 uk, .int .i64 un, .string us, .slice AU ul.length (capF ul.length cU)] 24) = V at *
   have d2 := l2.cell i
   rw [(txtA_cell i hlt).2.1, ← HSO.out] at d2
   have HTX : Hid (∀ X, Below V.heap.size V X → ∀ (A : Option Addr) (c : Nat) (hA : EIn X Any (.node uk un us ul) A), Calls Tryz.prog 20 #[.agg #[.int .i64 uk, .int .i64 un, .string us, .slice A ul.length (capF ul.length c)]] X fun e w' => e = .returned (.string S) ∧ Below X.heap.size X w') := Lib.hid fun X hX A c hA => HTY.out A c X hA
   have HSS : Hid (∀ V', Below V.heap.size V V' → (fun V' : World => (V'.cell? ⟨b4, 0, none⟩ = some (.int .i64 uk) ∧ V'.cell? ⟨b4, 1, none⟩ = some (.int .i64 un) ∧ V'.cell? ⟨b4, 2, none⟩ = some (.string us) ∧ V'.cell? ⟨b4, 3, none⟩ = some (.slice AU ul.length (capF ul.length cU)) ∧ V'.cell? ⟨b2, i, none⟩ = some (.string S))) V') := Lib.hid fun V' h =>
    ⟨(h.cell (p := ⟨b4, 0, none⟩) lu.lt).trans (lu.cell 0), (h.cell (p := ⟨b4, 1, none⟩) lu.lt).trans (lu.cell 1), (h.cell (p := ⟨b4, 2, none⟩) lu.lt).trans (lu.cell 2), (h.cell (p := ⟨b4, 3, none⟩) lu.lt).trans (lu.cell 3), (h.cell (p := ⟨b2, i, none⟩) l2.lt).trans d2⟩
   have hlt0 : (i : Int) < 10 := by omega
   have hn0 : ¬ (n : Int) < 1 := by omega
   have hb_1 : Below V.heap.size V V := Below.refl _ _
   refine wp_region_held_drew (S := (fun V' : World => (V'.cell? ⟨b4, 0, none⟩ = some (.int .i64 uk) ∧ V'.cell? ⟨b4, 1, none⟩ = some (.int .i64 un) ∧ V'.cell? ⟨b4, 2, none⟩ = some (.string us) ∧ V'.cell? ⟨b4, 3, none⟩ = some (.slice AU ul.length (capF ul.length cU)) ∧ V'.cell? ⟨b2, i, none⟩ = some (.string S)))) rfl (HSS.out _ hb_1.drew) (fun hSs => ?_)
   change wpAnyH _ _ _ _ _ 15 (Array.replicate 15 false) _ _
   refine thB (i := 0) (oi := ⟨some 32, _, _, _, _, _⟩) (v := .int .i64 0) hSs ?_
   try go_frame
   refine thA (i := 1) (oi := ⟨some 33, _, _, _, _, _⟩) (v := .bool false) hSs ?_
   try go_frame
   refine thB (i := 2) (oi := ⟨some 34, _, _, _, _, _⟩) (v := .bool false) hSs ?_
   try go_frame
   refine thA (i := 3) (oi := ⟨some 35, _, _, _, _, _⟩) (v := .agg #[.int .i64 uk, .int .i64 un, .string us, .slice AU ul.length (capF ul.length cU)]) hSs ?_
   try go_frame
   refine thB (i := 5) (oi := ⟨some 37, _, _, _, _, _⟩) (v := .slice (some ⟨b2, 0, none⟩) 10 10) hSs ?_
   try go_frame
   refine thB (i := 6) (oi := ⟨some 38, _, _, _, _, _⟩) (v := .int .i64 (i : Int)) hSs ?_
   try go_frame
   refine thA (i := 7) (oi := ⟨some 39, _, _, _, _, _⟩) (v := .pointer (some ⟨b2, i, none⟩)) hSs ?_
   try go_frame
   refine thA (i := 8) (oi := ⟨some 40, _, _, _, _, _⟩) (v := .string S) hSs ?_
   try go_frame
   refine wpAnyH_ready (rs := [4]) (by kernel_rfl) (by simp) (AllReadyH.cons rfl (fun K hK => ?_) AllReadyH.nil)
   rw [if_pos (by kernel_rfl)]
   go_simp
   refine (HTX.out _ (hb_1.drew) AU cU (EIn.below _ hTU (Below.refl _ _).drew (Nat.le_refl _))).mono ?_
   rintro e u_2 ⟨rfl, hq_2⟩
   have hb_2 := (hb_1.drew).trans (hq_2.mono (hb_1.drew).size)
   have hTU_2 := EIn.below _ (EIn.below _ hTU (Below.refl _ _).drew (Nat.le_refl _)) hq_2 (Nat.le_refl _)
   clear hTU
   refine hK.out _ _ (HSS.out _ hb_2) (fun hS_2 => ?_)
   clear hK K
   try go_frame
   refine thA (i := 9) (oi := ⟨some 41, _, _, _, _, _⟩) (v := .bool false) hS_2 ?_
   try go_frame
   refine thB (i := 10) (oi := ⟨some 42, _, _, _, _, _⟩) (v := .bool false) hS_2 ?_
   try go_frame
   refine thB (i := 11) (oi := ⟨some 43, _, _, _, _, _⟩) (v := .bool false) hS_2 ?_
   try go_frame
   refine thB (i := 12) (oi := ⟨some 44, _, _, _, _, _⟩) (v := .int .i64 (n : Int)) hS_2 ?_
   try go_frame
   refine thA (i := 13) (oi := ⟨some 45, _, _, _, _, _⟩) (v := .bool false) hS_2 ?_
   try go_frame
   refine thB (i := 14) (oi := ⟨some 46, _, _, _, _, _⟩) (v := .bool false) hS_2 ?_
   try go_frame
   refine wpAnyH_done (by kernel_rfl) ?_ _
   go_wp2_with fail
   go_roundw
   case rel => exact ⟨i + 1, by omega, by go_num, l1.below hb_2 l1.lt, l2.below hb_2 l2.lt, hbV.trans (hb_2.mono hbV.size)⟩
   case measure => simp [intOf]; omega
  ·obtain rfl : i = 10 := by omega
   clear hlt hi
   have d1 := l1.cell 0
   rw [(txtA_cell 0 (by omega)).1] at d1
   obtain ⟨Q, hQ⟩ : ∃ Q, Q = txtA 0 := ⟨_, rfl⟩
   rw [← hQ] at d1
   have HOF := Lib.hid (fun W => of9_any Q xa9 W (by rw [hQ]; exact xa9_of))
   have HOB := Lib.hid (fun W => of9_any sb9 xb9 W xb9_of)
   have HOO := Lib.hid (fun W => of9_any so9 xo9 W xo9_of)
   have HSA := Lib.hid (fun (A : Option Addr) (c : Nat) (W : World) (h : EIn W Any xa9 A) (g : Signs W) => stepV_any 0 xa9 A c W h g (fine_may xa9_may (by decide)) (step_fine xa9_may (by decide) (by decide)))
   rw [xa9_step] at HSA
   have HSB := Lib.hid (fun (A : Option Addr) (c : Nat) (W : World) (h : EIn W Any xb9 A) (g : Signs W) => stepV_any 0 xb9 A c W h g (fine_may xb9_may (by decide)) (step_fine xb9_may (by decide) (by decide)))
   rw [xb9_step] at HSB
   have HRO := Lib.hid (fun (A : Option Addr) (c : Nat) (W : World) (h : EIn W Any xo9 A) (g : Signs W) => run_any xo9 A c 50 W h g (fine_may xo9_may (by decide)))
   rw [xo9_run] at HRO
   have HTY := Lib.hid (fun (A : Option Addr) (c : Nat) (W : World) (h : EIn W Any (.node 7 1 ⟨#[]⟩ []) A) => rty6_any 1 (.node 7 1 ⟨#[]⟩ []) A c W (by decide) (by decide) (simyB_spec _ (by decide)) h)
   have hty : ByteArray.mk (tyE (.node 7 1 ⟨#[]⟩ [])).toArray = ⟨#[49]⟩ := by kernel_rfl
   rw [hty] at HTY
   clear hQ l1 l2 hty
   go_wp2_with fail
   refine (HOF.out _).mono ?_
   rintro e w3 ⟨A3, c3, rfl, hT3, hb3⟩
   have hb03 := hbw.trans (hb3.mono hbw.size)
   have HR3 := Lib.hid (HSA.out A3 c3 w3 (EIn.keep _ hT3 fun _ _ _ _ => ⟨rfl, trivial⟩) (HG.out.below hb03 HG.out.pos))
   clear hT3 hb3 hbw d1 HOF HSA
   go_wp2_with fail
   refine HR3.out.mono ?_
   rintro e w4 ⟨A4, c4, rfl, hT4, hb4⟩
   simp only [ev, Te.kind, Te.n, Te.name, Te.parts, List.length_nil]
   have hb04 := hb03.trans (hb4.mono hb03.size)
   clear HR3 hb03 hb4
   go_upto_region 10 with fail
   have l7 : Lies (w4.alloc (.cells #[.int .i64 7, .int .i64 1, .string ⟨#[]⟩, .slice A4 0 (capF 0 c4)] 24)) w4.heap.size 24 #[.int .i64 7, .int .i64 1, .string ⟨#[]⟩, .slice A4 0 (capF 0 c4)] := Lies.new _ _ _
   have hT5 : EIn (w4.alloc (.cells #[.int .i64 7, .int .i64 1, .string ⟨#[]⟩, .slice A4 0 (capF 0 c4)] 24)) Any (.node 7 1 ⟨#[]⟩ []) A4 := EIn.keep _ hT4 fun b j _ hlt => ⟨World.cell?_alloc_lt _ _ ⟨b, j, none⟩ hlt, trivial⟩
   have hb05 := hb04.alloc hb04.size (.cells #[.int .i64 7, .int .i64 1, .string ⟨#[]⟩, .slice A4 0 (capF 0 c4)] 24)
   obtain ⟨b7, hb7⟩ : ∃ b, b = w4.heap.size := ⟨_, rfl⟩
   rw [← hb7] at l7
   rw [← hb7]
   clear hb7 hT4 hb04
   generalize w4.alloc (.cells #[.int .i64 7, .int .i64 1, .string ⟨#[]⟩, .slice A4 0 (capF 0 c4)] 24) = V at *
   go_wp2_with fail
   refine (HOO.out _).mono ?_
   rintro e w5 ⟨A5, c5, rfl, hT6, hb6⟩
   have hb06 := hb05.trans (hb6.mono hb05.size)
   have l7 := l7.below hb6 l7.lt
   have hT5 := EIn.below _ hT5 hb6 (Nat.le_refl _)
   have HR6 := Lib.hid (HRO.out A5 c5 w5 (EIn.keep _ hT6 fun _ _ _ _ => ⟨rfl, trivial⟩) (HG.out.below hb06 HG.out.pos))
   clear hT6 hb6 hb05 HOO HRO
   go_wp2_with fail
   refine HR6.out.mono ?_
   rintro e w6 ⟨A6, c6, rfl, hT6, hb6⟩
   simp only [ev, noE, Te.kind, Te.n, Te.name, Te.parts, List.length_nil]
   have hb07 := hb06.trans (hb6.mono hb06.size)
   have l7 := l7.below hb6 l7.lt
   have hT5 := EIn.below _ hT5 hb6 (Nat.le_refl _)
   clear hT6 hb6 hb06 HR6
   go_upto_region 11 with fail
   have l7 := l7.old (.cells #[.int .i64 0, .int .i64 0, .string ⟨#[]⟩, .slice A6 0 (capF 0 c6)] 24)
   have hT5 : EIn (w6.alloc (.cells #[.int .i64 0, .int .i64 0, .string ⟨#[]⟩, .slice A6 0 (capF 0 c6)] 24)) Any (.node 7 1 ⟨#[]⟩ []) A4 := EIn.keep _ hT5 fun b j _ hlt => ⟨World.cell?_alloc_lt _ _ ⟨b, j, none⟩ hlt, trivial⟩
   have hb08 := hb07.alloc hb07.size (.cells #[.int .i64 0, .int .i64 0, .string ⟨#[]⟩, .slice A6 0 (capF 0 c6)] 24)
   obtain ⟨b8, hb8⟩ : ∃ b, b = w6.heap.size := ⟨_, rfl⟩
   rw [← hb8]
   clear hb8 hb07
   generalize w6.alloc (.cells #[.int .i64 0, .int .i64 0, .string ⟨#[]⟩, .slice A6 0 (capF 0 c6)] 24) = V2 at *
   go_wp2_with fail
   refine (HOB.out _).mono ?_
   rintro e w7 ⟨A7, c7, rfl, hT6, hb6⟩
   have hb06 := hb08.trans (hb6.mono hb08.size)
   have l7 := l7.below hb6 l7.lt
   have hT5 := EIn.below _ hT5 hb6 (Nat.le_refl _)
   have HR6 := Lib.hid (HSB.out A7 c7 w7 (EIn.keep _ hT6 fun _ _ _ _ => ⟨rfl, trivial⟩) (HG.out.below hb06 HG.out.pos))
   clear hT6 hb6 hb08 HOB HSB
   go_wp2_with fail
   refine HR6.out.mono ?_
   rintro e w8 ⟨A8, c8, rfl, hT6, hb6⟩
   have hb07 := hb06.trans (hb6.mono hb06.size)
   have l7 := l7.below hb6 l7.lt
   have hT5 := EIn.below _ hT5 hb6 (Nat.le_refl _)
   clear hT6 hb6 hb06 HR6
   simp only [ev, xb9, lam7, Te.kind, Te.n, Te.name, Te.parts, List.length_cons, List.length_nil]
   go_upto_region 12 with fail
   have l7 := l7.old (.cells #[.int .i64 2, .int .i64 0, .string ⟨#[]⟩, .slice A8 (0 + 1) (capF (0 + 1) c8)] 24)
   have hT5 : EIn (w8.alloc (.cells #[.int .i64 2, .int .i64 0, .string ⟨#[]⟩, .slice A8 (0 + 1) (capF (0 + 1) c8)] 24)) Any (.node 7 1 ⟨#[]⟩ []) A4 := EIn.keep _ hT5 fun b j _ hlt => ⟨World.cell?_alloc_lt _ _ ⟨b, j, none⟩ hlt, trivial⟩
   have hb09 := hb07.alloc hb07.size (.cells #[.int .i64 2, .int .i64 0, .string ⟨#[]⟩, .slice A8 (0 + 1) (capF (0 + 1) c8)] 24)
   obtain ⟨b9, hb9⟩ : ∃ b, b = w8.heap.size := ⟨_, rfl⟩
   rw [← hb9]
   clear hb9 hb07
   generalize w8.alloc (.cells #[.int .i64 2, .int .i64 0, .string ⟨#[]⟩, .slice A8 (0 + 1) (capF (0 + 1) c8)] 24) = V3 at *
   obtain ⟨⟨y0, y1, y2, y3⟩, _⟩ := l7.four
   have HT7 := Lib.hid (HTY.out A4 c4 V3 hT5)
   simp only [ev, Te.kind, Te.n, Te.name, Te.parts, List.length_nil] at HT7
   go_wp2_with fail
   refine HT7.out.mono ?_
   rintro e w9 ⟨rfl, hb9⟩
   have HB := Lib.hid (hb09.trans (hb9.mono hb09.size))
   clear y0 y1 y2 y3 hb9 hb09 hT5 l7
   go_wp2_with fail
   go_ret
   exact ⟨rfl, HB.out⟩
set_option maxHeartbeats 1000000 in
theorem rdepth6_any (d : Nat) : ∀ (t : Te) (A : Option Addr) (c : Nat) (w : World), depthE t ≤ d → sizeE t ≤ 100000 → EIn w Any t A →
  Calls Tryz.prog 10 #[ev t A c] w fun e w' => e = .returned (.int .i64 (depthE t)) ∧ Below w.heap.size w w' := by
 induction d with
 | zero => intro t A c w h; have := depthE_pos t; omega
 | succ d ih =>
  intro t A c w hd hs hI
  obtain ⟨k, n, s, l⟩ := t
  have hdL : depthEL l ≤ d := by rw [depthE] at hd; omega
  have hsL : sizeEL l ≤ 100000 := by rw [sizeE] at hs; omega
  have hlen := sizeEL_len l
  have hdl := depthEL_le_size l
  have HI := Lib.hid hI
  have HE : Hid (depthE (.node k n s l) = depthEL l + 1) := by rw [depthE]; exact rfl
  clear hI hd hs
  show Calls Tryz.prog 10 #[.agg #[.int .i64 k, .int .i64 n, .string s, .slice A l.length (capF l.length c)]] w _
  generalize capF l.length c = c
  obtain ⟨m, hm⟩ : ∃ m, m = l.length := ⟨_, rfl⟩
  rw [← hm]
  have hm1 : m ≤ l.length := by omega
  have hm2 : l.length ≤ m := by omega
  clear hm
  have l0 := Lies.new w 24 #[.int .i64 k, .int .i64 n, .string s, .slice A m c]
  go_enter Tryz.func10, Tryz.ntmps10
  go_wp2_with fail
  go_loopw [3, 4] (fun v x wr => ∃ i : Nat, i ≤ m ∧ x = .int .i64 i ∧ v = .int .i64 (depthEL (l.take i)) ∧ Lies wr w.heap.size 24 #[.int .i64 k, .int .i64 n, .string s, .slice A m c] ∧ Below w.heap.size w wr) (fun _ x _ => m - (intOf x).toNat)
  case atStart => exact ⟨0, by omega, rfl, by simp [depthEL], l0, (Below.refl _ w).alloc (Nat.le_refl _) _⟩
  case round =>
   obtain ⟨i, hi, rfl, rfl, l2, hbw⟩ := hrel
   have c3 := l2.cell 3
   simp at c3
   have hbs := hbw.size
   have hdt := depthEL_take l i
   by_cases hlt : i < m
   ·have hia : i < l.length := by omega
    obtain ⟨g, o, A', c', ⟨hA, _⟩, d0, d1, d2, d3, hIn⟩ := EIn.part (EIn.below _ HI.out hbw (Nat.le_refl _)) i hia
    subst hA
    have hm3 := depthEL_mem l (l[i]'hia) (List.getElem_mem hia)
    have hm4 := sizeEL_mem l (l[i]'hia) (List.getElem_mem hia)
    have HS : Hid (depthEL (l.take (i + 1)) = max (depthEL (l.take i)) (depthE (l[i]'hia))) := by
     rw [List.take_succ_eq_append_getElem hia]; exact depthEL_snoc _ _
    simp only [Te.parts] at d0 d1 d2 d3 hIn
    obtain ⟨tr, hu⟩ : ∃ tr, tr = l[i]'hia := ⟨_, rfl⟩
    rw [← hu] at d0 d1 d2 d3 hIn hm3 hm4 HS
    clear hu
    obtain ⟨tk, tn, ts, tl⟩ := tr
    simp only [Te.kind, Te.n, Te.name] at d0 d1 d2 d3
    have HIH := Lib.hid (ih (.node tk tn ts tl) A' c' wr (by omega) (by omega) hIn)
    have L2 := Lib.hid l2
    clear l2 hIn
    go_wp2_with fail
    refine HIH.out.mono ?_
    rintro e w2 ⟨rfl, hb2⟩
    go_wp2_with fail
    go_roundw
    case rel => exact ⟨i + 1, by omega, by go_num, by rw [HS.out]; exact congrArg (Value.int .i64) (by omega), L2.out.below hb2 L2.out.lt, hbw.trans (hb2.mono hbs)⟩
    case measure => simp [intOf]; omega
   ·go_wp2_with fail
    go_ret
    obtain rfl : i = m := by omega
    refine ⟨?_, hbw⟩
    rw [List.take_of_length_le (by omega)]
    rw [HE.out]
    exact ret_int (by omega)
structure Bx9 (w W : World) (g : Nat) (k n : Int) (s : ByteArray) (l : List Te) (A : Option Addr) (c : Nat) : Prop where
 box : Lies W g 24 #[.int .i64 k, .int .i64 n, .string s, .slice A l.length (capF l.length c)]
 tin : EIn W Any (.node k n s l) A
 bw : Below w.heap.size w W
theorem Bx9.step {w W W' : World} {g : Nat} {k n : Int} {s : ByteArray} {l : List Te} {A : Option Addr} {c : Nat} (h : Bx9 w W g k n s l A c) (hb : Below W.heap.size W W') : Bx9 w W' g k n s l A c :=
 ⟨h.box.below hb h.box.lt, EIn.below _ h.tin hb (Nat.le_refl _), h.bw.trans (hb.mono h.bw.size)⟩
theorem Bx9.new {w V : World} {k n : Int} {s : ByteArray} {l : List Te} {A : Option Addr} {c g : Nat} (hI : EIn w Any (.node k n s l) A) (hb : Below w.heap.size w V) (hg : g = V.heap.size) :
  Bx9 w (V.alloc (.cells #[.int .i64 k, .int .i64 n, .string s, .slice A l.length (capF l.length c)] 24)) g k n s l A c :=
 ⟨lies_next _ _ _ _ hg, EIn.below _ hI (hb.alloc hb.size _) (Nat.le_refl _), hb.alloc hb.size _⟩
theorem Bx9.old {w W : World} {g : Nat} {k n : Int} {s : ByteArray} {l : List Te} {A : Option Addr} {c : Nat} (h : Bx9 w W g k n s l A c) (o : Obj) : Bx9 w (W.alloc o) g k n s l A c := h.step ((Below.refl _ W).alloc (Nat.le_refl _) o)
def Bx94 (g : Nat) (k n : Int) (s : ByteArray) (m : Nat) (A : Option Addr) (c : Nat) (V : World) : Prop :=
 V.cell? ⟨g, 0, none⟩ = some (.int .i64 k) ∧ V.cell? ⟨g, 1, none⟩ = some (.int .i64 n) ∧ V.cell? ⟨g, 2, none⟩ = some (.string s) ∧ V.cell? ⟨g, 3, none⟩ = some (.slice A m c)
section
variable {w W : World} {g : Nat} {k n : Int} {s : ByteArray} {l : List Te} {A : Option Addr} {c : Nat}
theorem Bx9.four (h : Bx9 w W g k n s l A c) : Bx94 g k n s l.length A (capF l.length c) W := ⟨h.box.cell 0, h.box.cell 1, h.box.cell 2, h.box.cell 3⟩
theorem Bx9.small (h : Bx9 w W g k n s l A c) (L : Int) (h0 : 0 ≤ L) (h1 : L ≤ 100000) : Calls Tryz.prog 9 #[.agg #[.int .i64 k, .int .i64 n, .string s, .slice A l.length (capF l.length c)], .int .i64 L] W fun e w' => e = .returned (.bool (decide (0 ≤ fewE (.node k n s l) L 600))) ∧ Below W.heap.size W w' :=
 esmall_any (.node k n s l) A c L W h.tin h0 h1
theorem Bx9.depth (h : Bx9 w W g k n s l A c) (hs : sizeE (.node k n s l) ≤ 100000) : Calls Tryz.prog 10 #[.agg #[.int .i64 k, .int .i64 n, .string s, .slice A l.length (capF l.length c)]] W fun e w' => e = .returned (.int .i64 (depthE (.node k n s l))) ∧ Below W.heap.size W w' :=
 rdepth6_any (depthE (.node k n s l)) (.node k n s l) A c W (Nat.le_refl _) hs h.tin
theorem Bx9.may (h : Bx9 w W g k n s l A c) (f : Int) (h0 : 0 ≤ f) (h1 : f ≤ 1000000) (hd : depthE (.node k n s l) ≤ 12000) : Calls Tryz.prog 17 #[.agg #[.int .i64 k, .int .i64 n, .string s, .slice A l.length (capF l.length c)], .int .i64 f] W fun e w' => e = .returned (.bool (mayQ (.node k n s l) f false)) ∧ Below W.heap.size W w' :=
 rMay6_any (.node k n s l) A c f W h.tin hd (by omega) h1
end
theorem small9 {t : Te} {L : Int} (h : decide (0 ≤ fewE t L 600) = true) (_ : L ≤ 1000) : sizeE t ≤ L ∧ depthE t ≤ 600 := by
 have := fewE_size t L 600 (of_decide_eq_true h)
 have := of_decide_eq_true h
 omega
theorem runE_ends : ∀ (f n : Nat) (t : Te), n ≤ (runE f n t).2.1 ∧ (runE f n t).2.1 ≤ n + f ∧ ((runE f n t).2.2 = 0 ∨ ((runE f n t).1 = noE ∧ ((runE f n t).2.2 = 91 ∨ ((runE f n t).2.2 = 90 ∧ (runE f n t).2.1 = n + f))))
 | f, n, t => by
  by_cases hs : 5000 < sizeE t
  ·rw [runE_wide hs]; exact ⟨Nat.le_refl _, by simp, .inr ⟨rfl, .inl rfl⟩⟩
  ·cases hv : valK t.kind with
   | true => rw [runE_val hs hv]; exact ⟨Nat.le_refl _, by simp, .inl rfl⟩
   | false =>
    cases f with
    | zero => rw [runE_fuel hs hv]; exact ⟨Nat.le_refl _, by simp, .inr ⟨rfl, .inr ⟨rfl, rfl⟩⟩⟩
    | succ f =>
     rw [runE_step hs hv]
     have h := runE_ends f (n + 1) (stepE t).1
     refine ⟨by omega, by omega, ?_⟩
     rcases h.2.2 with h0 | ⟨h1, h2 | ⟨h2, h3⟩⟩
     ·exact .inl h0
     ·exact .inr ⟨h1, .inl h2⟩
     ·exact .inr ⟨h1, .inr ⟨h2, by omega⟩⟩
theorem runE_less : ∀ (f g n : Nat) (t : Te), g ≤ f → ((runE f n t).2.1 ≤ n + g → runE g n t = runE f n t) ∧ (n + g < (runE f n t).2.1 → runE g n t = (noE, n + g, 90))
 | f, g, n, t, hg => by
  by_cases hs : 5000 < sizeE t
  ·rw [runE_wide hs, runE_wide hs]; exact ⟨fun _ => rfl, fun h => absurd (show n + g < n from h) (by omega)⟩
  ·cases hv : valK t.kind with
   | true => rw [runE_val hs hv, runE_val hs hv]; exact ⟨fun _ => rfl, fun h => absurd (show n + g < n from h) (by omega)⟩
   | false =>
    cases f with
    | zero =>
     obtain rfl : g = 0 := by omega
     rw [runE_fuel hs hv]; exact ⟨fun _ => rfl, fun h => absurd (show n + 0 < n from h) (by omega)⟩
    | succ f =>
     cases g with
     | zero =>
      have h := runE_ends f (n + 1) (stepE t).1
      rw [runE_step hs hv, runE_fuel hs hv]
      exact ⟨fun h' => by omega, fun _ => rfl⟩
     | succ g =>
      rw [runE_step hs hv, runE_step hs hv]
      have h := runE_less f g (n + 1) (stepE t).1 (by omega)
      exact ⟨fun h' => h.1 (by omega), fun h' => by rw [h.2 (by omega)]; congr 2; omega⟩
theorem runE_shift : ∀ (f n k : Nat) (t : Te), runE f (n + k) t = ((runE f n t).1, (runE f n t).2.1 + k, (runE f n t).2.2)
 | f, n, k, t => by
  by_cases hs : 5000 < sizeE t
  ·rw [runE_wide hs, runE_wide hs]
  ·cases hv : valK t.kind with
   | true => rw [runE_val hs hv, runE_val hs hv]
   | false =>
    cases f with
    | zero => rw [runE_fuel hs hv, runE_fuel hs hv]
    | succ f =>
     rw [runE_step hs hv, runE_step hs hv, show n + k + 1 = (n + 1) + k by omega, runE_shift f (n + 1) k]
def iterE : Nat → Te → Te
 | 0, t => t
 | i + 1, t => iterE i (stepE t).1
theorem iterE_succ : ∀ (i : Nat) (t : Te), iterE (i + 1) t = (stepE (iterE i t)).1
 | 0, _ => rfl
 | i + 1, t => by rw [iterE, iterE_succ i]; rfl
theorem iterE_may : ∀ (i : Nat) (t : Te) (f : Int), mayQ t f false = true → mayQ (iterE i t) f false = true
 | 0, _, _, h => h
 | i + 1, _t, f, h => iterE_may i _ f (step_may h)
theorem runE_iter : ∀ (i f n : Nat) (t : Te), n + i < (runE f n t).2.1 → sizeE (iterE i t) ≤ 5000 ∧ valK (iterE i t).kind = false
 | i, f, n, t, h => by
  by_cases hs : 5000 < sizeE t
  ·rw [runE_wide hs] at h; exact absurd (show n + i < n from h) (by omega)
  ·cases hv : valK t.kind with
   | true => rw [runE_val hs hv] at h; exact absurd (show n + i < n from h) (by omega)
   | false =>
    cases f with
    | zero => rw [runE_fuel hs hv] at h; exact absurd (show n + i < n from h) (by omega)
    | succ f =>
     cases i with
     | zero => exact ⟨by show sizeE t ≤ 5000; omega, hv⟩
     | succ i =>
      rw [runE_step hs hv] at h
      exact runE_iter i f (n + 1) _ (by omega)
theorem runE_rest : ∀ (i f n : Nat) (t : Te), n + i ≤ (runE f n t).2.1 → i ≤ f → runE (f - i) (n + i) (iterE i t) = runE f n t
 | 0, _, _, _, _, _ => rfl
 | i + 1, f, n, t, h, hf => by
  have h1 := runE_iter 0 f n t (by omega)
  obtain ⟨f, rfl⟩ : ∃ g, f = g + 1 := ⟨f - 1, by omega⟩
  have e : runE (f + 1) n t = runE f (n + 1) (stepE t).1 := runE_step (by have := h1.1; rw [iterE] at this; omega) h1.2
  rw [e] at h ⊢
  have := runE_rest i f (n + 1) (stepE t).1 (by omega) (by omega)
  rw [← this]
  show runE (f + 1 - (i + 1)) (n + (i + 1)) (iterE i (stepE t).1) = _
  rw [show f + 1 - (i + 1) = f - i by omega, show n + (i + 1) = n + 1 + i by omega]
theorem runE_more {f g n : Nat} {t : Te} (hg : g ≤ f) (h : (runE g n t).2.2 = 0) : runE f n t = runE g n t := by
 have h1 := runE_less f g n t hg
 by_cases hc : (runE f n t).2.1 ≤ n + g
 ·exact (h1.1 hc).symm
 ·rw [h1.2 (by omega)] at h; exact absurd (show (90 : Int) = 0 from h) (by decide)
theorem act_what {t : Te} (h : mayQ t 0 false = true) (hv : valK t.kind = false) : (actE t).2 ≠ 0 := by
 have hk := act_closed h hv
 obtain ⟨k, n, s, l⟩ := t
 have hpk : ∀ (s : Te) (l : List Te), (pickE s l).2 ≠ 0 := fun s l => by
  induction l with
  | nil => simp [pickE]
  | cons a r ih => rw [pickE]; split <;> first | exact ih | simp
 unfold actE
 split
 ·unfold applyE; split <;> simp
 ·split
  ·unfold chooseE; split
   ·exact hpk _ _
   ·simp
  ·split
   ·unfold reckonE; split <;> simp
   ·rename_i h3 h5 h8
    exact absurd hk (by simp only [Te.kind] at h3 h5 h8 hk ⊢; omega)
theorem step_what : ∀ (d : Nat) (t : Te), depthE t ≤ d → mayQ t 0 false = true → valK t.kind = false → (stepE t).2 ≠ 0
 | 0, t, hd, _, _ => by have := depthE_pos t; omega
 | d + 1, t, hd, h, hv => by
  cases hw : waitE t with
  | none => rw [stepE_act hw]; exact act_what h hv
  | some i =>
   rw [stepE_wait hw]
   have hlt := wait_lt h hw
   have h2 := depthEL_mem t.parts (prt t.parts i) (by rw [prt_get hlt]; exact List.getElem_mem hlt)
   have h3 : depthE t = depthEL t.parts + 1 := by obtain ⟨k, n, s, l⟩ := t; rw [depthE]; rfl
   exact step_what d (prt t.parts i) (by omega) (may_wait h hw) (wait_part hw)
theorem depthEL_set : ∀ (l : List Te) (i : Nat) (x : Te), depthEL (l.set i x) ≤ max (depthEL l) (depthE x)
 | [], _, _ => by simp [depthEL]
 | a :: r, 0, x => by simp only [List.set, depthEL]; omega
 | a :: r, i + 1, x => by
  have := depthEL_set r i x
  simp only [List.set, depthEL]; omega
theorem step_in : ∀ (d : Nat) (t : Te) (f : Int), depthE t ≤ d → mayQ t f false = true → InE (sizeE t + sizeE t * sizeE t) (depthE t + depthE t) (stepE t).1
 | 0, t, _, hd, _ => by have := depthE_pos t; omega
 | d + 1, t, f, hd, h => by
  cases hw : waitE t with
  | none =>
   rw [stepE_act hw]
   have := act_in t
   exact ⟨Nat.le_trans this.1 (by omega), this.2⟩
  | some i =>
   rw [stepE_wait hw]
   have hlt := wait_lt h hw
   have hm := List.getElem_mem hlt
   rw [← prt_get hlt] at hm
   have h1 := sizeEL_mem t.parts _ hm
   have h2 := depthEL_mem t.parts _ hm
   have h3 : depthE t = depthEL t.parts + 1 := by obtain ⟨k, n, s, l⟩ := t; rw [depthE]; rfl
   have h4 : sizeE t = sizeEL t.parts + 1 := by obtain ⟨k, n, s, l⟩ := t; rw [sizeE]; rfl
   have hp := step_in d (prt t.parts i) f (by omega) (may_wait h hw)
   have h5 := sizeEL_set t.parts i (stepE (prt t.parts i)).1 hlt
   have h6 := depthEL_set t.parts i (stepE (prt t.parts i)).1
   have h7 : sizeE (prt t.parts i) * sizeE (prt t.parts i) ≤ sizeE t * sizeE t := mul_in (by omega) (by omega)
   refine ⟨?_, ?_⟩
   ·show sizeE (setE t i _) ≤ _
    rw [setE, sizeE]
    have := hp.1
    omega
   ·show depthE (setE t i _) ≤ _
    rw [setE, depthE]
    have := hp.2
    omega
theorem step_fine2 {t : Te} (h : mayQ t 0 false = true) (hs : sizeE t ≤ 5000) : FineT (stepE t).1 := by
 have h1 := step_in _ t 0 (Nat.le_refl _) h
 have hd := depth_size t
 have h2 : sizeE t * sizeE t ≤ 5000 * 5000 := mul_in hs hs
 have h3 := h1.1
 have h4 := h1.2
 exact ⟨by omega, by omega, tameE_mono (by omega) (by omega) _ (may_tame _ 0 false 100000 (step_may h) (by omega))⟩
mutual
theorem may_up0 : ∀ (t : Te) (f g : Int) (a : Bool), f ≤ g → mayQ t f a = true → mayQ t g a = true
 | .node k n s l, f, g, a, hfg, h => by
  have hf := may_free h
  rw [mayQ, Bool.and_eq_true, Bool.and_eq_true] at h ⊢
  refine ⟨by simpa using (by omega : 0 ≤ g), ?_, may_upL l k [] (f + moreE k n) (g + moreE k n) (by omega) h.2.2⟩
  have h1 := h.2.1
  unfold headR at h1 ⊢
  cases a with
  | true => exact h1
  | false =>
   simp only [Bool.false_eq_true, if_false] at h1 ⊢
   by_cases hk : k = 1
   ·rw [if_pos hk] at h1 ⊢
    simp at h1 ⊢
    exact ⟨h1.1, h1.2.1, h1.2.2.1, by omega⟩
   ·rw [if_neg hk] at h1 ⊢
    exact h1
theorem may_upL : ∀ (l : List Te) (k : Int) (met : List Te) (f g : Int), f ≤ g → mayQL k met l f = true → mayQL k met l g = true
 | [], _, _, _, _, _, _ => by rw [mayQL]
 | t :: r, k, met, f, g, hfg, h => by
  rw [mayQL, Bool.and_eq_true, Bool.and_eq_true] at h ⊢
  exact ⟨may_up0 t f g _ hfg h.1, h.2.1, may_upL r k _ f g hfg h.2.2⟩
end
theorem stepV_closed {t : Te} (h : mayQ t 0 false = true) : stepV t = stepE t := by
 rw [stepV, if_pos (by rw [may6_same]; exact may_up0 t 0 _ false (by omega) h)]
end Lx
end Go.Proofs.YtiocmiikghcoaaaGreatDoor
