/-
  Texts that lie one behind the other: R7B R7C.
-/
import Derived.Test.YtiocmiikghcoaaaGreatDoorC1
import Derived.Test.YtiocmiikghcoaaaGreatDoorC7
import Derived.Test.YtiocmiikghcoaaaGreatDoorC3
import Derived.Maps.AppendAt
import Derived.Deep.RegionHeld3
import Derived.Deep.DrawnRows
namespace Go.Proofs.YtiocmiikghcoaaaGreatDoor
open Go.RowKit
namespace Lx
set_option maxRecDepth 100000
set_option maxHeartbeats 8000000 in
theorem loop7_new (w : World) : Calls Tryz.prog 84 #[] w (GivesE loop7 w) := by
 obtain ⟨Ax, cx, hx⟩ : ∃ (A : Option Addr) (c : Nat), Value.slice A 0 (capF 0 c) = .slice none 0 0 := ⟨none, 0, rfl⟩
 have HX := Lib.hid hx
 clear hx
 obtain ⟨Af, cf, hf⟩ : ∃ (A : Option Addr) (c : Nat), Value.slice A 0 (capF 0 c) = .slice none 0 0 := ⟨none, 0, rfl⟩
 have HF := Lib.hid hf
 clear hf
 have m_z : Lies (((w.alloc (.cells #[.int .i64 0, .int .i64 0, .string ⟨#[]⟩, .slice none 0 0] 24)).alloc (.cells #[.int .i64 1, .int .i64 0, .string ⟨#[]⟩, .slice none 0 0] 24)).alloc (.cells #[.int .i64 1, .int .i64 1, .string ⟨#[]⟩, .slice none 0 0] 24)) w.heap.size 24 #[.int .i64 0, .int .i64 0, .string ⟨#[]⟩, .slice none 0 0] := ((Lies.new w _ _).old _).old _
 have m_x : Lies (((w.alloc (.cells #[.int .i64 0, .int .i64 0, .string ⟨#[]⟩, .slice none 0 0] 24)).alloc (.cells #[.int .i64 1, .int .i64 0, .string ⟨#[]⟩, .slice none 0 0] 24)).alloc (.cells #[.int .i64 1, .int .i64 1, .string ⟨#[]⟩, .slice none 0 0] 24)) (w.heap.size + 1) 24 #[.int .i64 1, .int .i64 0, .string ⟨#[]⟩, .slice none 0 0] := by
  refine Lies.old ?_ _; simpa using Lies.new (w.alloc (.cells #[.int .i64 0, .int .i64 0, .string ⟨#[]⟩, .slice none 0 0] 24)) 24 #[.int .i64 1, .int .i64 0, .string ⟨#[]⟩, .slice none 0 0]
 have m_f : Lies (((w.alloc (.cells #[.int .i64 0, .int .i64 0, .string ⟨#[]⟩, .slice none 0 0] 24)).alloc (.cells #[.int .i64 1, .int .i64 0, .string ⟨#[]⟩, .slice none 0 0] 24)).alloc (.cells #[.int .i64 1, .int .i64 1, .string ⟨#[]⟩, .slice none 0 0] 24)) (w.heap.size + 1 + 1) 24 #[.int .i64 1, .int .i64 1, .string ⟨#[]⟩, .slice none 0 0] := by
  simpa using Lies.new ((w.alloc (.cells #[.int .i64 0, .int .i64 0, .string ⟨#[]⟩, .slice none 0 0] 24)).alloc (.cells #[.int .i64 1, .int .i64 0, .string ⟨#[]⟩, .slice none 0 0] 24)) 24 #[.int .i64 1, .int .i64 1, .string ⟨#[]⟩, .slice none 0 0]
 have m_b : Below w.heap.size w (((w.alloc (.cells #[.int .i64 0, .int .i64 0, .string ⟨#[]⟩, .slice none 0 0] 24)).alloc (.cells #[.int .i64 1, .int .i64 0, .string ⟨#[]⟩, .slice none 0 0] 24)).alloc (.cells #[.int .i64 1, .int .i64 1, .string ⟨#[]⟩, .slice none 0 0] 24)) := (((Below.refl _ w).alloc (Nat.le_refl _) _).alloc (by simp) _).alloc (by simp; omega) _
 have hBW : w.heap.size + 3 ≤ (((w.alloc (.cells #[.int .i64 0, .int .i64 0, .string ⟨#[]⟩, .slice none 0 0] 24)).alloc (.cells #[.int .i64 1, .int .i64 0, .string ⟨#[]⟩, .slice none 0 0] 24)).alloc (.cells #[.int .i64 1, .int .i64 1, .string ⟨#[]⟩, .slice none 0 0] 24)).heap.size := by simp
 go_enter Tryz.func84, Tryz.ntmps84
 go_upto_region 3 with fail
 generalize (((w.alloc (.cells #[.int .i64 0, .int .i64 0, .string ⟨#[]⟩, .slice none 0 0] 24)).alloc (.cells #[.int .i64 1, .int .i64 0, .string ⟨#[]⟩, .slice none 0 0] 24)).alloc (.cells #[.int .i64 1, .int .i64 1, .string ⟨#[]⟩, .slice none 0 0] 24)) = W0 at *
 have HSS : Hid (∀ V', Below W0.heap.size W0 V' → (fun V' : World => (V'.cell? ⟨w.heap.size + 1, 0, none⟩ = some (.int .i64 1) ∧ V'.cell? ⟨w.heap.size + 1, 1, none⟩ = some (.int .i64 0) ∧ V'.cell? ⟨w.heap.size + 1, 2, none⟩ = some (.string (⟨#[]⟩ : ByteArray)) ∧ V'.cell? ⟨w.heap.size + 1, 3, none⟩ = some (.slice Ax 0 (capF 0 cx)) ∧ V'.cell? ⟨w.heap.size + 1 + 1, 0, none⟩ = some (.int .i64 1) ∧ V'.cell? ⟨w.heap.size + 1 + 1, 1, none⟩ = some (.int .i64 1) ∧ V'.cell? ⟨w.heap.size + 1 + 1, 2, none⟩ = some (.string (⟨#[]⟩ : ByteArray)) ∧ V'.cell? ⟨w.heap.size + 1 + 1, 3, none⟩ = some (.slice Af 0 (capF 0 cf)))) V') := Lib.hid fun V' h =>
  ⟨(h.cell (p := ⟨w.heap.size + 1, 0, none⟩) m_x.lt).trans (m_x.cell 0), (h.cell (p := ⟨w.heap.size + 1, 1, none⟩) m_x.lt).trans (m_x.cell 1), (h.cell (p := ⟨w.heap.size + 1, 2, none⟩) m_x.lt).trans (m_x.cell 2), ((h.cell (p := ⟨w.heap.size + 1, 3, none⟩) m_x.lt).trans (m_x.cell 3)).trans (by rw [HX.out]; rfl), (h.cell (p := ⟨w.heap.size + 1 + 1, 0, none⟩) m_f.lt).trans (m_f.cell 0), (h.cell (p := ⟨w.heap.size + 1 + 1, 1, none⟩) m_f.lt).trans (m_f.cell 1), (h.cell (p := ⟨w.heap.size + 1 + 1, 2, none⟩) m_f.lt).trans (m_f.cell 2), ((h.cell (p := ⟨w.heap.size + 1 + 1, 3, none⟩) m_f.lt).trans (m_f.cell 3)).trans (by rw [HF.out]; rfl)⟩
 have hEx : EIn W0 (fun g => w.heap.size + 3 ≤ g) (var7 0) Ax := ein_mk (by decide) (by decide) (by decide) (by simp) (by rw [ELIn]; trivial)
 have hEf : EIn W0 (fun g => w.heap.size + 3 ≤ g) (var7 1) Af := ein_mk (by decide) (by decide) (by decide) (by simp) (by rw [ELIn]; trivial)
 have HT1 : Hid (∀ X, Below W0.heap.size W0 X → ∀ (Z : Nat → Prop) (hZ : ∀ g, X.heap.size ≤ g → Z g) (A : Option Addr) (c : Nat) (hA : EIn X Z (var7 0) A) (B : Option Addr) (d : Nat) (hB : EIn X Z (var7 0) B), Calls Tryz.prog 83 #[.int .i64 3, .agg #[.int .i64 1, .int .i64 0, .string (⟨#[]⟩ : ByteArray), .slice A 0 (capF 0 c)], .agg #[.int .i64 1, .int .i64 0, .string (⟨#[]⟩ : ByteArray), .slice B 0 (capF 0 d)]] X fun e w' => ∃ A c, e = .returned (.agg #[.int .i64 3, .int .i64 0, .string (⟨#[]⟩ : ByteArray), .slice A 2 (capF 2 c)]) ∧ EIn w' Z (two7 3 (var7 0) (var7 0)) A ∧ Below X.heap.size X w') := Lib.hid fun X _ Z hZ A c hA B d hB => two7_any 3 (var7 0) (var7 0) A B c d X Z (by decide) (by decide) hA hB hZ
 have HT2 : Hid (∀ X, Below W0.heap.size W0 X → ∀ (Z : Nat → Prop) (hZ : ∀ g, X.heap.size ≤ g → Z g) (A : Option Addr) (c : Nat) (hA : EIn X Z (var7 1) A) (B : Option Addr) (d : Nat) (hB : EIn X Z (two7 3 (var7 0) (var7 0)) B), Calls Tryz.prog 83 #[.int .i64 3, .agg #[.int .i64 1, .int .i64 1, .string (⟨#[]⟩ : ByteArray), .slice A 0 (capF 0 c)], .agg #[.int .i64 3, .int .i64 0, .string (⟨#[]⟩ : ByteArray), .slice B 2 (capF 2 d)]] X fun e w' => ∃ A c, e = .returned (.agg #[.int .i64 3, .int .i64 0, .string (⟨#[]⟩ : ByteArray), .slice A 2 (capF 2 c)]) ∧ EIn w' Z (two7 3 (var7 1) (two7 3 (var7 0) (var7 0))) A ∧ Below X.heap.size X w') := Lib.hid fun X _ Z hZ A c hA B d hB => two7_any 3 (var7 1) (two7 3 (var7 0) (var7 0)) A B c d X Z (by decide) (by decide) hA hB hZ
 have HL1 : Hid (∀ X, Below W0.heap.size W0 X → ∀ (Z : Nat → Prop) (hZ : ∀ g, X.heap.size ≤ g → Z g) (A : Option Addr) (c : Nat) (hA : EIn X Z (two7 3 (var7 1) (two7 3 (var7 0) (var7 0))) A), Calls Tryz.prog 81 #[.agg #[.int .i64 3, .int .i64 0, .string (⟨#[]⟩ : ByteArray), .slice A 2 (capF 2 c)]] X fun e w' => ∃ A c, e = .returned (.agg #[.int .i64 2, .int .i64 0, .string (⟨#[]⟩ : ByteArray), .slice A 1 (capF 1 c)]) ∧ EIn w' Z (lam7 (two7 3 (var7 1) (two7 3 (var7 0) (var7 0)))) A ∧ Below X.heap.size X w') := Lib.hid fun X _ Z hZ A c hA => lam7_any (two7 3 (var7 1) (two7 3 (var7 0) (var7 0))) A c X Z hA hZ
 clear m_x m_f
 go_cut [3] from 6 (fun v wx => ∃ (g : Nat) (A : Option Addr) (c : Nat), v = .pointer (some ⟨g, 0, none⟩) ∧ W0.heap.size ≤ g ∧ g < wx.heap.size ∧ Lies wx g 24 #[.int .i64 2, .int .i64 0, .string (⟨#[]⟩ : ByteArray), .slice A 1 (capF 1 c)] ∧ EIn wx (fun g => w.heap.size + 3 ≤ g) half7 A ∧ Below W0.heap.size W0 wx)
 case first =>
  have hb_1 : Below W0.heap.size W0 W0 := Below.refl _ _
  refine wp_region_K (S := (fun V' : World => (V'.cell? ⟨w.heap.size + 1, 0, none⟩ = some (.int .i64 1) ∧ V'.cell? ⟨w.heap.size + 1, 1, none⟩ = some (.int .i64 0) ∧ V'.cell? ⟨w.heap.size + 1, 2, none⟩ = some (.string (⟨#[]⟩ : ByteArray)) ∧ V'.cell? ⟨w.heap.size + 1, 3, none⟩ = some (.slice Ax 0 (capF 0 cx)) ∧ V'.cell? ⟨w.heap.size + 1 + 1, 0, none⟩ = some (.int .i64 1) ∧ V'.cell? ⟨w.heap.size + 1 + 1, 1, none⟩ = some (.int .i64 1) ∧ V'.cell? ⟨w.heap.size + 1 + 1, 2, none⟩ = some (.string (⟨#[]⟩ : ByteArray)) ∧ V'.cell? ⟨w.heap.size + 1 + 1, 3, none⟩ = some (.slice Af 0 (capF 0 cf))))) 7 rfl (HSS.out _ hb_1.drew) (fun hSs => ?_)
  change wpAnyK _ _ _ _ _ _ 8 (Array.replicate 8 false) _ _
  refine tkA (i := 0) (oi := ⟨some 6, _, _, _, _, _⟩) (v := .agg #[.int .i64 1, .int .i64 1, .string (⟨#[]⟩ : ByteArray), .slice Af 0 (capF 0 cf)]) hSs ?_
  try go_frame
  refine tkA (i := 1) (oi := ⟨some 7, _, _, _, _, _⟩) (v := .agg #[.int .i64 1, .int .i64 0, .string (⟨#[]⟩ : ByteArray), .slice Ax 0 (capF 0 cx)]) hSs ?_
  try go_frame
  refine tkA (i := 2) (oi := ⟨some 8, _, _, _, _, _⟩) (v := .agg #[.int .i64 1, .int .i64 0, .string (⟨#[]⟩ : ByteArray), .slice Ax 0 (capF 0 cx)]) hSs ?_
  try go_frame
  refine wpAnyK_both  (i := 3) (j := 6) rfl rfl rfl rfl (by kernel_rfl) (fun K hK => ?_) (fun K hK => ?_)
  ·go_simp
   refine (HT1.out _ (hb_1.drew) (fun g => w.heap.size + 3 ≤ g) (fun g h => Nat.le_trans (Nat.le_trans hBW hb_1.size) h) Ax cx (EIn.below _ hEx (Below.refl _ _).drew (Nat.le_refl _)) Ax cx (EIn.below _ hEx (Below.refl _ _).drew (Nat.le_refl _))).mono ?_
   rintro e u_2 ⟨A_2, c_2, rfl, hT_2, hq_2⟩
   have hb_2 := (hb_1.drew).trans (hq_2.mono (hb_1.drew).size)
   have hEx_2 := EIn.below _ (EIn.below _ hEx (Below.refl _ _).drew (Nat.le_refl _)) hq_2 (Nat.le_refl _)
   have hEf_2 := EIn.below _ (EIn.below _ hEf (Below.refl _ _).drew (Nat.le_refl _)) hq_2 (Nat.le_refl _)
   refine hK.out _ _ (fun _ => HSS.out _ hb_2) (fun hS9 => ?_)
   have hS_2 := hS9 (by decide)
   clear hK K hS9
   try go_frame
   refine wpAnyK_both  (i := 4) (j := 6) rfl rfl rfl rfl (by kernel_rfl) (fun K hK => ?_) (fun K hK => ?_)
   ·go_simp
    refine (HT2.out _ hb_2 (fun g => w.heap.size + 3 ≤ g) (fun g h => Nat.le_trans (Nat.le_trans hBW hb_2.size) h) Af cf hEf_2 A_2 c_2 hT_2).mono ?_
    rintro e u_3 ⟨A_3, c_3, rfl, hT_3, hq_3⟩
    have hb_3 := hb_2.trans (hq_3.mono hb_2.size)
    have hEx_2_3 := EIn.below _ hEx_2 hq_3 (Nat.le_refl _)
    have hEf_2_3 := EIn.below _ hEf_2 hq_3 (Nat.le_refl _)
    have hT_2_3 := EIn.below _ hT_2 hq_3 (Nat.le_refl _)
    refine hK.out _ _ (fun _ => HSS.out _ hb_3) (fun hS9 => ?_)
    have hS_3 := hS9 (by decide)
    clear hK K hS9
    try go_frame
    refine wpAnyK_both  (i := 5) (j := 6) rfl rfl rfl rfl (by kernel_rfl) (fun K hK => ?_) (fun K hK => ?_)
    ·go_simp
     refine (HL1.out _ hb_3 (fun g => w.heap.size + 3 ≤ g) (fun g h => Nat.le_trans (Nat.le_trans hBW hb_3.size) h) A_3 c_3 hT_3).mono ?_
     rintro e u_4 ⟨A_4, c_4, rfl, hT_4, hq_4⟩
     have hb_4 := hb_3.trans (hq_4.mono hb_3.size)
     have hEx_2_3_4 := EIn.below _ hEx_2_3 hq_4 (Nat.le_refl _)
     have hEf_2_3_4 := EIn.below _ hEf_2_3 hq_4 (Nat.le_refl _)
     have hT_2_3_4 := EIn.below _ hT_2_3 hq_4 (Nat.le_refl _)
     have hT_3_4 := EIn.below _ hT_3 hq_4 (Nat.le_refl _)
     refine hK.out _ _ (fun _ => HSS.out _ hb_4) (fun hS9 => ?_)
     have hS_4 := hS9 (by decide)
     clear hK K hS9
     try go_frame
     refine wpAnyK_one  (i := 6) rfl rfl (by kernel_rfl) (fun K hK => ?_)
     go_simp
     have hb_5 := Below.alloc hb_4 hb_4.size (.cells #[.int .i64 0, .int .i64 0, .string (⟨#[]⟩ : ByteArray), .slice none 0 0] 24)
     have hl_5 : Lies (u_4.alloc (.cells #[.int .i64 0, .int .i64 0, .string (⟨#[]⟩ : ByteArray), .slice none 0 0] 24)) (u_4.heap.size) 24 #[.int .i64 0, .int .i64 0, .string (⟨#[]⟩ : ByteArray), .slice none 0 0] := Lies.new _ _ _
     refine hK.out _ _ (fun _ => HSS.out _ hb_5) (fun hS9 => ?_)
     have hS_5 := hS9 (by decide)
     clear hK K hS9
     try go_frame
     have hEx_2_3_4_5 : EIn (u_4.alloc (.cells #[.int .i64 0, .int .i64 0, .string (⟨#[]⟩ : ByteArray), .slice none 0 0] 24)) (fun g => w.heap.size + 3 ≤ g ∧ g ≠ u_4.heap.size) (var7 0) Ax := EIn.keep _ hEx_2_3_4 (fun g j hX hlt => ⟨World.cell?_alloc_lt _ _ _ hlt, hX, Nat.ne_of_lt hlt⟩)
     have hEf_2_3_4_5 : EIn (u_4.alloc (.cells #[.int .i64 0, .int .i64 0, .string (⟨#[]⟩ : ByteArray), .slice none 0 0] 24)) (fun g => w.heap.size + 3 ≤ g ∧ g ≠ u_4.heap.size) (var7 1) Af := EIn.keep _ hEf_2_3_4 (fun g j hX hlt => ⟨World.cell?_alloc_lt _ _ _ hlt, hX, Nat.ne_of_lt hlt⟩)
     have hT_2_3_4_5 : EIn (u_4.alloc (.cells #[.int .i64 0, .int .i64 0, .string (⟨#[]⟩ : ByteArray), .slice none 0 0] 24)) (fun g => w.heap.size + 3 ≤ g ∧ g ≠ u_4.heap.size) (two7 3 (var7 0) (var7 0)) A_2 := EIn.keep _ hT_2_3_4 (fun g j hX hlt => ⟨World.cell?_alloc_lt _ _ _ hlt, hX, Nat.ne_of_lt hlt⟩)
     have hT_3_4_5 : EIn (u_4.alloc (.cells #[.int .i64 0, .int .i64 0, .string (⟨#[]⟩ : ByteArray), .slice none 0 0] 24)) (fun g => w.heap.size + 3 ≤ g ∧ g ≠ u_4.heap.size) (two7 3 (var7 1) (two7 3 (var7 0) (var7 0))) A_3 := EIn.keep _ hT_3_4 (fun g j hX hlt => ⟨World.cell?_alloc_lt _ _ _ hlt, hX, Nat.ne_of_lt hlt⟩)
     have hT_4_5 : EIn (u_4.alloc (.cells #[.int .i64 0, .int .i64 0, .string (⟨#[]⟩ : ByteArray), .slice none 0 0] 24)) (fun g => w.heap.size + 3 ≤ g ∧ g ≠ u_4.heap.size) (lam7 (two7 3 (var7 1) (two7 3 (var7 0) (var7 0)))) A_4 := EIn.keep _ hT_4 (fun g j hX hlt => ⟨World.cell?_alloc_lt _ _ _ hlt, hX, Nat.ne_of_lt hlt⟩)
     refine wpAnyK_one  (i := 7) rfl rfl (by kernel_rfl) (fun K hK => ?_)
     refine wp_store_as (F := fun W9 => Below W0.heap.size W0 W9 ∧ Lies W9 (u_4.heap.size) 24 #[.int .i64 2, .int .i64 0, .string (⟨#[]⟩ : ByteArray), .slice A_4 1 (capF 1 c_4)] ∧ EIn W9 (fun g => w.heap.size + 3 ≤ g) (lam7 (two7 3 (var7 1) (two7 3 (var7 0) (var7 0)))) A_4) _ _ _ rfl (u_4.heap.size) 0 #[.int .i64 2, .int .i64 0, .string (⟨#[]⟩ : ByteArray), .slice A_4 1 (capF 1 c_4)] rfl rfl (lies_is hl_5 rfl) (by kernel_rfl) (by simp [Value.oneCell']) ⟨below_cells hb_5 (hb_4.size) _ _, lies_set4 hl_5 _ _ _ _, EIn.wide _ (ein_offs _ hT_4_5 (fun h => h.2 rfl) _ _) (fun g h _ => h.1)⟩ (fun W_6 hF_6 => ?_)
     refine hK.out _ _ (fun h => absurd rfl h) (fun _ => ?_)
     clear hK K
     try go_frame
     refine wpAnyK_done (by kernel_rfl) ?_ _
     obtain ⟨f1, f2, f3⟩ := hF_6
     go_wp2_with fail
     go_meet
     exact ⟨_, A_4, c_4, rfl, hb_4.size, f2.lt, f2, f3, f1⟩
    ·go_simp
     have hb_7 := Below.alloc hb_3 hb_3.size (.cells #[.int .i64 0, .int .i64 0, .string (⟨#[]⟩ : ByteArray), .slice none 0 0] 24)
     have hl_7 : Lies (u_3.alloc (.cells #[.int .i64 0, .int .i64 0, .string (⟨#[]⟩ : ByteArray), .slice none 0 0] 24)) (u_3.heap.size) 24 #[.int .i64 0, .int .i64 0, .string (⟨#[]⟩ : ByteArray), .slice none 0 0] := Lies.new _ _ _
     refine hK.out _ _ (fun _ => HSS.out _ hb_7) (fun hS9 => ?_)
     have hS_7 := hS9 (by decide)
     clear hK K hS9
     try go_frame
     have hEx_2_3_7 : EIn (u_3.alloc (.cells #[.int .i64 0, .int .i64 0, .string (⟨#[]⟩ : ByteArray), .slice none 0 0] 24)) (fun g => w.heap.size + 3 ≤ g ∧ g ≠ u_3.heap.size) (var7 0) Ax := EIn.keep _ hEx_2_3 (fun g j hX hlt => ⟨World.cell?_alloc_lt _ _ _ hlt, hX, Nat.ne_of_lt hlt⟩)
     have hEf_2_3_7 : EIn (u_3.alloc (.cells #[.int .i64 0, .int .i64 0, .string (⟨#[]⟩ : ByteArray), .slice none 0 0] 24)) (fun g => w.heap.size + 3 ≤ g ∧ g ≠ u_3.heap.size) (var7 1) Af := EIn.keep _ hEf_2_3 (fun g j hX hlt => ⟨World.cell?_alloc_lt _ _ _ hlt, hX, Nat.ne_of_lt hlt⟩)
     have hT_2_3_7 : EIn (u_3.alloc (.cells #[.int .i64 0, .int .i64 0, .string (⟨#[]⟩ : ByteArray), .slice none 0 0] 24)) (fun g => w.heap.size + 3 ≤ g ∧ g ≠ u_3.heap.size) (two7 3 (var7 0) (var7 0)) A_2 := EIn.keep _ hT_2_3 (fun g j hX hlt => ⟨World.cell?_alloc_lt _ _ _ hlt, hX, Nat.ne_of_lt hlt⟩)
     have hT_3_7 : EIn (u_3.alloc (.cells #[.int .i64 0, .int .i64 0, .string (⟨#[]⟩ : ByteArray), .slice none 0 0] 24)) (fun g => w.heap.size + 3 ≤ g ∧ g ≠ u_3.heap.size) (two7 3 (var7 1) (two7 3 (var7 0) (var7 0))) A_3 := EIn.keep _ hT_3 (fun g j hX hlt => ⟨World.cell?_alloc_lt _ _ _ hlt, hX, Nat.ne_of_lt hlt⟩)
     refine wpAnyK_one  (i := 5) rfl rfl (by kernel_rfl) (fun K hK => ?_)
     go_simp
     refine (HL1.out _ hb_7 (fun g => w.heap.size + 3 ≤ g ∧ g ≠ u_3.heap.size) (fun g h => ⟨Nat.le_trans (Nat.le_trans hBW hb_7.size) h, Nat.ne_of_gt (Nat.lt_of_lt_of_le hl_7.lt h)⟩) A_3 c_3 hT_3_7).mono ?_
     rintro e u_8 ⟨A_8, c_8, rfl, hT_8, hq_8⟩
     have hb_8 := hb_7.trans (hq_8.mono hb_7.size)
     have hl_7_8 := hl_7.below hq_8 hl_7.lt
     have hEx_2_3_7_8 := EIn.below _ hEx_2_3_7 hq_8 (Nat.le_refl _)
     have hEf_2_3_7_8 := EIn.below _ hEf_2_3_7 hq_8 (Nat.le_refl _)
     have hT_2_3_7_8 := EIn.below _ hT_2_3_7 hq_8 (Nat.le_refl _)
     have hT_3_7_8 := EIn.below _ hT_3_7 hq_8 (Nat.le_refl _)
     refine hK.out _ _ (fun _ => HSS.out _ hb_8) (fun hS9 => ?_)
     have hS_8 := hS9 (by decide)
     clear hK K hS9
     try go_frame
     refine wpAnyK_one  (i := 7) rfl rfl (by kernel_rfl) (fun K hK => ?_)
     refine wp_store_as (F := fun W9 => Below W0.heap.size W0 W9 ∧ Lies W9 (u_3.heap.size) 24 #[.int .i64 2, .int .i64 0, .string (⟨#[]⟩ : ByteArray), .slice A_8 1 (capF 1 c_8)] ∧ EIn W9 (fun g => w.heap.size + 3 ≤ g) (lam7 (two7 3 (var7 1) (two7 3 (var7 0) (var7 0)))) A_8) _ _ _ rfl (u_3.heap.size) 0 #[.int .i64 2, .int .i64 0, .string (⟨#[]⟩ : ByteArray), .slice A_8 1 (capF 1 c_8)] rfl rfl (lies_is hl_7_8 rfl) (by kernel_rfl) (by simp [Value.oneCell']) ⟨below_cells hb_8 (hb_3.size) _ _, lies_set4 hl_7_8 _ _ _ _, EIn.wide _ (ein_offs _ hT_8 (fun h => h.2 rfl) _ _) (fun g h _ => h.1)⟩ (fun W_9 hF_9 => ?_)
     refine hK.out _ _ (fun h => absurd rfl h) (fun _ => ?_)
     clear hK K
     try go_frame
     refine wpAnyK_done (by kernel_rfl) ?_ _
     obtain ⟨f1, f2, f3⟩ := hF_9
     go_wp2_with fail
     go_meet
     exact ⟨_, A_8, c_8, rfl, hb_3.size, f2.lt, f2, f3, f1⟩
   ·go_simp
    have hb_10 := Below.alloc hb_2 hb_2.size (.cells #[.int .i64 0, .int .i64 0, .string (⟨#[]⟩ : ByteArray), .slice none 0 0] 24)
    have hl_10 : Lies (u_2.alloc (.cells #[.int .i64 0, .int .i64 0, .string (⟨#[]⟩ : ByteArray), .slice none 0 0] 24)) (u_2.heap.size) 24 #[.int .i64 0, .int .i64 0, .string (⟨#[]⟩ : ByteArray), .slice none 0 0] := Lies.new _ _ _
    refine hK.out _ _ (fun _ => HSS.out _ hb_10) (fun hS9 => ?_)
    have hS_10 := hS9 (by decide)
    clear hK K hS9
    try go_frame
    have hEx_2_10 : EIn (u_2.alloc (.cells #[.int .i64 0, .int .i64 0, .string (⟨#[]⟩ : ByteArray), .slice none 0 0] 24)) (fun g => w.heap.size + 3 ≤ g ∧ g ≠ u_2.heap.size) (var7 0) Ax := EIn.keep _ hEx_2 (fun g j hX hlt => ⟨World.cell?_alloc_lt _ _ _ hlt, hX, Nat.ne_of_lt hlt⟩)
    have hEf_2_10 : EIn (u_2.alloc (.cells #[.int .i64 0, .int .i64 0, .string (⟨#[]⟩ : ByteArray), .slice none 0 0] 24)) (fun g => w.heap.size + 3 ≤ g ∧ g ≠ u_2.heap.size) (var7 1) Af := EIn.keep _ hEf_2 (fun g j hX hlt => ⟨World.cell?_alloc_lt _ _ _ hlt, hX, Nat.ne_of_lt hlt⟩)
    have hT_2_10 : EIn (u_2.alloc (.cells #[.int .i64 0, .int .i64 0, .string (⟨#[]⟩ : ByteArray), .slice none 0 0] 24)) (fun g => w.heap.size + 3 ≤ g ∧ g ≠ u_2.heap.size) (two7 3 (var7 0) (var7 0)) A_2 := EIn.keep _ hT_2 (fun g j hX hlt => ⟨World.cell?_alloc_lt _ _ _ hlt, hX, Nat.ne_of_lt hlt⟩)
    refine wpAnyK_one  (i := 4) rfl rfl (by kernel_rfl) (fun K hK => ?_)
    go_simp
    refine (HT2.out _ hb_10 (fun g => w.heap.size + 3 ≤ g ∧ g ≠ u_2.heap.size) (fun g h => ⟨Nat.le_trans (Nat.le_trans hBW hb_10.size) h, Nat.ne_of_gt (Nat.lt_of_lt_of_le hl_10.lt h)⟩) Af cf hEf_2_10 A_2 c_2 hT_2_10).mono ?_
    rintro e u_11 ⟨A_11, c_11, rfl, hT_11, hq_11⟩
    have hb_11 := hb_10.trans (hq_11.mono hb_10.size)
    have hl_10_11 := hl_10.below hq_11 hl_10.lt
    have hEx_2_10_11 := EIn.below _ hEx_2_10 hq_11 (Nat.le_refl _)
    have hEf_2_10_11 := EIn.below _ hEf_2_10 hq_11 (Nat.le_refl _)
    have hT_2_10_11 := EIn.below _ hT_2_10 hq_11 (Nat.le_refl _)
    refine hK.out _ _ (fun _ => HSS.out _ hb_11) (fun hS9 => ?_)
    have hS_11 := hS9 (by decide)
    clear hK K hS9
    try go_frame
    refine wpAnyK_one  (i := 5) rfl rfl (by kernel_rfl) (fun K hK => ?_)
    go_simp
    refine (HL1.out _ hb_11 (fun g => w.heap.size + 3 ≤ g ∧ g ≠ u_2.heap.size) (fun g h => ⟨Nat.le_trans (Nat.le_trans hBW hb_11.size) h, Nat.ne_of_gt (Nat.lt_of_lt_of_le hl_10_11.lt h)⟩) A_11 c_11 hT_11).mono ?_
    rintro e u_12 ⟨A_12, c_12, rfl, hT_12, hq_12⟩
    have hb_12 := hb_11.trans (hq_12.mono hb_11.size)
    have hl_10_11_12 := hl_10_11.below hq_12 hl_10_11.lt
    have hEx_2_10_11_12 := EIn.below _ hEx_2_10_11 hq_12 (Nat.le_refl _)
    have hEf_2_10_11_12 := EIn.below _ hEf_2_10_11 hq_12 (Nat.le_refl _)
    have hT_2_10_11_12 := EIn.below _ hT_2_10_11 hq_12 (Nat.le_refl _)
    have hT_11_12 := EIn.below _ hT_11 hq_12 (Nat.le_refl _)
    refine hK.out _ _ (fun _ => HSS.out _ hb_12) (fun hS9 => ?_)
    have hS_12 := hS9 (by decide)
    clear hK K hS9
    try go_frame
    refine wpAnyK_one  (i := 7) rfl rfl (by kernel_rfl) (fun K hK => ?_)
    refine wp_store_as (F := fun W9 => Below W0.heap.size W0 W9 ∧ Lies W9 (u_2.heap.size) 24 #[.int .i64 2, .int .i64 0, .string (⟨#[]⟩ : ByteArray), .slice A_12 1 (capF 1 c_12)] ∧ EIn W9 (fun g => w.heap.size + 3 ≤ g) (lam7 (two7 3 (var7 1) (two7 3 (var7 0) (var7 0)))) A_12) _ _ _ rfl (u_2.heap.size) 0 #[.int .i64 2, .int .i64 0, .string (⟨#[]⟩ : ByteArray), .slice A_12 1 (capF 1 c_12)] rfl rfl (lies_is hl_10_11_12 rfl) (by kernel_rfl) (by simp [Value.oneCell']) ⟨below_cells hb_12 (hb_2.size) _ _, lies_set4 hl_10_11_12 _ _ _ _, EIn.wide _ (ein_offs _ hT_12 (fun h => h.2 rfl) _ _) (fun g h _ => h.1)⟩ (fun W_13 hF_13 => ?_)
    refine hK.out _ _ (fun h => absurd rfl h) (fun _ => ?_)
    clear hK K
    try go_frame
    refine wpAnyK_done (by kernel_rfl) ?_ _
    obtain ⟨f1, f2, f3⟩ := hF_13
    go_wp2_with fail
    go_meet
    exact ⟨_, A_12, c_12, rfl, hb_2.size, f2.lt, f2, f3, f1⟩
  ·go_simp
   have hb_14 := Below.alloc hb_1 hb_1.size (.cells #[.int .i64 0, .int .i64 0, .string (⟨#[]⟩ : ByteArray), .slice none 0 0] 24)
   have hl_14 : Lies (W0.alloc (.cells #[.int .i64 0, .int .i64 0, .string (⟨#[]⟩ : ByteArray), .slice none 0 0] 24)) (W0.heap.size) 24 #[.int .i64 0, .int .i64 0, .string (⟨#[]⟩ : ByteArray), .slice none 0 0] := Lies.new _ _ _
   refine hK.out _ _ (fun _ => HSS.out _ (hb_14.drew)) (fun hS9 => ?_)
   have hS_14 := hS9 (by decide)
   clear hK K hS9
   try go_frame
   have hEx_14 : EIn (W0.alloc (.cells #[.int .i64 0, .int .i64 0, .string (⟨#[]⟩ : ByteArray), .slice none 0 0] 24)) (fun g => w.heap.size + 3 ≤ g ∧ g ≠ W0.heap.size) (var7 0) Ax := EIn.keep _ hEx (fun g j hX hlt => ⟨World.cell?_alloc_lt _ _ _ hlt, hX, Nat.ne_of_lt hlt⟩)
   have hEf_14 : EIn (W0.alloc (.cells #[.int .i64 0, .int .i64 0, .string (⟨#[]⟩ : ByteArray), .slice none 0 0] 24)) (fun g => w.heap.size + 3 ≤ g ∧ g ≠ W0.heap.size) (var7 1) Af := EIn.keep _ hEf (fun g j hX hlt => ⟨World.cell?_alloc_lt _ _ _ hlt, hX, Nat.ne_of_lt hlt⟩)
   refine wpAnyK_one  (i := 3) rfl rfl (by kernel_rfl) (fun K hK => ?_)
   go_simp
   refine (HT1.out _ (hb_14.drew) (fun g => w.heap.size + 3 ≤ g ∧ g ≠ W0.heap.size) (fun g h => ⟨Nat.le_trans (Nat.le_trans hBW hb_14.size) h, Nat.ne_of_gt (Nat.lt_of_lt_of_le hl_14.lt h)⟩) Ax cx (EIn.below _ hEx_14 (Below.refl _ _).drew (Nat.le_refl _)) Ax cx (EIn.below _ hEx_14 (Below.refl _ _).drew (Nat.le_refl _))).mono ?_
   rintro e u_15 ⟨A_15, c_15, rfl, hT_15, hq_15⟩
   have hb_15 := (hb_14.drew).trans (hq_15.mono (hb_14.drew).size)
   have hl_14_15 := (hl_14.drew).below hq_15 hl_14.lt
   have hEx_14_15 := EIn.below _ (EIn.below _ hEx_14 (Below.refl _ _).drew (Nat.le_refl _)) hq_15 (Nat.le_refl _)
   have hEf_14_15 := EIn.below _ (EIn.below _ hEf_14 (Below.refl _ _).drew (Nat.le_refl _)) hq_15 (Nat.le_refl _)
   refine hK.out _ _ (fun _ => HSS.out _ hb_15) (fun hS9 => ?_)
   have hS_15 := hS9 (by decide)
   clear hK K hS9
   try go_frame
   refine wpAnyK_one  (i := 4) rfl rfl (by kernel_rfl) (fun K hK => ?_)
   go_simp
   refine (HT2.out _ hb_15 (fun g => w.heap.size + 3 ≤ g ∧ g ≠ W0.heap.size) (fun g h => ⟨Nat.le_trans (Nat.le_trans hBW hb_15.size) h, Nat.ne_of_gt (Nat.lt_of_lt_of_le hl_14_15.lt h)⟩) Af cf hEf_14_15 A_15 c_15 hT_15).mono ?_
   rintro e u_16 ⟨A_16, c_16, rfl, hT_16, hq_16⟩
   have hb_16 := hb_15.trans (hq_16.mono hb_15.size)
   have hl_14_15_16 := hl_14_15.below hq_16 hl_14_15.lt
   have hEx_14_15_16 := EIn.below _ hEx_14_15 hq_16 (Nat.le_refl _)
   have hEf_14_15_16 := EIn.below _ hEf_14_15 hq_16 (Nat.le_refl _)
   have hT_15_16 := EIn.below _ hT_15 hq_16 (Nat.le_refl _)
   refine hK.out _ _ (fun _ => HSS.out _ hb_16) (fun hS9 => ?_)
   have hS_16 := hS9 (by decide)
   clear hK K hS9
   try go_frame
   refine wpAnyK_one  (i := 5) rfl rfl (by kernel_rfl) (fun K hK => ?_)
   go_simp
   refine (HL1.out _ hb_16 (fun g => w.heap.size + 3 ≤ g ∧ g ≠ W0.heap.size) (fun g h => ⟨Nat.le_trans (Nat.le_trans hBW hb_16.size) h, Nat.ne_of_gt (Nat.lt_of_lt_of_le hl_14_15_16.lt h)⟩) A_16 c_16 hT_16).mono ?_
   rintro e u_17 ⟨A_17, c_17, rfl, hT_17, hq_17⟩
   have hb_17 := hb_16.trans (hq_17.mono hb_16.size)
   have hl_14_15_16_17 := hl_14_15_16.below hq_17 hl_14_15_16.lt
   have hEx_14_15_16_17 := EIn.below _ hEx_14_15_16 hq_17 (Nat.le_refl _)
   have hEf_14_15_16_17 := EIn.below _ hEf_14_15_16 hq_17 (Nat.le_refl _)
   have hT_15_16_17 := EIn.below _ hT_15_16 hq_17 (Nat.le_refl _)
   have hT_16_17 := EIn.below _ hT_16 hq_17 (Nat.le_refl _)
   refine hK.out _ _ (fun _ => HSS.out _ hb_17) (fun hS9 => ?_)
   have hS_17 := hS9 (by decide)
   clear hK K hS9
   try go_frame
   refine wpAnyK_one  (i := 7) rfl rfl (by kernel_rfl) (fun K hK => ?_)
   refine wp_store_as (F := fun W9 => Below W0.heap.size W0 W9 ∧ Lies W9 (W0.heap.size) 24 #[.int .i64 2, .int .i64 0, .string (⟨#[]⟩ : ByteArray), .slice A_17 1 (capF 1 c_17)] ∧ EIn W9 (fun g => w.heap.size + 3 ≤ g) (lam7 (two7 3 (var7 1) (two7 3 (var7 0) (var7 0)))) A_17) _ _ _ rfl (W0.heap.size) 0 #[.int .i64 2, .int .i64 0, .string (⟨#[]⟩ : ByteArray), .slice A_17 1 (capF 1 c_17)] rfl rfl (lies_is hl_14_15_16_17 rfl) (by kernel_rfl) (by simp [Value.oneCell']) ⟨below_cells hb_17 (Nat.le_refl _) _ _, lies_set4 hl_14_15_16_17 _ _ _ _, EIn.wide _ (ein_offs _ hT_17 (fun h => h.2 rfl) _ _) (fun g h _ => h.1)⟩ (fun W_18 hF_18 => ?_)
   refine hK.out _ _ (fun h => absurd rfl h) (fun _ => ?_)
   clear hK K
   try go_frame
   refine wpAnyK_done (by kernel_rfl) ?_ _
   obtain ⟨f1, f2, f3⟩ := hF_18
   go_wp2_with fail
   go_meet
   exact ⟨_, A_17, c_17, rfl, Nat.le_refl _, f2.lt, f2, f3, f1⟩
 case rest =>
  obtain ⟨g, A, c, rfl, hg0, hgl, hL, hE, hbx⟩ := hcut
  have lz := m_z.below hbx m_z.lt
  have hbw := m_b.trans (hbx.mono m_b.size)
  obtain ⟨⟨x0, x1, x2, x3⟩, _⟩ := hL.four
  have hBc : w.heap.size + 3 ≤ wc.heap.size := Nat.le_trans hBW hbx.size
  have HT := Lib.hid (two7_any 3 half7 half7 A A c c wc (fun g => w.heap.size + 3 ≤ g) (by decide) (by decide) hE hE (fun g h => Nat.le_trans hBc h))
  simp only [ev, half7, lam7, two7, Te.kind, Te.n, Te.name, Te.parts, List.length_cons, List.length_nil, Nat.zero_add, Nat.reduceAdd] at HT
  obtain ⟨H2, hH2⟩ : ∃ t, t = two7 3 half7 half7 := ⟨_, rfl⟩
  clear m_z m_b hbx hL hE HSS hEx hEf HT1 HT2 HL1
  go_wp2_with fail
  refine HT.out.mono ?_
  rintro e w2 ⟨A2, c2, rfl, hE2, hb2⟩
  have hbw2 := hbw.trans (hb2.mono hbw.size)
  have lz2 := lz.below hb2 lz.lt
  have hE3 : EIn w2 (fun g => w.heap.size + 3 ≤ g) (two7 3 half7 half7) A2 := hE2
  have HL := Lib.hid (lam7_any (two7 3 half7 half7) A2 c2 w2 (fun g => w.heap.size + 3 ≤ g) hE3 (fun g h => Nat.le_trans (Nat.le_trans hBc hb2.size) h))
  simp only [ev, half7, lam7, two7, Te.kind, Te.n, Te.name, Te.parts, List.length_cons, List.length_nil, Nat.zero_add, Nat.reduceAdd] at HL
  clear hE2 hE3 HT x0 x1 x2 x3
  go_wp2_with fail
  refine HL.out.mono ?_
  rintro e w3 ⟨A3, c3, rfl, hE4, hb3⟩
  have hbw3 := hbw2.trans (hb3.mono hbw2.size)
  have lz3 := lz2.below hb3 lz2.lt
  obtain ⟨⟨y0, y1, y2, y3⟩, f0, f1, f2, f3⟩ := lz3.four
  have HE : Hid (EIn w3 (fun g => w.heap.size + 3 ≤ g) loop7 A3) := Lib.hid hE4
  clear hE4 HL hb2 hb3
  go_wp2_with fail
  refine bodyPost_ret (res_term (p := 0) Tryz.results84 rfl (lz3.all _ _ _ _)) rfl ⟨A3, c3, rfl, ?_, Below.all hbw3 (Nat.le_refl _) _ _ _ _⟩
  refine EIn.keep _ HE.out fun g j hg _ => ⟨?_, by have h9 : w.heap.size + 3 ≤ g := hg; omega⟩
  have h9 : w.heap.size + 3 ≤ g := hg
  have hne : ∀ q u, (⟨w.heap.size, q, none⟩ : Addr) ≠ ⟨g, u, none⟩ := fun q u e => by injection e with e; omega
  rw [World.cell?_setCell_other _ _ _ _ (hne _ _), World.cell?_setCell_other _ _ _ _ (hne _ _), World.cell?_setCell_other _ _ _ _ (hne _ _), World.cell?_setCell_other _ _ _ _ (hne _ _)]
theorem loop7_any (w : World) (Z : Nat → Prop) (hZ : ∀ g, w.heap.size ≤ g → Z g) : Calls Tryz.prog 84 #[] w fun e w' => ∃ A c, e = .returned (ev loop7 A c) ∧ EIn w' Z loop7 A ∧ Below w.heap.size w w' :=
 (loop7_new w).mono fun e w' h => by
  obtain ⟨A, c, h1, h2, h3⟩ := h
  exact ⟨A, c, h1, EIn.wide _ h2 (fun g hg _ => hZ g hg), h3⟩
def Term7 (d : Nat) : Prop := ∀ (t : Tr) (A : Option Addr) (c : Nat) (b : List ByteArray) (Ab : Option Addr) (mb cb : Nat) (w : World), depthT t ≤ d → okT t → mb = b.length → mb + 9 * d ≤ 70000 → TIn w Any t A → SIn w Any b Ab → (Ab = none → cb = 0) →
  Calls Tryz.prog 52 #[tv t A c, .slice Ab mb cb] w (GivesE (termT b t) w)
set_option maxHeartbeats 8000000 in
theorem term7_k2 {d : Nat} (ih : Term7 d) (n a : Int) (s : ByteArray) (l : List Tr) (A : Option Addr) (m c : Nat) (b : List ByteArray) (Ab : Option Addr) (mb cb : Nat) (w : World) (hm : m = l.length) (hl : l.length = 1) (hd : depthL l ≤ d) (hok : okL l) (_hss : s.size ≤ 140737488351232) (hmb : mb = b.length) (hbl : mb + 9 * (d + 1) ≤ 70000) (hI : LIn w Any l A 0) (hB : SIn w Any b Ab) (hAb : Ab = none → cb = 0) :
  Calls Tryz.prog 52 #[.agg #[.int .i64 2, .string s, .int .i64 n, .int .i64 a, .slice A m c], .slice Ab mb cb] w (GivesE (termT b (.node 2 s n a l)) w) := by
 have HI := Lib.hid hI
 have HOK := Lib.hid hok
 have HB := Lib.hid hB
 have HAB := Lib.hid hAb
 have HMB := Lib.hid hmb
 have hbl' := hbl
 clear hI hok hB hAb hmb
 have hip : 0 < l.length := by omega
 obtain ⟨gp, op, Ap, cp, ⟨hAp, _⟩, dp0, dp1, dp2, dp3, dp4, hInp⟩ := LIn.at_ l HI.out (0) hip
 have hglp := cell_lt dp0
 have hdpp := depthL_mem l (l[0]'hip) (List.getElem_mem hip)
 have hokp := okL_mem l (l[0]'hip) (List.getElem_mem hip) HOK.out
 obtain ⟨Pp, hPp⟩ : ∃ t, t = l[0]'hip := ⟨_, rfl⟩
 rw [← hPp] at dp0 dp1 dp2 dp3 dp4 hInp hdpp hokp
 subst hAp
 have hmA : 0 < m := by omega
 clear hm hl
 have hb0 : Below w.heap.size w ((w.alloc (.cells #[.int .i64 2, .string s, .int .i64 n, .int .i64 a, .slice (some ⟨gp, op, none⟩) m c] 49)).alloc (.cells #[.int .i64 0, .int .i64 0, .string ⟨#[]⟩, .slice none 0 0] 24)) := ((Below.refl _ w).alloc (Nat.le_refl _) _).alloc (by simp) _
 have hLt : Lies ((w.alloc (.cells #[.int .i64 2, .string s, .int .i64 n, .int .i64 a, .slice (some ⟨gp, op, none⟩) m c] 49)).alloc (.cells #[.int .i64 0, .int .i64 0, .string ⟨#[]⟩, .slice none 0 0] 24)) w.heap.size 49 #[.int .i64 2, .string s, .int .i64 n, .int .i64 a, .slice (some ⟨gp, op, none⟩) m c] := (Lies.new w _ _).old _
 have hLr : Lies ((w.alloc (.cells #[.int .i64 2, .string s, .int .i64 n, .int .i64 a, .slice (some ⟨gp, op, none⟩) m c] 49)).alloc (.cells #[.int .i64 0, .int .i64 0, .string ⟨#[]⟩, .slice none 0 0] 24)) (w.heap.size + 1) 24 #[.int .i64 0, .int .i64 0, .string ⟨#[]⟩, .slice none 0 0] := by simpa using Lies.new (w.alloc (.cells #[.int .i64 2, .string s, .int .i64 n, .int .i64 a, .slice (some ⟨gp, op, none⟩) m c] 49)) 24 #[.int .i64 0, .int .i64 0, .string ⟨#[]⟩, .slice none 0 0]
 have hBW : w.heap.size + 2 ≤ ((w.alloc (.cells #[.int .i64 2, .string s, .int .i64 n, .int .i64 a, .slice (some ⟨gp, op, none⟩) m c] 49)).alloc (.cells #[.int .i64 0, .int .i64 0, .string ⟨#[]⟩, .slice none 0 0] 24)).heap.size := by simp
 have hT2 : termT b (.node 2 s n a l) = lam7 (termT (b ++ [s]) Pp) := by
  rw [termT, if_neg (by decide), if_pos rfl, termL_at _ _ 0 hip, hPp]
 clear hPp
 go_enter Tryz.func52, Tryz.ntmps52
 go_upto_region 5 with fail
 generalize ((w.alloc (.cells #[.int .i64 2, .string s, .int .i64 n, .int .i64 a, .slice (some ⟨gp, op, none⟩) m c] 49)).alloc (.cells #[.int .i64 0, .int .i64 0, .string ⟨#[]⟩, .slice none 0 0] 24)) = W0 at *
 obtain ⟨LI, hLI⟩ : ∃ L, L = b ++ [s] := ⟨_, rfl⟩
 have hLIl : LI.length = mb + 1 := by rw [hLI, List.length_append, ← HMB.out]; rfl
 obtain ⟨mi, hmi⟩ : ∃ m, m = LI.length := ⟨_, rfl⟩
 have hmi1 : mi ≤ mb + 1 := by omega
 have HMI := Lib.hid hmi
 have HWI : Hid (∀ X, Below W0.heap.size W0 X → Calls Tryz.prog 82 #[.slice Ab mb cb, .string s] X fun e w' => ∃ A c, e = .returned (.slice A mi c) ∧ Hid (SIn w' Any LI A ∧ (A = none → c = 0)) ∧ Below X.heap.size X w') := Lib.hid fun X hX =>
  (with7_any b s Ab mb cb X HMB.out (by omega) (SIn.below HB.out (hb0.trans (hX.mono hb0.size)) (Nat.le_refl _)) HAB.out).mono fun e w' h => by
   obtain ⟨A, c, h1, h2, h3, h4⟩ := h
   exact ⟨A, c, by rw [h1, hmi, hLI], Lib.hid ⟨by rw [hLI]; exact h2, h3⟩, h4⟩
 have HLI := Lib.hid hLI
 clear hLI hLIl hmi
 rw [← HLI.out] at hT2
 have HTEp : Hid (∀ X, Below W0.heap.size W0 X → ∀ (Z : Nat → Prop) (hZ : ∀ g, X.heap.size ≤ g → Z g) (Ai : Option Addr) (ci : Nat) (hS : Hid (SIn X Any LI Ai ∧ (Ai = none → ci = 0))), Calls Tryz.prog 52 #[tv Pp Ap cp, .slice Ai mi ci] X fun e w' => ∃ A c, e = .returned (ev (termT LI Pp) A c) ∧ EIn w' Z (termT LI Pp) A ∧ Below X.heap.size X w') := Lib.hid fun X hX Z hZ Ai ci hS =>
  (ih Pp Ap cp LI Ai mi ci X (by omega) hokp HMI.out (by omega) (TIn.below _ hInp (hb0.trans (hX.mono hb0.size)) (Nat.le_refl _)) hS.out.1 hS.out.2).mono fun e w' ⟨A, c, h1, h2, h3⟩ => ⟨A, c, h1, EIn.wide _ h2 (fun g hg _ => hZ g hg), h3⟩
 obtain ⟨up, hup⟩ : ∃ t, t = termT LI Pp := ⟨_, rfl⟩
 rw [← hup] at HTEp
 replace hup := Lib.hid hup
 obtain ⟨upk, upn, ups, upl⟩ := up
 obtain ⟨pk, ps, pn, pa, pl⟩ := Pp
 simp only [ev, tv, Te.kind, Te.n, Te.name, Te.parts, Tr.kind, Tr.name, Tr.n, Tr.place, Tr.parts] at HTEp dp0 dp1 dp2 dp3 dp4
 have HE : Hid (termT b (.node 2 s n a l) = (lam7 (.node upk upn ups upl))) := Lib.hid (by rw [hT2, ← hup.out])
 have HSS : Hid (∀ V', Below W0.heap.size W0 V' → (fun V' : World => (V'.cell? ⟨w.heap.size, 0, none⟩ = some (.int .i64 2) ∧ V'.cell? ⟨w.heap.size, 1, none⟩ = some (.string s) ∧ V'.cell? ⟨w.heap.size, 2, none⟩ = some (.int .i64 n) ∧ V'.cell? ⟨w.heap.size, 3, none⟩ = some (.int .i64 a) ∧ V'.cell? ⟨w.heap.size, 4, none⟩ = some (.slice (some ⟨gp, op, none⟩) m c) ∧ V'.cell? ⟨gp, op, none⟩ = some (.int .i64 pk) ∧ V'.cell? ⟨gp, op + 1, none⟩ = some (.string ps) ∧ V'.cell? ⟨gp, op + 2, none⟩ = some (.int .i64 pn) ∧ V'.cell? ⟨gp, op + 3, none⟩ = some (.int .i64 pa) ∧ V'.cell? ⟨gp, op + 4, none⟩ = some (.slice Ap pl.length (capF pl.length cp)))) V') := Lib.hid fun V' h =>
  ⟨(h.cell (p := ⟨w.heap.size, 0, none⟩) hLt.lt).trans (hLt.cell 0), (h.cell (p := ⟨w.heap.size, 1, none⟩) hLt.lt).trans (hLt.cell 1), (h.cell (p := ⟨w.heap.size, 2, none⟩) hLt.lt).trans (hLt.cell 2), (h.cell (p := ⟨w.heap.size, 3, none⟩) hLt.lt).trans (hLt.cell 3), (h.cell (p := ⟨w.heap.size, 4, none⟩) hLt.lt).trans (hLt.cell 4), (((hb0.trans (h.mono hb0.size)).cell (p := ⟨gp, _, none⟩) hglp)).trans dp0, (((hb0.trans (h.mono hb0.size)).cell (p := ⟨gp, _, none⟩) hglp)).trans dp1, (((hb0.trans (h.mono hb0.size)).cell (p := ⟨gp, _, none⟩) hglp)).trans dp2, (((hb0.trans (h.mono hb0.size)).cell (p := ⟨gp, _, none⟩) hglp)).trans dp3, (((hb0.trans (h.mono hb0.size)).cell (p := ⟨gp, _, none⟩) hglp)).trans dp4⟩
 have HLM : Hid (∀ X, Below W0.heap.size W0 X → ∀ (Z : Nat → Prop) (hZ : ∀ g, X.heap.size ≤ g → Z g) (A : Option Addr) (c : Nat) (hA : EIn X Z (.node upk upn ups upl) A), Calls Tryz.prog 81 #[.agg #[.int .i64 upk, .int .i64 upn, .string ups, .slice A upl.length (capF upl.length c)]] X fun e w' => ∃ A c, e = .returned (.agg #[.int .i64 2, .int .i64 0, .string (⟨#[]⟩ : ByteArray), .slice A 1 (capF 1 c)]) ∧ EIn w' Z (lam7 (.node upk upn ups upl)) A ∧ Below X.heap.size X w') := Lib.hid fun X _ Z hZ A c hA => lam7_any (.node upk upn ups upl) A c X Z hA hZ
 clear hT2 dp0 dp1 dp2 dp3 dp4 hLt hdpp hokp hInp
 have hb_1 : Below W0.heap.size W0 W0 := Below.refl _ _
 refine wp_region_K (S := (fun V' : World => (V'.cell? ⟨w.heap.size, 0, none⟩ = some (.int .i64 2) ∧ V'.cell? ⟨w.heap.size, 1, none⟩ = some (.string s) ∧ V'.cell? ⟨w.heap.size, 2, none⟩ = some (.int .i64 n) ∧ V'.cell? ⟨w.heap.size, 3, none⟩ = some (.int .i64 a) ∧ V'.cell? ⟨w.heap.size, 4, none⟩ = some (.slice (some ⟨gp, op, none⟩) m c) ∧ V'.cell? ⟨gp, op, none⟩ = some (.int .i64 pk) ∧ V'.cell? ⟨gp, op + 1, none⟩ = some (.string ps) ∧ V'.cell? ⟨gp, op + 2, none⟩ = some (.int .i64 pn) ∧ V'.cell? ⟨gp, op + 3, none⟩ = some (.int .i64 pa) ∧ V'.cell? ⟨gp, op + 4, none⟩ = some (.slice Ap pl.length (capF pl.length cp))))) 10 rfl (HSS.out _ hb_1.drew) (fun hSs => ?_)
 change wpAnyK _ _ _ _ _ _ 11 (Array.replicate 11 false) _ _
 refine tkA (i := 0) (oi := ⟨some 20, _, _, _, _, _⟩) (v := .pointer (some ⟨w.heap.size, 4, none⟩)) hSs ?_
 try go_frame
 refine tkA (i := 1) (oi := ⟨some 21, _, _, _, _, _⟩) (v := .slice (some ⟨gp, op, none⟩) m c) hSs ?_
 try go_frame
 refine tkA (i := 2) (oi := ⟨some 22, _, _, _, _, _⟩) (v := .pointer (some ⟨gp, op, none⟩)) hSs ?_
 try go_frame
 refine tkA (i := 3) (oi := ⟨some 23, _, _, _, _, _⟩) (v := .agg #[.int .i64 pk, .string ps, .int .i64 pn, .int .i64 pa, .slice Ap pl.length (capF pl.length cp)]) hSs ?_
 try go_frame
 refine tkB (i := 4) (oi := ⟨some 24, _, _, _, _, _⟩) (v := .slice Ab mb cb) hSs ?_
 try go_frame
 refine tkA (i := 5) (oi := ⟨some 25, _, _, _, _, _⟩) (v := .pointer (some ⟨w.heap.size, 1, none⟩)) hSs ?_
 try go_frame
 refine tkA (i := 6) (oi := ⟨some 26, _, _, _, _, _⟩) (v := .string s) hSs ?_
 try go_frame
 refine wpAnyK_one  (i := 7) rfl rfl (by kernel_rfl) (fun K hK => ?_)
 go_simp
 refine (HWI.out _ (hb_1.drew)).mono ?_
 rintro e u_2 ⟨A_2, c_2, rfl, hS_2x, hq_2⟩
 have hb_2 := (hb_1.drew).trans (hq_2.mono (hb_1.drew).size)
 have hLr_2 := (hLr.drew).below hq_2 hLr.lt
 refine hK.out _ _ (fun _ => HSS.out _ hb_2) (fun hS9 => ?_)
 have hS_2 := hS9 (by decide)
 clear hK K hS9
 try go_frame
 refine wpAnyK_one  (i := 8) rfl rfl (by kernel_rfl) (fun K hK => ?_)
 go_simp
 refine (HTEp.out _ hb_2 (fun g => w.heap.size + 2 ≤ g) (fun g h => Nat.le_trans (Nat.le_trans hBW hb_2.size) h) A_2 c_2 hS_2x).mono ?_
 rintro e u_3 ⟨A_3, c_3, rfl, hT_3, hq_3⟩
 have hb_3 := hb_2.trans (hq_3.mono hb_2.size)
 have hLr_2_3 := hLr_2.below hq_3 hLr_2.lt
 refine hK.out _ _ (fun _ => HSS.out _ hb_3) (fun hS9 => ?_)
 have hS_3 := hS9 (by decide)
 clear hK K hS9
 try go_frame
 refine wpAnyK_one  (i := 9) rfl rfl (by kernel_rfl) (fun K hK => ?_)
 go_simp
 refine (HLM.out _ hb_3 (fun g => w.heap.size + 2 ≤ g) (fun g h => Nat.le_trans (Nat.le_trans hBW hb_3.size) h) A_3 c_3 hT_3).mono ?_
 rintro e u_4 ⟨A_4, c_4, rfl, hT_4, hq_4⟩
 have hb_4 := hb_3.trans (hq_4.mono hb_3.size)
 have hLr_2_3_4 := hLr_2_3.below hq_4 hLr_2_3.lt
 have hT_3_4 := EIn.below _ hT_3 hq_4 (Nat.le_refl _)
 refine hK.out _ _ (fun _ => HSS.out _ hb_4) (fun hS9 => ?_)
 have hS_4 := hS9 (by decide)
 clear hK K hS9
 try go_frame
 refine wpAnyK_one  (i := 10) rfl rfl (by kernel_rfl) (fun K hK => ?_)
 refine wp_store_as (F := fun W9 => Below w.heap.size w W9 ∧ Lies W9 (w.heap.size + 1) 24 #[.int .i64 2, .int .i64 0, .string (⟨#[]⟩ : ByteArray), .slice A_4 1 (capF 1 c_4)] ∧ EIn W9 (fun g => w.heap.size + 2 ≤ g) (lam7 (.node upk upn ups upl)) A_4) _ _ _ rfl (w.heap.size + 1) 0 #[.int .i64 2, .int .i64 0, .string (⟨#[]⟩ : ByteArray), .slice A_4 1 (capF 1 c_4)] rfl rfl (lies_is hLr_2_3_4 rfl) (by kernel_rfl) (by simp [Value.oneCell']) ⟨below_cells (hb0.trans (hb_4.mono hb0.size)) (by omega) _ _, lies_set4 hLr_2_3_4 _ _ _ _, ein_offs _ hT_4 (by omega) _ _⟩ (fun W_5 hF_5 => ?_)
 refine hK.out _ _ (fun h => absurd rfl h) (fun _ => ?_)
 clear hK K
 try go_frame
 refine wpAnyK_done (by kernel_rfl) ?_ _
 obtain ⟨f1, f2, f3⟩ := hF_5
 go_wp2_with fail
 refine bodyPost_ret (res_term (p := 4) Tryz.results52 rfl f2) rfl ?_
 rw [HE.out]
 exact ⟨A_4, c_4, rfl, EIn.wide _ f3 (fun g h _ => by have h9 : w.heap.size + 2 ≤ g := h; omega), f1⟩
set_option maxHeartbeats 8000000 in
theorem term7_k3 {d : Nat} (ih : Term7 d) (n a : Int) (s : ByteArray) (l : List Tr) (A : Option Addr) (m c : Nat) (b : List ByteArray) (Ab : Option Addr) (mb cb : Nat) (w : World) (hm : m = l.length) (hl : l.length = 2) (hd : depthL l ≤ d) (hok : okL l) (_hss : s.size ≤ 140737488351232) (hmb : mb = b.length) (hbl : mb + 9 * (d + 1) ≤ 70000) (hI : LIn w Any l A 0) (hB : SIn w Any b Ab) (hAb : Ab = none → cb = 0) :
  Calls Tryz.prog 52 #[.agg #[.int .i64 3, .string s, .int .i64 n, .int .i64 a, .slice A m c], .slice Ab mb cb] w (GivesE (termT b (.node 3 s n a l)) w) := by
 have HI := Lib.hid hI
 have HOK := Lib.hid hok
 have HB := Lib.hid hB
 have HAB := Lib.hid hAb
 have HMB := Lib.hid hmb
 have hbl' := hbl
 clear hI hok hB hAb hmb
 have hip : 0 < l.length := by omega
 obtain ⟨gp, op, Ap, cp, ⟨hAp, _⟩, dp0, dp1, dp2, dp3, dp4, hInp⟩ := LIn.at_ l HI.out (0) hip
 have hglp := cell_lt dp0
 have hdpp := depthL_mem l (l[0]'hip) (List.getElem_mem hip)
 have hokp := okL_mem l (l[0]'hip) (List.getElem_mem hip) HOK.out
 obtain ⟨Pp, hPp⟩ : ∃ t, t = l[0]'hip := ⟨_, rfl⟩
 rw [← hPp] at dp0 dp1 dp2 dp3 dp4 hInp hdpp hokp
 subst hAp
 have hiq : 1 < l.length := by omega
 obtain ⟨gq, oq, Aq, cq, ⟨hAq, _⟩, dq0, dq1, dq2, dq3, dq4, hInq⟩ := LIn.at_ l HI.out (1) hiq
 have hglq := cell_lt dq0
 have hdpq := depthL_mem l (l[1]'hiq) (List.getElem_mem hiq)
 have hokq := okL_mem l (l[1]'hiq) (List.getElem_mem hiq) HOK.out
 obtain ⟨Pq, hPq⟩ : ∃ t, t = l[1]'hiq := ⟨_, rfl⟩
 rw [← hPq] at dq0 dq1 dq2 dq3 dq4 hInq hdpq hokq
 cases hAq
 have hmA : 1 < m := by omega
 have hmB : 0 < m := by omega
 clear hm hl
 have hb0 : Below w.heap.size w ((w.alloc (.cells #[.int .i64 3, .string s, .int .i64 n, .int .i64 a, .slice (some ⟨gp, op, none⟩) m c] 49)).alloc (.cells #[.int .i64 0, .int .i64 0, .string ⟨#[]⟩, .slice none 0 0] 24)) := ((Below.refl _ w).alloc (Nat.le_refl _) _).alloc (by simp) _
 have hLt : Lies ((w.alloc (.cells #[.int .i64 3, .string s, .int .i64 n, .int .i64 a, .slice (some ⟨gp, op, none⟩) m c] 49)).alloc (.cells #[.int .i64 0, .int .i64 0, .string ⟨#[]⟩, .slice none 0 0] 24)) w.heap.size 49 #[.int .i64 3, .string s, .int .i64 n, .int .i64 a, .slice (some ⟨gp, op, none⟩) m c] := (Lies.new w _ _).old _
 have hLr : Lies ((w.alloc (.cells #[.int .i64 3, .string s, .int .i64 n, .int .i64 a, .slice (some ⟨gp, op, none⟩) m c] 49)).alloc (.cells #[.int .i64 0, .int .i64 0, .string ⟨#[]⟩, .slice none 0 0] 24)) (w.heap.size + 1) 24 #[.int .i64 0, .int .i64 0, .string ⟨#[]⟩, .slice none 0 0] := by simpa using Lies.new (w.alloc (.cells #[.int .i64 3, .string s, .int .i64 n, .int .i64 a, .slice (some ⟨gp, op, none⟩) m c] 49)) 24 #[.int .i64 0, .int .i64 0, .string ⟨#[]⟩, .slice none 0 0]
 have hBW : w.heap.size + 2 ≤ ((w.alloc (.cells #[.int .i64 3, .string s, .int .i64 n, .int .i64 a, .slice (some ⟨gp, op, none⟩) m c] 49)).alloc (.cells #[.int .i64 0, .int .i64 0, .string ⟨#[]⟩, .slice none 0 0] 24)).heap.size := by simp
 have hT2 : termT b (.node 3 s n a l) = two7 3 (termT b Pp) (termT b Pq) := by
  rw [termT, if_neg (by decide), if_neg (by decide), if_pos rfl, termL_at _ _ 0 hip, termL_at _ _ 1 hiq, hPp, hPq]
 clear hPp hPq
 go_enter Tryz.func52, Tryz.ntmps52
 go_upto_region 7 with fail
 generalize ((w.alloc (.cells #[.int .i64 3, .string s, .int .i64 n, .int .i64 a, .slice (some ⟨gp, op, none⟩) m c] 49)).alloc (.cells #[.int .i64 0, .int .i64 0, .string ⟨#[]⟩, .slice none 0 0] 24)) = W0 at *
 have HTEp : Hid (∀ X, Below W0.heap.size W0 X → ∀ (Z : Nat → Prop) (hZ : ∀ g, X.heap.size ≤ g → Z g), Calls Tryz.prog 52 #[tv Pp Ap cp, .slice Ab mb cb] X fun e w' => ∃ A c, e = .returned (ev (termT b Pp) A c) ∧ EIn w' Z (termT b Pp) A ∧ Below X.heap.size X w') := Lib.hid fun X hX Z hZ =>
  (ih Pp Ap cp b Ab mb cb X (by omega) hokp HMB.out (by omega) (TIn.below _ hInp (hb0.trans (hX.mono hb0.size)) (Nat.le_refl _)) (SIn.below HB.out (hb0.trans (hX.mono hb0.size)) (Nat.le_refl _)) HAB.out).mono fun e w' ⟨A, c, h1, h2, h3⟩ => ⟨A, c, h1, EIn.wide _ h2 (fun g hg _ => hZ g hg), h3⟩
 obtain ⟨up, hup⟩ : ∃ t, t = termT b Pp := ⟨_, rfl⟩
 rw [← hup] at HTEp
 replace hup := Lib.hid hup
 obtain ⟨upk, upn, ups, upl⟩ := up
 obtain ⟨pk, ps, pn, pa, pl⟩ := Pp
 simp only [ev, tv, Te.kind, Te.n, Te.name, Te.parts, Tr.kind, Tr.name, Tr.n, Tr.place, Tr.parts] at HTEp dp0 dp1 dp2 dp3 dp4
 have HTEq : Hid (∀ X, Below W0.heap.size W0 X → ∀ (Z : Nat → Prop) (hZ : ∀ g, X.heap.size ≤ g → Z g), Calls Tryz.prog 52 #[tv Pq Aq cq, .slice Ab mb cb] X fun e w' => ∃ A c, e = .returned (ev (termT b Pq) A c) ∧ EIn w' Z (termT b Pq) A ∧ Below X.heap.size X w') := Lib.hid fun X hX Z hZ =>
  (ih Pq Aq cq b Ab mb cb X (by omega) hokq HMB.out (by omega) (TIn.below _ hInq (hb0.trans (hX.mono hb0.size)) (Nat.le_refl _)) (SIn.below HB.out (hb0.trans (hX.mono hb0.size)) (Nat.le_refl _)) HAB.out).mono fun e w' ⟨A, c, h1, h2, h3⟩ => ⟨A, c, h1, EIn.wide _ h2 (fun g hg _ => hZ g hg), h3⟩
 obtain ⟨uq, huq⟩ : ∃ t, t = termT b Pq := ⟨_, rfl⟩
 rw [← huq] at HTEq
 replace huq := Lib.hid huq
 obtain ⟨uqk, uqn, uqs, uql⟩ := uq
 obtain ⟨qk, qs, qn, qa, ql⟩ := Pq
 simp only [ev, tv, Te.kind, Te.n, Te.name, Te.parts, Tr.kind, Tr.name, Tr.n, Tr.place, Tr.parts] at HTEq dq0 dq1 dq2 dq3 dq4
 have HE : Hid (termT b (.node 3 s n a l) = (two7 3 (.node upk upn ups upl) (.node uqk uqn uqs uql))) := Lib.hid (by rw [hT2, ← hup.out, ← huq.out])
 have HSS : Hid (∀ V', Below W0.heap.size W0 V' → (fun V' : World => (V'.cell? ⟨w.heap.size, 0, none⟩ = some (.int .i64 3) ∧ V'.cell? ⟨w.heap.size, 1, none⟩ = some (.string s) ∧ V'.cell? ⟨w.heap.size, 2, none⟩ = some (.int .i64 n) ∧ V'.cell? ⟨w.heap.size, 3, none⟩ = some (.int .i64 a) ∧ V'.cell? ⟨w.heap.size, 4, none⟩ = some (.slice (some ⟨gp, op, none⟩) m c) ∧ V'.cell? ⟨gp, op, none⟩ = some (.int .i64 pk) ∧ V'.cell? ⟨gp, op + 1, none⟩ = some (.string ps) ∧ V'.cell? ⟨gp, op + 2, none⟩ = some (.int .i64 pn) ∧ V'.cell? ⟨gp, op + 3, none⟩ = some (.int .i64 pa) ∧ V'.cell? ⟨gp, op + 4, none⟩ = some (.slice Ap pl.length (capF pl.length cp)) ∧ V'.cell? ⟨gp, op + 5, none⟩ = some (.int .i64 qk) ∧ V'.cell? ⟨gp, op + 6, none⟩ = some (.string qs) ∧ V'.cell? ⟨gp, op + 7, none⟩ = some (.int .i64 qn) ∧ V'.cell? ⟨gp, op + 8, none⟩ = some (.int .i64 qa) ∧ V'.cell? ⟨gp, op + 9, none⟩ = some (.slice Aq ql.length (capF ql.length cq)))) V') := Lib.hid fun V' h =>
  ⟨(h.cell (p := ⟨w.heap.size, 0, none⟩) hLt.lt).trans (hLt.cell 0), (h.cell (p := ⟨w.heap.size, 1, none⟩) hLt.lt).trans (hLt.cell 1), (h.cell (p := ⟨w.heap.size, 2, none⟩) hLt.lt).trans (hLt.cell 2), (h.cell (p := ⟨w.heap.size, 3, none⟩) hLt.lt).trans (hLt.cell 3), (h.cell (p := ⟨w.heap.size, 4, none⟩) hLt.lt).trans (hLt.cell 4), (((hb0.trans (h.mono hb0.size)).cell (p := ⟨gp, _, none⟩) hglp)).trans dp0, (((hb0.trans (h.mono hb0.size)).cell (p := ⟨gp, _, none⟩) hglp)).trans dp1, (((hb0.trans (h.mono hb0.size)).cell (p := ⟨gp, _, none⟩) hglp)).trans dp2, (((hb0.trans (h.mono hb0.size)).cell (p := ⟨gp, _, none⟩) hglp)).trans dp3, (((hb0.trans (h.mono hb0.size)).cell (p := ⟨gp, _, none⟩) hglp)).trans dp4, (((hb0.trans (h.mono hb0.size)).cell (p := ⟨gp, _, none⟩) hglq)).trans dq0, (((hb0.trans (h.mono hb0.size)).cell (p := ⟨gp, _, none⟩) hglq)).trans dq1, (((hb0.trans (h.mono hb0.size)).cell (p := ⟨gp, _, none⟩) hglq)).trans dq2, (((hb0.trans (h.mono hb0.size)).cell (p := ⟨gp, _, none⟩) hglq)).trans dq3, (((hb0.trans (h.mono hb0.size)).cell (p := ⟨gp, _, none⟩) hglq)).trans dq4⟩
 have HTW : Hid (∀ X, Below W0.heap.size W0 X → ∀ (Z : Nat → Prop) (hZ : ∀ g, X.heap.size ≤ g → Z g) (A : Option Addr) (c : Nat) (hA : EIn X Z (.node upk upn ups upl) A) (B : Option Addr) (d : Nat) (hB : EIn X Z (.node uqk uqn uqs uql) B), Calls Tryz.prog 83 #[.int .i64 3, .agg #[.int .i64 upk, .int .i64 upn, .string ups, .slice A upl.length (capF upl.length c)], .agg #[.int .i64 uqk, .int .i64 uqn, .string uqs, .slice B uql.length (capF uql.length d)]] X fun e w' => ∃ A c, e = .returned (.agg #[.int .i64 3, .int .i64 0, .string (⟨#[]⟩ : ByteArray), .slice A 2 (capF 2 c)]) ∧ EIn w' Z (two7 3 (.node upk upn ups upl) (.node uqk uqn uqs uql)) A ∧ Below X.heap.size X w') := Lib.hid fun X _ Z hZ A c hA B d hB => two7_any 3 (.node upk upn ups upl) (.node uqk uqn uqs uql) A B c d X Z (by decide) (by decide) hA hB hZ
 clear hT2 dp0 dp1 dp2 dp3 dp4 dq0 dq1 dq2 dq3 dq4 hLt hdpp hokp hInp hdpq hokq hInq
 have hb_1 : Below W0.heap.size W0 W0 := Below.refl _ _
 refine wp_region_K (S := (fun V' : World => (V'.cell? ⟨w.heap.size, 0, none⟩ = some (.int .i64 3) ∧ V'.cell? ⟨w.heap.size, 1, none⟩ = some (.string s) ∧ V'.cell? ⟨w.heap.size, 2, none⟩ = some (.int .i64 n) ∧ V'.cell? ⟨w.heap.size, 3, none⟩ = some (.int .i64 a) ∧ V'.cell? ⟨w.heap.size, 4, none⟩ = some (.slice (some ⟨gp, op, none⟩) m c) ∧ V'.cell? ⟨gp, op, none⟩ = some (.int .i64 pk) ∧ V'.cell? ⟨gp, op + 1, none⟩ = some (.string ps) ∧ V'.cell? ⟨gp, op + 2, none⟩ = some (.int .i64 pn) ∧ V'.cell? ⟨gp, op + 3, none⟩ = some (.int .i64 pa) ∧ V'.cell? ⟨gp, op + 4, none⟩ = some (.slice Ap pl.length (capF pl.length cp)) ∧ V'.cell? ⟨gp, op + 5, none⟩ = some (.int .i64 qk) ∧ V'.cell? ⟨gp, op + 6, none⟩ = some (.string qs) ∧ V'.cell? ⟨gp, op + 7, none⟩ = some (.int .i64 qn) ∧ V'.cell? ⟨gp, op + 8, none⟩ = some (.int .i64 qa) ∧ V'.cell? ⟨gp, op + 9, none⟩ = some (.slice Aq ql.length (capF ql.length cq))))) 13 rfl (HSS.out _ hb_1.drew) (fun hSs => ?_)
 change wpAnyK _ _ _ _ _ _ 14 (Array.replicate 14 false) _ _
 refine tkA (i := 0) (oi := ⟨some 32, _, _, _, _, _⟩) (v := .pointer (some ⟨w.heap.size, 4, none⟩)) hSs ?_
 try go_frame
 refine tkA (i := 1) (oi := ⟨some 33, _, _, _, _, _⟩) (v := .slice (some ⟨gp, op, none⟩) m c) hSs ?_
 try go_frame
 refine tkA (i := 2) (oi := ⟨some 34, _, _, _, _, _⟩) (v := .pointer (some ⟨gp, op, none⟩)) hSs ?_
 try go_frame
 refine tkA (i := 3) (oi := ⟨some 35, _, _, _, _, _⟩) (v := .agg #[.int .i64 pk, .string ps, .int .i64 pn, .int .i64 pa, .slice Ap pl.length (capF pl.length cp)]) hSs ?_
 try go_frame
 refine tkB (i := 4) (oi := ⟨some 36, _, _, _, _, _⟩) (v := .slice Ab mb cb) hSs ?_
 try go_frame
 refine tkA (i := 6) (oi := ⟨some 38, _, _, _, _, _⟩) (v := .pointer (some ⟨w.heap.size, 4, none⟩)) hSs ?_
 try go_frame
 refine tkA (i := 7) (oi := ⟨some 39, _, _, _, _, _⟩) (v := .slice (some ⟨gp, op, none⟩) m c) hSs ?_
 try go_frame
 refine tkA (i := 8) (oi := ⟨some 40, _, _, _, _, _⟩) (v := .pointer (some ⟨gp, op + 5, none⟩)) hSs ?_
 try go_frame
 refine tkA (i := 9) (oi := ⟨some 41, _, _, _, _, _⟩) (v := .agg #[.int .i64 qk, .string qs, .int .i64 qn, .int .i64 qa, .slice Aq ql.length (capF ql.length cq)]) hSs ?_
 try go_frame
 refine tkB (i := 10) (oi := ⟨some 42, _, _, _, _, _⟩) (v := .slice Ab mb cb) hSs ?_
 try go_frame
 refine wpAnyK_one  (i := 5) rfl rfl (by kernel_rfl) (fun K hK => ?_)
 go_simp
 refine (HTEp.out _ (hb_1.drew) (fun g => w.heap.size + 2 ≤ g) (fun g h => Nat.le_trans (Nat.le_trans hBW hb_1.size) h)).mono ?_
 rintro e u_2 ⟨A_2, c_2, rfl, hT_2, hq_2⟩
 have hb_2 := (hb_1.drew).trans (hq_2.mono (hb_1.drew).size)
 have hLr_2 := (hLr.drew).below hq_2 hLr.lt
 refine hK.out _ _ (fun _ => HSS.out _ hb_2) (fun hS9 => ?_)
 have hS_2 := hS9 (by decide)
 clear hK K hS9
 try go_frame
 refine wpAnyK_one  (i := 11) rfl rfl (by kernel_rfl) (fun K hK => ?_)
 go_simp
 refine (HTEq.out _ hb_2 (fun g => w.heap.size + 2 ≤ g) (fun g h => Nat.le_trans (Nat.le_trans hBW hb_2.size) h)).mono ?_
 rintro e u_3 ⟨A_3, c_3, rfl, hT_3, hq_3⟩
 have hb_3 := hb_2.trans (hq_3.mono hb_2.size)
 have hLr_2_3 := hLr_2.below hq_3 hLr_2.lt
 have hT_2_3 := EIn.below _ hT_2 hq_3 (Nat.le_refl _)
 refine hK.out _ _ (fun _ => HSS.out _ hb_3) (fun hS9 => ?_)
 have hS_3 := hS9 (by decide)
 clear hK K hS9
 try go_frame
 refine wpAnyK_one  (i := 12) rfl rfl (by kernel_rfl) (fun K hK => ?_)
 go_simp
 refine (HTW.out _ hb_3 (fun g => w.heap.size + 2 ≤ g) (fun g h => Nat.le_trans (Nat.le_trans hBW hb_3.size) h) A_2 c_2 hT_2_3 A_3 c_3 hT_3).mono ?_
 rintro e u_4 ⟨A_4, c_4, rfl, hT_4, hq_4⟩
 have hb_4 := hb_3.trans (hq_4.mono hb_3.size)
 have hLr_2_3_4 := hLr_2_3.below hq_4 hLr_2_3.lt
 have hT_2_3_4 := EIn.below _ hT_2_3 hq_4 (Nat.le_refl _)
 have hT_3_4 := EIn.below _ hT_3 hq_4 (Nat.le_refl _)
 refine hK.out _ _ (fun _ => HSS.out _ hb_4) (fun hS9 => ?_)
 have hS_4 := hS9 (by decide)
 clear hK K hS9
 try go_frame
 refine wpAnyK_one  (i := 13) rfl rfl (by kernel_rfl) (fun K hK => ?_)
 refine wp_store_as (F := fun W9 => Below w.heap.size w W9 ∧ Lies W9 (w.heap.size + 1) 24 #[.int .i64 3, .int .i64 0, .string (⟨#[]⟩ : ByteArray), .slice A_4 2 (capF 2 c_4)] ∧ EIn W9 (fun g => w.heap.size + 2 ≤ g) (two7 3 (.node upk upn ups upl) (.node uqk uqn uqs uql)) A_4) _ _ _ rfl (w.heap.size + 1) 0 #[.int .i64 3, .int .i64 0, .string (⟨#[]⟩ : ByteArray), .slice A_4 2 (capF 2 c_4)] rfl rfl (lies_is hLr_2_3_4 rfl) (by kernel_rfl) (by simp [Value.oneCell']) ⟨below_cells (hb0.trans (hb_4.mono hb0.size)) (by omega) _ _, lies_set4 hLr_2_3_4 _ _ _ _, ein_offs _ hT_4 (by omega) _ _⟩ (fun W_5 hF_5 => ?_)
 refine hK.out _ _ (fun h => absurd rfl h) (fun _ => ?_)
 clear hK K
 try go_frame
 refine wpAnyK_done (by kernel_rfl) ?_ _
 obtain ⟨f1, f2, f3⟩ := hF_5
 go_wp2_with fail
 refine bodyPost_ret (res_term (p := 4) Tryz.results52 rfl f2) rfl ?_
 rw [HE.out]
 exact ⟨A_4, c_4, rfl, EIn.wide _ f3 (fun g h _ => by have h9 : w.heap.size + 2 ≤ g := h; omega), f1⟩
set_option maxHeartbeats 8000000 in
theorem term7_k4 {d : Nat} (ih : Term7 d) (n a : Int) (s : ByteArray) (l : List Tr) (A : Option Addr) (m c : Nat) (b : List ByteArray) (Ab : Option Addr) (mb cb : Nat) (w : World) (hm : m = l.length) (hl : l.length = 2) (hd : depthL l ≤ d) (hok : okL l) (_hss : s.size ≤ 140737488351232) (hmb : mb = b.length) (hbl : mb + 9 * (d + 1) ≤ 70000) (hI : LIn w Any l A 0) (hB : SIn w Any b Ab) (hAb : Ab = none → cb = 0) :
  Calls Tryz.prog 52 #[.agg #[.int .i64 4, .string s, .int .i64 n, .int .i64 a, .slice A m c], .slice Ab mb cb] w (GivesE (termT b (.node 4 s n a l)) w) := by
 have HI := Lib.hid hI
 have HOK := Lib.hid hok
 have HB := Lib.hid hB
 have HAB := Lib.hid hAb
 have HMB := Lib.hid hmb
 have hbl' := hbl
 clear hI hok hB hAb hmb
 have hip : 0 < l.length := by omega
 obtain ⟨gp, op, Ap, cp, ⟨hAp, _⟩, dp0, dp1, dp2, dp3, dp4, hInp⟩ := LIn.at_ l HI.out (0) hip
 have hglp := cell_lt dp0
 have hdpp := depthL_mem l (l[0]'hip) (List.getElem_mem hip)
 have hokp := okL_mem l (l[0]'hip) (List.getElem_mem hip) HOK.out
 obtain ⟨Pp, hPp⟩ : ∃ t, t = l[0]'hip := ⟨_, rfl⟩
 rw [← hPp] at dp0 dp1 dp2 dp3 dp4 hInp hdpp hokp
 subst hAp
 have hiq : 1 < l.length := by omega
 obtain ⟨gq, oq, Aq, cq, ⟨hAq, _⟩, dq0, dq1, dq2, dq3, dq4, hInq⟩ := LIn.at_ l HI.out (1) hiq
 have hglq := cell_lt dq0
 have hdpq := depthL_mem l (l[1]'hiq) (List.getElem_mem hiq)
 have hokq := okL_mem l (l[1]'hiq) (List.getElem_mem hiq) HOK.out
 obtain ⟨Pq, hPq⟩ : ∃ t, t = l[1]'hiq := ⟨_, rfl⟩
 rw [← hPq] at dq0 dq1 dq2 dq3 dq4 hInq hdpq hokq
 cases hAq
 have hmA : 1 < m := by omega
 have hmB : 0 < m := by omega
 clear hm hl
 have hb0 : Below w.heap.size w ((w.alloc (.cells #[.int .i64 4, .string s, .int .i64 n, .int .i64 a, .slice (some ⟨gp, op, none⟩) m c] 49)).alloc (.cells #[.int .i64 0, .int .i64 0, .string ⟨#[]⟩, .slice none 0 0] 24)) := ((Below.refl _ w).alloc (Nat.le_refl _) _).alloc (by simp) _
 have hLt : Lies ((w.alloc (.cells #[.int .i64 4, .string s, .int .i64 n, .int .i64 a, .slice (some ⟨gp, op, none⟩) m c] 49)).alloc (.cells #[.int .i64 0, .int .i64 0, .string ⟨#[]⟩, .slice none 0 0] 24)) w.heap.size 49 #[.int .i64 4, .string s, .int .i64 n, .int .i64 a, .slice (some ⟨gp, op, none⟩) m c] := (Lies.new w _ _).old _
 have hLr : Lies ((w.alloc (.cells #[.int .i64 4, .string s, .int .i64 n, .int .i64 a, .slice (some ⟨gp, op, none⟩) m c] 49)).alloc (.cells #[.int .i64 0, .int .i64 0, .string ⟨#[]⟩, .slice none 0 0] 24)) (w.heap.size + 1) 24 #[.int .i64 0, .int .i64 0, .string ⟨#[]⟩, .slice none 0 0] := by simpa using Lies.new (w.alloc (.cells #[.int .i64 4, .string s, .int .i64 n, .int .i64 a, .slice (some ⟨gp, op, none⟩) m c] 49)) 24 #[.int .i64 0, .int .i64 0, .string ⟨#[]⟩, .slice none 0 0]
 have hBW : w.heap.size + 2 ≤ ((w.alloc (.cells #[.int .i64 4, .string s, .int .i64 n, .int .i64 a, .slice (some ⟨gp, op, none⟩) m c] 49)).alloc (.cells #[.int .i64 0, .int .i64 0, .string ⟨#[]⟩, .slice none 0 0] 24)).heap.size := by simp
 have hT2 : termT b (.node 4 s n a l) = two7 3 (lam7 (termT (b ++ [s]) Pq)) (termT b Pp) := by
  rw [termT, if_neg (by decide), if_neg (by decide), if_neg (by decide), if_pos rfl, termL_at _ _ 0 hip, termL_at _ _ 1 hiq, hPp, hPq]
 clear hPp hPq
 go_enter Tryz.func52, Tryz.ntmps52
 go_upto_region 9 with fail
 generalize ((w.alloc (.cells #[.int .i64 4, .string s, .int .i64 n, .int .i64 a, .slice (some ⟨gp, op, none⟩) m c] 49)).alloc (.cells #[.int .i64 0, .int .i64 0, .string ⟨#[]⟩, .slice none 0 0] 24)) = W0 at *
 obtain ⟨LI, hLI⟩ : ∃ L, L = b ++ [s] := ⟨_, rfl⟩
 have hLIl : LI.length = mb + 1 := by rw [hLI, List.length_append, ← HMB.out]; rfl
 obtain ⟨mi, hmi⟩ : ∃ m, m = LI.length := ⟨_, rfl⟩
 have hmi1 : mi ≤ mb + 1 := by omega
 have HMI := Lib.hid hmi
 have HWI : Hid (∀ X, Below W0.heap.size W0 X → Calls Tryz.prog 82 #[.slice Ab mb cb, .string s] X fun e w' => ∃ A c, e = .returned (.slice A mi c) ∧ Hid (SIn w' Any LI A ∧ (A = none → c = 0)) ∧ Below X.heap.size X w') := Lib.hid fun X hX =>
  (with7_any b s Ab mb cb X HMB.out (by omega) (SIn.below HB.out (hb0.trans (hX.mono hb0.size)) (Nat.le_refl _)) HAB.out).mono fun e w' h => by
   obtain ⟨A, c, h1, h2, h3, h4⟩ := h
   exact ⟨A, c, by rw [h1, hmi, hLI], Lib.hid ⟨by rw [hLI]; exact h2, h3⟩, h4⟩
 have HLI := Lib.hid hLI
 clear hLI hLIl hmi
 rw [← HLI.out] at hT2
 have HTEp : Hid (∀ X, Below W0.heap.size W0 X → ∀ (Z : Nat → Prop) (hZ : ∀ g, X.heap.size ≤ g → Z g), Calls Tryz.prog 52 #[tv Pp Ap cp, .slice Ab mb cb] X fun e w' => ∃ A c, e = .returned (ev (termT b Pp) A c) ∧ EIn w' Z (termT b Pp) A ∧ Below X.heap.size X w') := Lib.hid fun X hX Z hZ =>
  (ih Pp Ap cp b Ab mb cb X (by omega) hokp HMB.out (by omega) (TIn.below _ hInp (hb0.trans (hX.mono hb0.size)) (Nat.le_refl _)) (SIn.below HB.out (hb0.trans (hX.mono hb0.size)) (Nat.le_refl _)) HAB.out).mono fun e w' ⟨A, c, h1, h2, h3⟩ => ⟨A, c, h1, EIn.wide _ h2 (fun g hg _ => hZ g hg), h3⟩
 obtain ⟨up, hup⟩ : ∃ t, t = termT b Pp := ⟨_, rfl⟩
 rw [← hup] at HTEp
 replace hup := Lib.hid hup
 obtain ⟨upk, upn, ups, upl⟩ := up
 obtain ⟨pk, ps, pn, pa, pl⟩ := Pp
 simp only [ev, tv, Te.kind, Te.n, Te.name, Te.parts, Tr.kind, Tr.name, Tr.n, Tr.place, Tr.parts] at HTEp dp0 dp1 dp2 dp3 dp4
 have HTEq : Hid (∀ X, Below W0.heap.size W0 X → ∀ (Z : Nat → Prop) (hZ : ∀ g, X.heap.size ≤ g → Z g) (Ai : Option Addr) (ci : Nat) (hS : Hid (SIn X Any LI Ai ∧ (Ai = none → ci = 0))), Calls Tryz.prog 52 #[tv Pq Aq cq, .slice Ai mi ci] X fun e w' => ∃ A c, e = .returned (ev (termT LI Pq) A c) ∧ EIn w' Z (termT LI Pq) A ∧ Below X.heap.size X w') := Lib.hid fun X hX Z hZ Ai ci hS =>
  (ih Pq Aq cq LI Ai mi ci X (by omega) hokq HMI.out (by omega) (TIn.below _ hInq (hb0.trans (hX.mono hb0.size)) (Nat.le_refl _)) hS.out.1 hS.out.2).mono fun e w' ⟨A, c, h1, h2, h3⟩ => ⟨A, c, h1, EIn.wide _ h2 (fun g hg _ => hZ g hg), h3⟩
 obtain ⟨uq, huq⟩ : ∃ t, t = termT LI Pq := ⟨_, rfl⟩
 rw [← huq] at HTEq
 replace huq := Lib.hid huq
 obtain ⟨uqk, uqn, uqs, uql⟩ := uq
 obtain ⟨qk, qs, qn, qa, ql⟩ := Pq
 simp only [ev, tv, Te.kind, Te.n, Te.name, Te.parts, Tr.kind, Tr.name, Tr.n, Tr.place, Tr.parts] at HTEq dq0 dq1 dq2 dq3 dq4
 have HE : Hid (termT b (.node 4 s n a l) = (two7 3 (lam7 (.node uqk uqn uqs uql)) (.node upk upn ups upl))) := Lib.hid (by rw [hT2, ← hup.out, ← huq.out])
 have HSS : Hid (∀ V', Below W0.heap.size W0 V' → (fun V' : World => (V'.cell? ⟨w.heap.size, 0, none⟩ = some (.int .i64 4) ∧ V'.cell? ⟨w.heap.size, 1, none⟩ = some (.string s) ∧ V'.cell? ⟨w.heap.size, 2, none⟩ = some (.int .i64 n) ∧ V'.cell? ⟨w.heap.size, 3, none⟩ = some (.int .i64 a) ∧ V'.cell? ⟨w.heap.size, 4, none⟩ = some (.slice (some ⟨gp, op, none⟩) m c) ∧ V'.cell? ⟨gp, op, none⟩ = some (.int .i64 pk) ∧ V'.cell? ⟨gp, op + 1, none⟩ = some (.string ps) ∧ V'.cell? ⟨gp, op + 2, none⟩ = some (.int .i64 pn) ∧ V'.cell? ⟨gp, op + 3, none⟩ = some (.int .i64 pa) ∧ V'.cell? ⟨gp, op + 4, none⟩ = some (.slice Ap pl.length (capF pl.length cp)) ∧ V'.cell? ⟨gp, op + 5, none⟩ = some (.int .i64 qk) ∧ V'.cell? ⟨gp, op + 6, none⟩ = some (.string qs) ∧ V'.cell? ⟨gp, op + 7, none⟩ = some (.int .i64 qn) ∧ V'.cell? ⟨gp, op + 8, none⟩ = some (.int .i64 qa) ∧ V'.cell? ⟨gp, op + 9, none⟩ = some (.slice Aq ql.length (capF ql.length cq)))) V') := Lib.hid fun V' h =>
  ⟨(h.cell (p := ⟨w.heap.size, 0, none⟩) hLt.lt).trans (hLt.cell 0), (h.cell (p := ⟨w.heap.size, 1, none⟩) hLt.lt).trans (hLt.cell 1), (h.cell (p := ⟨w.heap.size, 2, none⟩) hLt.lt).trans (hLt.cell 2), (h.cell (p := ⟨w.heap.size, 3, none⟩) hLt.lt).trans (hLt.cell 3), (h.cell (p := ⟨w.heap.size, 4, none⟩) hLt.lt).trans (hLt.cell 4), (((hb0.trans (h.mono hb0.size)).cell (p := ⟨gp, _, none⟩) hglp)).trans dp0, (((hb0.trans (h.mono hb0.size)).cell (p := ⟨gp, _, none⟩) hglp)).trans dp1, (((hb0.trans (h.mono hb0.size)).cell (p := ⟨gp, _, none⟩) hglp)).trans dp2, (((hb0.trans (h.mono hb0.size)).cell (p := ⟨gp, _, none⟩) hglp)).trans dp3, (((hb0.trans (h.mono hb0.size)).cell (p := ⟨gp, _, none⟩) hglp)).trans dp4, (((hb0.trans (h.mono hb0.size)).cell (p := ⟨gp, _, none⟩) hglq)).trans dq0, (((hb0.trans (h.mono hb0.size)).cell (p := ⟨gp, _, none⟩) hglq)).trans dq1, (((hb0.trans (h.mono hb0.size)).cell (p := ⟨gp, _, none⟩) hglq)).trans dq2, (((hb0.trans (h.mono hb0.size)).cell (p := ⟨gp, _, none⟩) hglq)).trans dq3, (((hb0.trans (h.mono hb0.size)).cell (p := ⟨gp, _, none⟩) hglq)).trans dq4⟩
 have HLM : Hid (∀ X, Below W0.heap.size W0 X → ∀ (Z : Nat → Prop) (hZ : ∀ g, X.heap.size ≤ g → Z g) (A : Option Addr) (c : Nat) (hA : EIn X Z (.node uqk uqn uqs uql) A), Calls Tryz.prog 81 #[.agg #[.int .i64 uqk, .int .i64 uqn, .string uqs, .slice A uql.length (capF uql.length c)]] X fun e w' => ∃ A c, e = .returned (.agg #[.int .i64 2, .int .i64 0, .string (⟨#[]⟩ : ByteArray), .slice A 1 (capF 1 c)]) ∧ EIn w' Z (lam7 (.node uqk uqn uqs uql)) A ∧ Below X.heap.size X w') := Lib.hid fun X _ Z hZ A c hA => lam7_any (.node uqk uqn uqs uql) A c X Z hA hZ
 have HTW : Hid (∀ X, Below W0.heap.size W0 X → ∀ (Z : Nat → Prop) (hZ : ∀ g, X.heap.size ≤ g → Z g) (A : Option Addr) (c : Nat) (hA : EIn X Z (lam7 (.node uqk uqn uqs uql)) A) (B : Option Addr) (d : Nat) (hB : EIn X Z (.node upk upn ups upl) B), Calls Tryz.prog 83 #[.int .i64 3, .agg #[.int .i64 2, .int .i64 0, .string (⟨#[]⟩ : ByteArray), .slice A 1 (capF 1 c)], .agg #[.int .i64 upk, .int .i64 upn, .string ups, .slice B upl.length (capF upl.length d)]] X fun e w' => ∃ A c, e = .returned (.agg #[.int .i64 3, .int .i64 0, .string (⟨#[]⟩ : ByteArray), .slice A 2 (capF 2 c)]) ∧ EIn w' Z (two7 3 (lam7 (.node uqk uqn uqs uql)) (.node upk upn ups upl)) A ∧ Below X.heap.size X w') := Lib.hid fun X _ Z hZ A c hA B d hB => two7_any 3 (lam7 (.node uqk uqn uqs uql)) (.node upk upn ups upl) A B c d X Z (by decide) (by decide) hA hB hZ
 clear hT2 dp0 dp1 dp2 dp3 dp4 dq0 dq1 dq2 dq3 dq4 hLt hdpp hokp hInp hdpq hokq hInq
 have hb_1 : Below W0.heap.size W0 W0 := Below.refl _ _
 refine wp_region_K (S := (fun V' : World => (V'.cell? ⟨w.heap.size, 0, none⟩ = some (.int .i64 4) ∧ V'.cell? ⟨w.heap.size, 1, none⟩ = some (.string s) ∧ V'.cell? ⟨w.heap.size, 2, none⟩ = some (.int .i64 n) ∧ V'.cell? ⟨w.heap.size, 3, none⟩ = some (.int .i64 a) ∧ V'.cell? ⟨w.heap.size, 4, none⟩ = some (.slice (some ⟨gp, op, none⟩) m c) ∧ V'.cell? ⟨gp, op, none⟩ = some (.int .i64 pk) ∧ V'.cell? ⟨gp, op + 1, none⟩ = some (.string ps) ∧ V'.cell? ⟨gp, op + 2, none⟩ = some (.int .i64 pn) ∧ V'.cell? ⟨gp, op + 3, none⟩ = some (.int .i64 pa) ∧ V'.cell? ⟨gp, op + 4, none⟩ = some (.slice Ap pl.length (capF pl.length cp)) ∧ V'.cell? ⟨gp, op + 5, none⟩ = some (.int .i64 qk) ∧ V'.cell? ⟨gp, op + 6, none⟩ = some (.string qs) ∧ V'.cell? ⟨gp, op + 7, none⟩ = some (.int .i64 qn) ∧ V'.cell? ⟨gp, op + 8, none⟩ = some (.int .i64 qa) ∧ V'.cell? ⟨gp, op + 9, none⟩ = some (.slice Aq ql.length (capF ql.length cq))))) 17 rfl (HSS.out _ hb_1.drew) (fun hSs => ?_)
 change wpAnyK _ _ _ _ _ _ 18 (Array.replicate 18 false) _ _
 refine tkA (i := 0) (oi := ⟨some 47, _, _, _, _, _⟩) (v := .pointer (some ⟨w.heap.size, 4, none⟩)) hSs ?_
 try go_frame
 refine tkA (i := 1) (oi := ⟨some 48, _, _, _, _, _⟩) (v := .slice (some ⟨gp, op, none⟩) m c) hSs ?_
 try go_frame
 refine tkA (i := 2) (oi := ⟨some 49, _, _, _, _, _⟩) (v := .pointer (some ⟨gp, op + 5, none⟩)) hSs ?_
 try go_frame
 refine tkA (i := 3) (oi := ⟨some 50, _, _, _, _, _⟩) (v := .agg #[.int .i64 qk, .string qs, .int .i64 qn, .int .i64 qa, .slice Aq ql.length (capF ql.length cq)]) hSs ?_
 try go_frame
 refine tkB (i := 4) (oi := ⟨some 51, _, _, _, _, _⟩) (v := .slice Ab mb cb) hSs ?_
 try go_frame
 refine tkA (i := 5) (oi := ⟨some 52, _, _, _, _, _⟩) (v := .pointer (some ⟨w.heap.size, 1, none⟩)) hSs ?_
 try go_frame
 refine tkA (i := 6) (oi := ⟨some 53, _, _, _, _, _⟩) (v := .string s) hSs ?_
 try go_frame
 refine tkA (i := 10) (oi := ⟨some 57, _, _, _, _, _⟩) (v := .pointer (some ⟨w.heap.size, 4, none⟩)) hSs ?_
 try go_frame
 refine tkA (i := 11) (oi := ⟨some 58, _, _, _, _, _⟩) (v := .slice (some ⟨gp, op, none⟩) m c) hSs ?_
 try go_frame
 refine tkA (i := 12) (oi := ⟨some 59, _, _, _, _, _⟩) (v := .pointer (some ⟨gp, op, none⟩)) hSs ?_
 try go_frame
 refine tkA (i := 13) (oi := ⟨some 60, _, _, _, _, _⟩) (v := .agg #[.int .i64 pk, .string ps, .int .i64 pn, .int .i64 pa, .slice Ap pl.length (capF pl.length cp)]) hSs ?_
 try go_frame
 refine tkB (i := 14) (oi := ⟨some 61, _, _, _, _, _⟩) (v := .slice Ab mb cb) hSs ?_
 try go_frame
 refine wpAnyK_one  (i := 7) rfl rfl (by kernel_rfl) (fun K hK => ?_)
 go_simp
 refine (HWI.out _ (hb_1.drew)).mono ?_
 rintro e u_2 ⟨A_2, c_2, rfl, hS_2x, hq_2⟩
 have hb_2 := (hb_1.drew).trans (hq_2.mono (hb_1.drew).size)
 have hLr_2 := (hLr.drew).below hq_2 hLr.lt
 refine hK.out _ _ (fun _ => HSS.out _ hb_2) (fun hS9 => ?_)
 have hS_2 := hS9 (by decide)
 clear hK K hS9
 try go_frame
 refine wpAnyK_one  (i := 8) rfl rfl (by kernel_rfl) (fun K hK => ?_)
 go_simp
 refine (HTEq.out _ hb_2 (fun g => w.heap.size + 2 ≤ g) (fun g h => Nat.le_trans (Nat.le_trans hBW hb_2.size) h) A_2 c_2 hS_2x).mono ?_
 rintro e u_3 ⟨A_3, c_3, rfl, hT_3, hq_3⟩
 have hb_3 := hb_2.trans (hq_3.mono hb_2.size)
 have hLr_2_3 := hLr_2.below hq_3 hLr_2.lt
 refine hK.out _ _ (fun _ => HSS.out _ hb_3) (fun hS9 => ?_)
 have hS_3 := hS9 (by decide)
 clear hK K hS9
 try go_frame
 refine wpAnyK_one  (i := 9) rfl rfl (by kernel_rfl) (fun K hK => ?_)
 go_simp
 refine (HLM.out _ hb_3 (fun g => w.heap.size + 2 ≤ g) (fun g h => Nat.le_trans (Nat.le_trans hBW hb_3.size) h) A_3 c_3 hT_3).mono ?_
 rintro e u_4 ⟨A_4, c_4, rfl, hT_4, hq_4⟩
 have hb_4 := hb_3.trans (hq_4.mono hb_3.size)
 have hLr_2_3_4 := hLr_2_3.below hq_4 hLr_2_3.lt
 have hT_3_4 := EIn.below _ hT_3 hq_4 (Nat.le_refl _)
 refine hK.out _ _ (fun _ => HSS.out _ hb_4) (fun hS9 => ?_)
 have hS_4 := hS9 (by decide)
 clear hK K hS9
 try go_frame
 refine wpAnyK_one  (i := 15) rfl rfl (by kernel_rfl) (fun K hK => ?_)
 go_simp
 refine (HTEp.out _ hb_4 (fun g => w.heap.size + 2 ≤ g) (fun g h => Nat.le_trans (Nat.le_trans hBW hb_4.size) h)).mono ?_
 rintro e u_5 ⟨A_5, c_5, rfl, hT_5, hq_5⟩
 have hb_5 := hb_4.trans (hq_5.mono hb_4.size)
 have hLr_2_3_4_5 := hLr_2_3_4.below hq_5 hLr_2_3_4.lt
 have hT_3_4_5 := EIn.below _ hT_3_4 hq_5 (Nat.le_refl _)
 have hT_4_5 := EIn.below _ hT_4 hq_5 (Nat.le_refl _)
 refine hK.out _ _ (fun _ => HSS.out _ hb_5) (fun hS9 => ?_)
 have hS_5 := hS9 (by decide)
 clear hK K hS9
 try go_frame
 refine wpAnyK_one  (i := 16) rfl rfl (by kernel_rfl) (fun K hK => ?_)
 go_simp
 refine (HTW.out _ hb_5 (fun g => w.heap.size + 2 ≤ g) (fun g h => Nat.le_trans (Nat.le_trans hBW hb_5.size) h) A_4 c_4 hT_4_5 A_5 c_5 hT_5).mono ?_
 rintro e u_6 ⟨A_6, c_6, rfl, hT_6, hq_6⟩
 have hb_6 := hb_5.trans (hq_6.mono hb_5.size)
 have hLr_2_3_4_5_6 := hLr_2_3_4_5.below hq_6 hLr_2_3_4_5.lt
 have hT_3_4_5_6 := EIn.below _ hT_3_4_5 hq_6 (Nat.le_refl _)
 have hT_4_5_6 := EIn.below _ hT_4_5 hq_6 (Nat.le_refl _)
 have hT_5_6 := EIn.below _ hT_5 hq_6 (Nat.le_refl _)
 refine hK.out _ _ (fun _ => HSS.out _ hb_6) (fun hS9 => ?_)
 have hS_6 := hS9 (by decide)
 clear hK K hS9
 try go_frame
 refine wpAnyK_one  (i := 17) rfl rfl (by kernel_rfl) (fun K hK => ?_)
 refine wp_store_as (F := fun W9 => Below w.heap.size w W9 ∧ Lies W9 (w.heap.size + 1) 24 #[.int .i64 3, .int .i64 0, .string (⟨#[]⟩ : ByteArray), .slice A_6 2 (capF 2 c_6)] ∧ EIn W9 (fun g => w.heap.size + 2 ≤ g) (two7 3 (lam7 (.node uqk uqn uqs uql)) (.node upk upn ups upl)) A_6) _ _ _ rfl (w.heap.size + 1) 0 #[.int .i64 3, .int .i64 0, .string (⟨#[]⟩ : ByteArray), .slice A_6 2 (capF 2 c_6)] rfl rfl (lies_is hLr_2_3_4_5_6 rfl) (by kernel_rfl) (by simp [Value.oneCell']) ⟨below_cells (hb0.trans (hb_6.mono hb0.size)) (by omega) _ _, lies_set4 hLr_2_3_4_5_6 _ _ _ _, ein_offs _ hT_6 (by omega) _ _⟩ (fun W_7 hF_7 => ?_)
 refine hK.out _ _ (fun h => absurd rfl h) (fun _ => ?_)
 clear hK K
 try go_frame
 refine wpAnyK_done (by kernel_rfl) ?_ _
 obtain ⟨f1, f2, f3⟩ := hF_7
 go_wp2_with fail
 refine bodyPost_ret (res_term (p := 4) Tryz.results52 rfl f2) rfl ?_
 rw [HE.out]
 exact ⟨A_6, c_6, rfl, EIn.wide _ f3 (fun g h _ => by have h9 : w.heap.size + 2 ≤ g := h; omega), f1⟩
end Lx
end Go.Proofs.YtiocmiikghcoaaaGreatDoor
