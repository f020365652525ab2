/-
  Texts that lie one behind the other: SuFx.
-/
import Derived.Test.YtcgiloccmehbeaaY4
import Derived.Test.YtcgiloccmehbeaaY1
namespace Go.Proofs.Ytcgiloccmehbeaa
open Go.RowKit
namespace Lx
set_option maxRecDepth 100000
/-- A term's answer, its four fields written out. -/
def GivesL (k n : Int) (s : ByteArray) (m : Nat) (t : Te) (w : World) (e : Ending) (w' : World) : Prop :=
  ∃ A c, e = .returned (.agg #[.int .i64 k, .int .i64 n, .string s, .slice A m (capF m c)]) ∧ EIn w' Any t A ∧ Below w.heap.size w w'
theorem GivesA.lit {k n : Int} {s : ByteArray} {l : List Te} {w w' : World} {e : Ending} (h : GivesA (.node k n s l) w e w') : GivesL k n s l.length (.node k n s l) w e w' := h
def t8T : Te := lamE (appE (vE 1) (vE 0))
def s7T : Te := .node 7 7 n0B []
def a8B : ByteArray := ⟨#[65]⟩
def alt8T : Te := .node 6 2 a8B [appE (vE 2) (vE 1)]
theorem fx8_t : tameE 1099511627776 1099511627776 t8T := tameB_spec _ (by decide)
theorem fx8_s : tameE 1099511627776 1099511627776 s7T := tameB_spec _ (by decide)
theorem fx8_a : tameE 1099511627776 1099511627776 alt8T := tameB_spec _ (by decide)
theorem fx8_v4 : tameE 1099511627776 1099511627776 (vE 4) := tameB_spec _ (by decide)
theorem fx8_p : tameE 1099511627776 1099511627776 (appE (appE (vE 0) (vE 1)) (vE 2)) := tameB_spec _ (by decide)
theorem fx8_at : tameE 1099511627776 1099511627776 (appE t8T (vE 0)) := tameB_spec _ (by decide)
theorem fx8_1 : putE t8T 0 s7T = (lamE (appE s7T (vE 0))) := by kernel_rfl
theorem fx8_2 : putE t8T 0 (vE 4) = (lamE (appE (vE 5) (vE 0))) := by kernel_rfl
theorem fx8_3 : upE t8T 3 0 = (lamE (appE (vE 4) (vE 0))) := by kernel_rfl
theorem fx8_4 : upE alt8T 3 0 = (.node 6 2 a8B [appE (vE 5) (vE 1)]) := by kernel_rfl
theorem fx8_5 : usesE t8T 0 = 1 := by kernel_rfl
theorem fx8_6 : usesE (appE t8T (vE 0)) 0 = 2 := by kernel_rfl
theorem fx8_7 : instE (appE (appE (vE 0) (vE 1)) (vE 2)) [s7T, t8T] = (appE (appE (lamE (appE (vE 1) (vE 0))) s7T) (vE 0)) := by kernel_rfl
theorem fx8_x0 : txE (lamE (appE s7T (vE 0))) = [40, 92, 32, 40, 64, 32, 55, 32, 35, 48, 41, 41] := by kernel_rfl
theorem fx8_y0 : simpE (lamE (appE s7T (vE 0))) := by simp [simpE, simpEL, lamE, appE, vE, s7T, ByteArray.size]
theorem fx8_x1 : txE (lamE (appE (vE 5) (vE 0))) = [40, 92, 32, 40, 64, 32, 35, 53, 32, 35, 48, 41, 41] := by kernel_rfl
theorem fx8_y1 : simpE (lamE (appE (vE 5) (vE 0))) := by simp [simpE, simpEL, lamE, appE, vE, ByteArray.size]
theorem fx8_x2 : txE (lamE (appE (vE 4) (vE 0))) = [40, 92, 32, 40, 64, 32, 35, 52, 32, 35, 48, 41, 41] := by kernel_rfl
theorem fx8_y2 : simpE (lamE (appE (vE 4) (vE 0))) := by simp [simpE, simpEL, lamE, appE, vE, ByteArray.size]
theorem fx8_x3 : txE (.node 6 2 a8B [appE (vE 5) (vE 1)]) = [40, 65, 58, 50, 32, 40, 64, 32, 35, 53, 32, 35, 49, 41, 41] := by kernel_rfl
theorem fx8_y3 : simpE (.node 6 2 a8B [appE (vE 5) (vE 1)]) := by simp [simpE, simpEL, appE, vE, a8B, ByteArray.size]
theorem fx8_x4 : txE (appE (appE (lamE (appE (vE 1) (vE 0))) s7T) (vE 0)) = [40, 64, 32, 40, 64, 32, 40, 92, 32, 40, 64, 32, 35, 49, 32, 35, 48, 41, 41, 32, 55, 41, 32, 35, 48, 41] := by kernel_rfl
theorem fx8_y4 : simpE (appE (appE (lamE (appE (vE 1) (vE 0))) s7T) (vE 0)) := by simp [simpE, simpEL, lamE, appE, vE, s7T, ByteArray.size]
set_option maxHeartbeats 8000000 in
theorem fixed8_any (w : World) : Calls Try.prog 11 #[] w fun e w' => e = .returned (.bool true) ∧ Below w.heap.size w w' := by
  go_enter Try.func11, Try.ntmps11
  go_wp2_with fail
  refine ((vl_any 1 w (by decide) (by decide)).mono fun e w' h => h.lit).mono ?_
  rintro e w1 ⟨A1, c1, rfl, hT1, hb1⟩
  go_wp2_with fail
  refine ((vl_any 0 w1 (by decide) (by decide)).mono fun e w' h => h.lit).mono ?_
  rintro e w2 ⟨A2, c2, rfl, hT2, hb2⟩
  have hT1 := EIn.below _ hT1 hb2 (Nat.le_refl _)
  go_wp2_with fail
  refine ((appl_any (vE 1) (vE 0) A1 A2 c1 c2 w2 hT1 hT2).mono fun e w' h => h.lit).mono ?_
  rintro e w3 ⟨A3, c3, rfl, hT3, hb3⟩
  go_wp2_with fail
  refine ((laml_any (appE (vE 1) (vE 0)) A3 c3 w3 hT3).mono fun e w' h => h.lit).mono ?_
  rintro e w4 ⟨A4, c4, rfl, hT4, hb4⟩
  have hb := ((hb1.trans (hb2.mono hb1.size)).trans (hb3.mono (hb1.trans (hb2.mono hb1.size)).size))
  have hb := hb.trans (hb4.mono hb.size)
  clear hT1 hT2 hT3 hb1 hb2 hb3 hb4
  go_wp2_with fail
  refine ((vl_any 2 _ (by decide) (by decide)).mono fun e w' h => h.lit).mono ?_
  rintro e w5 ⟨A5, c5, rfl, hT5, hb5⟩
  go_wp2_with fail
  refine ((vl_any 1 w5 (by decide) (by decide)).mono fun e w' h => h.lit).mono ?_
  rintro e w6 ⟨A6, c6, rfl, hT6, hb6⟩
  have hT5 := EIn.below _ hT5 hb6 (Nat.le_refl _)
  go_wp2_with fail
  refine ((appl_any (vE 2) (vE 1) A5 A6 c5 c6 w6 hT5 hT6).mono fun e w' h => h.lit).mono ?_
  rintro e w7 ⟨A7, c7, rfl, hT7, hb7⟩
  go_upto_region 4 with fail
  have h57 : Below _ _ w7 := (hb5.trans (hb6.mono hb5.size)).trans (hb7.mono (hb5.trans (hb6.mono hb5.size)).size)
  clear hT5 hT6 hb5 hb6 hb7
  have l1 : Lies (w4.alloc (.cells #[.int .i64 2, .int .i64 0, .string n0B, .slice A4 1 (capF 1 c4)] 24)) w4.heap.size 24 #[.int .i64 2, .int .i64 0, .string n0B, .slice A4 1 (capF 1 c4)] := Lies.new _ _ _
  have l2 : Lies ((w4.alloc (.cells #[.int .i64 2, .int .i64 0, .string n0B, .slice A4 1 (capF 1 c4)] 24)).alloc (.cells #[.int .i64 7, .int .i64 7, .string ⟨#[]⟩, .slice none 0 0] 24)) (w4.heap.size + 1) 24 #[.int .i64 7, .int .i64 7, .string ⟨#[]⟩, .slice none 0 0] := lies_next _ _ _ _ (by simp)
  have l1 := l1.old (.cells #[.int .i64 7, .int .i64 7, .string ⟨#[]⟩, .slice none 0 0] 24)
  have hT4 := EIn.below _ hT4 (below2_new (w := w4) (.cells #[.int .i64 2, .int .i64 0, .string n0B, .slice A4 1 (capF 1 c4)] 24) (.cells #[.int .i64 7, .int .i64 7, .string ⟨#[]⟩, .slice none 0 0] 24)) (Nat.le_refl _)
  have hb4 := hb.trans ((below2_new (w := w4) (.cells #[.int .i64 2, .int .i64 0, .string n0B, .slice A4 1 (capF 1 c4)] 24) (.cells #[.int .i64 7, .int .i64 7, .string ⟨#[]⟩, .slice none 0 0] 24)).mono hb.size)
  obtain ⟨V, hV⟩ : ∃ V, V = (w7.alloc (.cells #[.int .i64 3, .int .i64 0, .string n0B, .slice A7 2 (capF 2 c7)] 24)).alloc (.cells #[.int .i64 6, .int .i64 2, .string ⟨#[65]⟩, .slice (some ⟨w7.heap.size, 0, none⟩) 1 1] 24) := ⟨_, rfl⟩
  have hbV : Below w7.heap.size w7 V := by rw [hV]; exact below2_new _ _
  have l3 : Lies V (w7.heap.size + 1) 24 #[.int .i64 6, .int .i64 2, .string a8B, .slice (some ⟨w7.heap.size, 0, none⟩) 1 (capF 1 1)] := by rw [hV]; exact lies_next _ _ _ _ (by simp)
  have lr : Lies V w7.heap.size 24 #[.int .i64 3, .int .i64 0, .string n0B, .slice A7 2 (capF 2 c7)] := by rw [hV]; exact (Lies.new _ _ _).old _
  have hal : EIn V Any alt8T (some ⟨w7.heap.size, 0, none⟩) := ein_mk (by decide) (by decide) (by decide) (by decide) (ein_lies1 (c := c7) (t := appE (vE 2) (vE 1)) lr trivial (EIn.below _ hT7 hbV (Nat.le_refl _)))
  have h5V := h57.trans (hbV.mono h57.size)
  have l1 := l1.below h5V l1.lt
  have l2 := l2.below h5V l2.lt
  have ht8 : EIn V Any t8T A4 := EIn.below _ hT4 h5V (Nat.le_refl _)
  have hs7 : EIn V Any s7T none := ein_mk (by decide) (by decide) (by decide) (by decide) (by rw [ELIn]; trivial)
  have HB := Lib.hid (hb4.trans (h5V.mono hb4.size))
  rw [← hV]
  clear hV lr hT7 hT4 hbV h57 h5V hb4 hb
  obtain ⟨AL, hAL⟩ : ∃ A : Option Addr, A = some ⟨w7.heap.size, 0, none⟩ := ⟨_, rfl⟩
  obtain ⟨b1, hb1⟩ : ∃ b, b = w4.heap.size := ⟨_, rfl⟩
  obtain ⟨b2, hb2⟩ : ∃ b, b = w4.heap.size + 1 := ⟨_, rfl⟩
  obtain ⟨b3, hb3⟩ : ∃ b, b = w7.heap.size + 1 := ⟨_, rfl⟩
  rw [← hAL] at l3 hal
  rw [← hb3] at l3
  rw [← hb2] at l2
  rw [← hb1] at l1
  rw [← hb2, ← hb1, ← hb3, ← hAL]
  clear hAL hb1 hb2 hb3
  have HSS : Hid (∀ V', Below V.heap.size V V' → (fun V' : World => (V'.cell? ⟨b1, 0, none⟩ = some (.int .i64 2) ∧ V'.cell? ⟨b1, 1, none⟩ = some (.int .i64 0) ∧ V'.cell? ⟨b1, 2, none⟩ = some (.string n0B) ∧ V'.cell? ⟨b1, 3, none⟩ = some (.slice A4 1 (capF 1 c4)) ∧ V'.cell? ⟨b2, 0, none⟩ = some (.int .i64 7) ∧ V'.cell? ⟨b2, 1, none⟩ = some (.int .i64 7) ∧ V'.cell? ⟨b2, 2, none⟩ = some (.string n0B) ∧ V'.cell? ⟨b2, 3, none⟩ = some (.slice none 0 (capF 0 0)) ∧ V'.cell? ⟨b3, 0, none⟩ = some (.int .i64 6) ∧ V'.cell? ⟨b3, 1, none⟩ = some (.int .i64 2) ∧ V'.cell? ⟨b3, 2, none⟩ = some (.string a8B) ∧ V'.cell? ⟨b3, 3, none⟩ = some (.slice AL 1 (capF 1 1)))) V') := Lib.hid fun V' h =>
    ⟨(h.cell (p := ⟨b1, 0, none⟩) l1.lt).trans (l1.cell 0), (h.cell (p := ⟨b1, 1, none⟩) l1.lt).trans (l1.cell 1), (h.cell (p := ⟨b1, 2, none⟩) l1.lt).trans (l1.cell 2), (h.cell (p := ⟨b1, 3, none⟩) l1.lt).trans (l1.cell 3), (h.cell (p := ⟨b2, 0, none⟩) l2.lt).trans (l2.cell 0), (h.cell (p := ⟨b2, 1, none⟩) l2.lt).trans (l2.cell 1), (h.cell (p := ⟨b2, 2, none⟩) l2.lt).trans (l2.cell 2), (h.cell (p := ⟨b2, 3, none⟩) l2.lt).trans (l2.cell 3), (h.cell (p := ⟨b3, 0, none⟩) l3.lt).trans (l3.cell 0), (h.cell (p := ⟨b3, 1, none⟩) l3.lt).trans (l3.cell 1), (h.cell (p := ⟨b3, 2, none⟩) l3.lt).trans (l3.cell 2), (h.cell (p := ⟨b3, 3, none⟩) l3.lt).trans (l3.cell 3)⟩
  clear l1 l2 l3
  have HP1 : Hid (∀ X, Below V.heap.size V X → ∀ (A : Option Addr) (c : Nat) (hA : EIn X Any t8T A) (B : Option Addr) (d : Nat) (hB : EIn X Any s7T B), Calls Try.prog 15 #[.agg #[.int .i64 2, .int .i64 0, .string n0B, .slice A 1 (capF 1 c)], .int .i64 0, .agg #[.int .i64 7, .int .i64 7, .string n0B, .slice B 0 (capF 0 d)]] X fun e w' => ∃ A c, e = .returned (.agg #[.int .i64 2, .int .i64 0, .string n0B, .slice A 1 (capF 1 c)]) ∧ EIn w' Any (lamE (appE s7T (vE 0))) A ∧ Below X.heap.size X w') := Lib.hid fun X hX A c hA B d hB => by
    have h := put_any t8T s7T A B c d 0 X hA (by decide) (by decide) fx8_t hB (by decide) (by decide) fx8_s (by decide) (by decide)
    rw [fx8_1] at h
    exact h.mono fun e w' h => h.any
  have HP2 : Hid (∀ X, Below V.heap.size V X → ∀ (A : Option Addr) (c : Nat) (hA : EIn X Any t8T A) (B : Option Addr) (d : Nat) (hB : EIn X Any (vE 4) B), Calls Try.prog 15 #[.agg #[.int .i64 2, .int .i64 0, .string n0B, .slice A 1 (capF 1 c)], .int .i64 0, .agg #[.int .i64 1, .int .i64 4, .string n0B, .slice B 0 (capF 0 d)]] X fun e w' => ∃ A c, e = .returned (.agg #[.int .i64 2, .int .i64 0, .string n0B, .slice A 1 (capF 1 c)]) ∧ EIn w' Any (lamE (appE (vE 5) (vE 0))) A ∧ Below X.heap.size X w') := Lib.hid fun X hX A c hA B d hB => by
    have h := put_any t8T (vE 4) A B c d 0 X hA (by decide) (by decide) fx8_t hB (by decide) (by decide) fx8_v4 (by decide) (by decide)
    rw [fx8_2] at h
    exact h.mono fun e w' h => h.any
  have HU1 : Hid (∀ X, Below V.heap.size V X → ∀ (A : Option Addr) (c : Nat) (hA : EIn X Any t8T A), Calls Try.prog 13 #[.agg #[.int .i64 2, .int .i64 0, .string n0B, .slice A 1 (capF 1 c)], .int .i64 3, .int .i64 0] X fun e w' => ∃ A c, e = .returned (.agg #[.int .i64 2, .int .i64 0, .string n0B, .slice A 1 (capF 1 c)]) ∧ EIn w' Any (lamE (appE (vE 4) (vE 0))) A ∧ Below X.heap.size X w') := Lib.hid fun X hX A c hA => by
    have h := up_any t8T A c 3 0 X hA (by decide) (by decide) fx8_t (by decide) (by decide) (by decide) (by decide)
    rw [fx8_3] at h
    exact h.mono fun e w' h => h.any
  have HU2 : Hid (∀ X, Below V.heap.size V X → ∀ (A : Option Addr) (c : Nat) (hA : EIn X Any alt8T A), Calls Try.prog 13 #[.agg #[.int .i64 6, .int .i64 2, .string a8B, .slice A 1 (capF 1 c)], .int .i64 3, .int .i64 0] X fun e w' => ∃ A c, e = .returned (.agg #[.int .i64 6, .int .i64 2, .string a8B, .slice A 1 (capF 1 c)]) ∧ EIn w' Any (.node 6 2 a8B [appE (vE 5) (vE 1)]) A ∧ Below X.heap.size X w') := Lib.hid fun X hX A c hA => by
    have h := up_any alt8T A c 3 0 X hA (by decide) (by decide) fx8_a (by decide) (by decide) (by decide) (by decide)
    rw [fx8_4] at h
    exact h.mono fun e w' h => h.any
  have HX0 : Hid (∀ X, Below V.heap.size V X → ∀ (A : Option Addr) (c : Nat) (hA : EIn X Any (lamE (appE s7T (vE 0))) A), Calls Try.prog 27 #[.agg #[.int .i64 2, .int .i64 0, .string n0B, .slice A 1 (capF 1 c)]] X fun e w' => e = .returned (.string (⟨#[40, 92, 32, 40, 64, 32, 55, 32, 35, 48, 41, 41]⟩ : ByteArray)) ∧ Below X.heap.size X w') := Lib.hid fun X hX A c hA => by
    have h := rtext6_any (depthE (lamE (appE s7T (vE 0)))) (lamE (appE s7T (vE 0))) A c X (Nat.le_refl _) (by decide) fx8_y0 hA
    rw [fx8_x0] at h
    exact h
  have HX1 : Hid (∀ X, Below V.heap.size V X → ∀ (A : Option Addr) (c : Nat) (hA : EIn X Any (lamE (appE (vE 5) (vE 0))) A), Calls Try.prog 27 #[.agg #[.int .i64 2, .int .i64 0, .string n0B, .slice A 1 (capF 1 c)]] X fun e w' => e = .returned (.string (⟨#[40, 92, 32, 40, 64, 32, 35, 53, 32, 35, 48, 41, 41]⟩ : ByteArray)) ∧ Below X.heap.size X w') := Lib.hid fun X hX A c hA => by
    have h := rtext6_any (depthE (lamE (appE (vE 5) (vE 0)))) (lamE (appE (vE 5) (vE 0))) A c X (Nat.le_refl _) (by decide) fx8_y1 hA
    rw [fx8_x1] at h
    exact h
  have HX2 : Hid (∀ X, Below V.heap.size V X → ∀ (A : Option Addr) (c : Nat) (hA : EIn X Any (lamE (appE (vE 4) (vE 0))) A), Calls Try.prog 27 #[.agg #[.int .i64 2, .int .i64 0, .string n0B, .slice A 1 (capF 1 c)]] X fun e w' => e = .returned (.string (⟨#[40, 92, 32, 40, 64, 32, 35, 52, 32, 35, 48, 41, 41]⟩ : ByteArray)) ∧ Below X.heap.size X w') := Lib.hid fun X hX A c hA => by
    have h := rtext6_any (depthE (lamE (appE (vE 4) (vE 0)))) (lamE (appE (vE 4) (vE 0))) A c X (Nat.le_refl _) (by decide) fx8_y2 hA
    rw [fx8_x2] at h
    exact h
  have HX3 : Hid (∀ X, Below V.heap.size V X → ∀ (A : Option Addr) (c : Nat) (hA : EIn X Any (.node 6 2 a8B [appE (vE 5) (vE 1)]) A), Calls Try.prog 27 #[.agg #[.int .i64 6, .int .i64 2, .string a8B, .slice A 1 (capF 1 c)]] X fun e w' => e = .returned (.string (⟨#[40, 65, 58, 50, 32, 40, 64, 32, 35, 53, 32, 35, 49, 41, 41]⟩ : ByteArray)) ∧ Below X.heap.size X w') := Lib.hid fun X hX A c hA => by
    have h := rtext6_any (depthE (.node 6 2 a8B [appE (vE 5) (vE 1)])) (.node 6 2 a8B [appE (vE 5) (vE 1)]) A c X (Nat.le_refl _) (by decide) fx8_y3 hA
    rw [fx8_x3] at h
    exact h
  have HX4 : Hid (∀ X, Below V.heap.size V X → ∀ (A : Option Addr) (c : Nat) (hA : EIn X Any (appE (appE (lamE (appE (vE 1) (vE 0))) s7T) (vE 0)) A), Calls Try.prog 27 #[.agg #[.int .i64 3, .int .i64 0, .string n0B, .slice A 2 (capF 2 c)]] X fun e w' => e = .returned (.string (⟨#[40, 64, 32, 40, 64, 32, 40, 92, 32, 40, 64, 32, 35, 49, 32, 35, 48, 41, 41, 32, 55, 41, 32, 35, 48, 41]⟩ : ByteArray)) ∧ Below X.heap.size X w') := Lib.hid fun X hX A c hA => by
    have h := rtext6_any (depthE (appE (appE (lamE (appE (vE 1) (vE 0))) s7T) (vE 0))) (appE (appE (lamE (appE (vE 1) (vE 0))) s7T) (vE 0)) A c X (Nat.le_refl _) (by decide) fx8_y4 hA
    rw [fx8_x4] at h
    exact h
  have HS1 : Hid (∀ X, Below V.heap.size V X → ∀ (A : Option Addr) (c : Nat) (hA : EIn X Any t8T A), Calls Try.prog 17 #[.agg #[.int .i64 2, .int .i64 0, .string n0B, .slice A 1 (capF 1 c)], .int .i64 0] X fun e w' => e = .returned (.int .i64 1) ∧ Below X.heap.size X w') := Lib.hid fun X hX A c hA => by
    have h := uses_any (depthE t8T) t8T A c 0 X (Nat.le_refl _) (by decide) (by decide) fx8_t (by decide) (by decide) hA
    rw [fx8_5] at h
    exact h
  have HS2 : Hid (∀ X, Below V.heap.size V X → ∀ (A : Option Addr) (c : Nat) (hA : EIn X Any (appE t8T (vE 0)) A), Calls Try.prog 17 #[.agg #[.int .i64 3, .int .i64 0, .string n0B, .slice A 2 (capF 2 c)], .int .i64 0] X fun e w' => e = .returned (.int .i64 2) ∧ Below X.heap.size X w') := Lib.hid fun X hX A c hA => by
    have h := uses_any (depthE (appE t8T (vE 0))) (appE t8T (vE 0)) A c 0 X (Nat.le_refl _) (by decide) (by decide) fx8_at (by decide) (by decide) hA
    rw [fx8_6] at h
    exact h
  have HV4 : Hid (∀ X, Below V.heap.size V X → Calls Try.prog 23 #[.int .i64 4] X fun e w' => ∃ A c, e = .returned (.agg #[.int .i64 1, .int .i64 4, .string n0B, .slice A 0 (capF 0 c)]) ∧ EIn w' Any (vE 4) A ∧ Below X.heap.size X w') := Lib.hid fun X hX => vl_any 4 X (by decide) (by decide)
  have HV0 : Hid (∀ X, Below V.heap.size V X → Calls Try.prog 23 #[.int .i64 0] X fun e w' => ∃ A c, e = .returned (.agg #[.int .i64 1, .int .i64 0, .string n0B, .slice A 0 (capF 0 c)]) ∧ EIn w' Any (vE 0) A ∧ Below X.heap.size X w') := Lib.hid fun X hX => vl_any 0 X (by decide) (by decide)
  have HV1 : Hid (∀ X, Below V.heap.size V X → Calls Try.prog 23 #[.int .i64 1] X fun e w' => ∃ A c, e = .returned (.agg #[.int .i64 1, .int .i64 1, .string n0B, .slice A 0 (capF 0 c)]) ∧ EIn w' Any (vE 1) A ∧ Below X.heap.size X w') := Lib.hid fun X hX => vl_any 1 X (by decide) (by decide)
  have HV2 : Hid (∀ X, Below V.heap.size V X → Calls Try.prog 23 #[.int .i64 2] X fun e w' => ∃ A c, e = .returned (.agg #[.int .i64 1, .int .i64 2, .string n0B, .slice A 0 (capF 0 c)]) ∧ EIn w' Any (vE 2) A ∧ Below X.heap.size X w') := Lib.hid fun X hX => vl_any 2 X (by decide) (by decide)
  have HA1 : Hid (∀ X, Below V.heap.size V X → ∀ (A : Option Addr) (c : Nat) (hA : EIn X Any t8T A) (B : Option Addr) (d : Nat) (hB : EIn X Any (vE 0) B), Calls Try.prog 25 #[.agg #[.int .i64 2, .int .i64 0, .string n0B, .slice A 1 (capF 1 c)], .agg #[.int .i64 1, .int .i64 0, .string n0B, .slice B 0 (capF 0 d)]] X fun e w' => ∃ A c, e = .returned (.agg #[.int .i64 3, .int .i64 0, .string n0B, .slice A 2 (capF 2 c)]) ∧ EIn w' Any (appE t8T (vE 0)) A ∧ Below X.heap.size X w') := Lib.hid fun X hX A c hA B d hB => appl_any t8T (vE 0) A B c d X hA hB
  have HA2 : Hid (∀ X, Below V.heap.size V X → ∀ (A : Option Addr) (c : Nat) (hA : EIn X Any (vE 0) A) (B : Option Addr) (d : Nat) (hB : EIn X Any (vE 1) B), Calls Try.prog 25 #[.agg #[.int .i64 1, .int .i64 0, .string n0B, .slice A 0 (capF 0 c)], .agg #[.int .i64 1, .int .i64 1, .string n0B, .slice B 0 (capF 0 d)]] X fun e w' => ∃ A c, e = .returned (.agg #[.int .i64 3, .int .i64 0, .string n0B, .slice A 2 (capF 2 c)]) ∧ EIn w' Any (appE (vE 0) (vE 1)) A ∧ Below X.heap.size X w') := Lib.hid fun X hX A c hA B d hB => appl_any (vE 0) (vE 1) A B c d X hA hB
  have HA3 : Hid (∀ X, Below V.heap.size V X → ∀ (A : Option Addr) (c : Nat) (hA : EIn X Any (appE (vE 0) (vE 1)) A) (B : Option Addr) (d : Nat) (hB : EIn X Any (vE 2) B), Calls Try.prog 25 #[.agg #[.int .i64 3, .int .i64 0, .string n0B, .slice A 2 (capF 2 c)], .agg #[.int .i64 1, .int .i64 2, .string n0B, .slice B 0 (capF 0 d)]] X fun e w' => ∃ A c, e = .returned (.agg #[.int .i64 3, .int .i64 0, .string n0B, .slice A 2 (capF 2 c)]) ∧ EIn w' Any (appE (appE (vE 0) (vE 1)) (vE 2)) A ∧ Below X.heap.size X w') := Lib.hid fun X hX A c hA B d hB => appl_any (appE (vE 0) (vE 1)) (vE 2) A B c d X hA hB
  have HIN : Hid (∀ X, Below V.heap.size V X → ∀ (A : Option Addr) (c : Nat) (hA : EIn X Any (appE (appE (vE 0) (vE 1)) (vE 2)) A) (g : Nat) (hl : ELIn X Any [s7T, t8T] (some ⟨g, 0, none⟩) 0), Calls Try.prog 19 #[.agg #[.int .i64 3, .int .i64 0, .string n0B, .slice A 2 (capF 2 c)], .slice (some ⟨g, 0, none⟩) 2 2] X fun e w' => ∃ A c, e = .returned (.agg #[.int .i64 3, .int .i64 0, .string n0B, .slice A 2 (capF 2 c)]) ∧ EIn w' Any (appE (appE (lamE (appE (vE 1) (vE 0))) s7T) (vE 0)) A ∧ Below X.heap.size X w') := Lib.hid fun X hX A c hA g hl => by
    have h := inst_any (appE (appE (vE 0) (vE 1)) (vE 2)) [s7T, t8T] A (some ⟨g, 0, none⟩) c 2 X hA (by decide) (by decide) fx8_p hl (fun t ht => by
      rcases List.mem_cons.1 ht with rfl | ht
      · exact ⟨by decide, by decide, fx8_s⟩
      · rcases List.mem_cons.1 ht with rfl | ht
        · exact ⟨by decide, by decide, fx8_t⟩
        · cases ht) (by simp)
    rw [fx8_7] at h
    exact h.mono fun e w' h => h.any
  have hb_1 : Below V.heap.size V V := Below.refl _ _
  refine wp_region_K (S := (fun V' : World => (V'.cell? ⟨b1, 0, none⟩ = some (.int .i64 2) ∧ V'.cell? ⟨b1, 1, none⟩ = some (.int .i64 0) ∧ V'.cell? ⟨b1, 2, none⟩ = some (.string n0B) ∧ V'.cell? ⟨b1, 3, none⟩ = some (.slice A4 1 (capF 1 c4)) ∧ V'.cell? ⟨b2, 0, none⟩ = some (.int .i64 7) ∧ V'.cell? ⟨b2, 1, none⟩ = some (.int .i64 7) ∧ V'.cell? ⟨b2, 2, none⟩ = some (.string n0B) ∧ V'.cell? ⟨b2, 3, none⟩ = some (.slice none 0 (capF 0 0)) ∧ V'.cell? ⟨b3, 0, none⟩ = some (.int .i64 6) ∧ V'.cell? ⟨b3, 1, none⟩ = some (.int .i64 2) ∧ V'.cell? ⟨b3, 2, none⟩ = some (.string a8B) ∧ V'.cell? ⟨b3, 3, none⟩ = some (.slice AL 1 (capF 1 1))))) 49 rfl (HSS.out _ hb_1.drew) (fun hSs => ?_)
  change wpAnyK _ _ _ _ _ _ 50 (Array.replicate 50 false) _ _
  refine wpAnyK_take (i := 0) (oi := ⟨some 14, _, _, _, _, _⟩) (v := .agg #[.int .i64 2, .int .i64 0, .string n0B, .slice A4 1 (capF 1 c4)]) rfl (by kernel_rfl) (by kernel_rfl) (by kernel_rfl) (by kernel_rfl) (fun _ _ _ h => h) (.inl ⟨by kernel_rfl, fun W hW => by first | (obtain ⟨z0, z1, z2, z3, z4, z5, z6, z7, z8, z9, z10, z11⟩ := hW; go_simp; done) | (obtain ⟨z0, z1, z2, z3, z4, z5, z6, z7, z8, z9, z10, z11⟩ := hW; go_simp; omega) | (obtain ⟨z0, z1, z2, z3, z4, z5, z6, z7, z8, z9, z10, z11⟩ := hW; go_simp; exact IntWalk.i64_in _ (by omega)) | (obtain ⟨z0, z1, z2, z3, z4, z5, z6, z7, z8, z9, z10, z11⟩ := hW; go_simp; simp [*]; done)⟩) hSs ?_
  try simp only [Act.put, List.setIfInBounds_toArray, List.set_cons_zero, List.set_cons_succ]
  refine wpAnyK_take (i := 1) (oi := ⟨some 15, _, _, _, _, _⟩) (v := .agg #[.int .i64 7, .int .i64 7, .string n0B, .slice none 0 (capF 0 0)]) rfl (by kernel_rfl) (by kernel_rfl) (by kernel_rfl) (by kernel_rfl) (fun _ _ _ h => h) (.inl ⟨by kernel_rfl, fun W hW => by first | (obtain ⟨z0, z1, z2, z3, z4, z5, z6, z7, z8, z9, z10, z11⟩ := hW; go_simp; done) | (obtain ⟨z0, z1, z2, z3, z4, z5, z6, z7, z8, z9, z10, z11⟩ := hW; go_simp; omega) | (obtain ⟨z0, z1, z2, z3, z4, z5, z6, z7, z8, z9, z10, z11⟩ := hW; go_simp; exact IntWalk.i64_in _ (by omega)) | (obtain ⟨z0, z1, z2, z3, z4, z5, z6, z7, z8, z9, z10, z11⟩ := hW; go_simp; simp [*]; done)⟩) hSs ?_
  try simp only [Act.put, List.setIfInBounds_toArray, List.set_cons_zero, List.set_cons_succ]
  refine wpAnyK_one (i := 2) rfl rfl (by kernel_rfl) (fun K hK => ?_)
  go_simp
  refine (HP1.out _ (hb_1.drew) A4 c4 (EIn.below _ ht8 (Below.refl _ _).drew (Nat.le_refl _)) none 0 (EIn.below _ hs7 (Below.refl _ _).drew (Nat.le_refl _))).mono ?_
  rintro e u_2 ⟨A_2, c_2, rfl, hT_2, hq_2⟩
  have hb_2 := (hb_1.drew).trans (hq_2.mono (hb_1.drew).size)
  have ht8_2 := EIn.below _ (EIn.below _ ht8 (Below.refl _ _).drew (Nat.le_refl _)) hq_2 (Nat.le_refl _)
  have hs7_2 := EIn.below _ (EIn.below _ hs7 (Below.refl _ _).drew (Nat.le_refl _)) hq_2 (Nat.le_refl _)
  have hal_2 := EIn.below _ (EIn.below _ hal (Below.refl _ _).drew (Nat.le_refl _)) hq_2 (Nat.le_refl _)
  clear ht8 hs7 hal
  refine hK.out _ _ (fun _ => HSS.out _ hb_2) (fun hS9 => ?_)
  have hS_2 := hS9 (by decide)
  clear hK K hS9
  try simp only [Act.put, List.setIfInBounds_toArray, List.set_cons_zero, List.set_cons_succ]
  refine wpAnyK_one (i := 3) rfl rfl (by kernel_rfl) (fun K hK => ?_)
  go_simp
  refine (HX0.out _ hb_2 A_2 c_2 hT_2).mono ?_
  rintro e u_3 ⟨rfl, hq_3⟩
  have hb_3 := hb_2.trans (hq_3.mono hb_2.size)
  have ht8_2_3 := EIn.below _ ht8_2 hq_3 (Nat.le_refl _)
  have hs7_2_3 := EIn.below _ hs7_2 hq_3 (Nat.le_refl _)
  have hal_2_3 := EIn.below _ hal_2 hq_3 (Nat.le_refl _)
  clear ht8_2 hs7_2 hal_2 hT_2
  refine hK.out _ _ (fun _ => HSS.out _ hb_3) (fun hS9 => ?_)
  have hS_3 := hS9 (by decide)
  clear hK K hS9
  try simp only [Act.put, List.setIfInBounds_toArray, List.set_cons_zero, List.set_cons_succ]
  refine wpAnyK_take (i := 4) (oi := ⟨some 18, _, _, _, _, _⟩) (v := .bool true) rfl (by kernel_rfl) (by kernel_rfl) (by kernel_rfl) (by kernel_rfl) (fun _ _ _ h => h) (.inl ⟨by kernel_rfl, fun W hW => by kernel_rfl⟩) hS_3 ?_
  try simp only [Act.put, List.setIfInBounds_toArray, List.set_cons_zero, List.set_cons_succ]
  refine wpAnyK_take (i := 5) (oi := ⟨some 19, _, _, _, _, _⟩) (v := .bool true) rfl (by kernel_rfl) (by kernel_rfl) (by kernel_rfl) (by kernel_rfl) (fun _ _ _ h => h) (.inl ⟨by kernel_rfl, fun W hW => by kernel_rfl⟩) hS_3 ?_
  try simp only [Act.put, List.setIfInBounds_toArray, List.set_cons_zero, List.set_cons_succ]
  refine wpAnyK_take (i := 6) (oi := ⟨some 20, _, _, _, _, _⟩) (v := .agg #[.int .i64 2, .int .i64 0, .string n0B, .slice A4 1 (capF 1 c4)]) rfl (by kernel_rfl) (by kernel_rfl) (by kernel_rfl) (by kernel_rfl) (fun _ _ _ h => h) (.inl ⟨by kernel_rfl, fun W hW => by first | (obtain ⟨z0, z1, z2, z3, z4, z5, z6, z7, z8, z9, z10, z11⟩ := hW; go_simp; done) | (obtain ⟨z0, z1, z2, z3, z4, z5, z6, z7, z8, z9, z10, z11⟩ := hW; go_simp; omega) | (obtain ⟨z0, z1, z2, z3, z4, z5, z6, z7, z8, z9, z10, z11⟩ := hW; go_simp; exact IntWalk.i64_in _ (by omega)) | (obtain ⟨z0, z1, z2, z3, z4, z5, z6, z7, z8, z9, z10, z11⟩ := hW; go_simp; simp [*]; done)⟩) hS_3 ?_
  try simp only [Act.put, List.setIfInBounds_toArray, List.set_cons_zero, List.set_cons_succ]
  refine wpAnyK_oneW (i := 7) rfl (by kernel_rfl) (by kernel_rfl) (fun K hK => ?_)
  go_simp
  refine (HV4.out _ hb_3).mono ?_
  rintro e u_4 ⟨A_4, c_4, rfl, hT_4, hq_4⟩
  have hb_4 := hb_3.trans (hq_4.mono hb_3.size)
  have ht8_2_3_4 := EIn.below _ ht8_2_3 hq_4 (Nat.le_refl _)
  have hs7_2_3_4 := EIn.below _ hs7_2_3 hq_4 (Nat.le_refl _)
  have hal_2_3_4 := EIn.below _ hal_2_3 hq_4 (Nat.le_refl _)
  clear ht8_2_3 hs7_2_3 hal_2_3
  refine hK.out _ _ (fun _ => HSS.out _ hb_4) (fun hS9 => ?_)
  have hS_4 := hS9 (by decide)
  clear hK K hS9
  try simp only [Act.put, List.setIfInBounds_toArray, List.set_cons_zero, List.set_cons_succ]
  refine wpAnyK_oneW (i := 8) rfl (by kernel_rfl) (by kernel_rfl) (fun K hK => ?_)
  go_simp
  refine (HP2.out _ hb_4 A4 c4 ht8_2_3_4 A_4 c_4 hT_4).mono ?_
  rintro e u_5 ⟨A_5, c_5, rfl, hT_5, hq_5⟩
  have hb_5 := hb_4.trans (hq_5.mono hb_4.size)
  have ht8_2_3_4_5 := EIn.below _ ht8_2_3_4 hq_5 (Nat.le_refl _)
  have hs7_2_3_4_5 := EIn.below _ hs7_2_3_4 hq_5 (Nat.le_refl _)
  have hal_2_3_4_5 := EIn.below _ hal_2_3_4 hq_5 (Nat.le_refl _)
  clear ht8_2_3_4 hs7_2_3_4 hal_2_3_4 hT_4
  refine hK.out _ _ (fun _ => HSS.out _ hb_5) (fun hS9 => ?_)
  have hS_5 := hS9 (by decide)
  clear hK K hS9
  try simp only [Act.put, List.setIfInBounds_toArray, List.set_cons_zero, List.set_cons_succ]
  refine wpAnyK_oneW (i := 9) rfl (by kernel_rfl) (by kernel_rfl) (fun K hK => ?_)
  go_simp
  refine (HX1.out _ hb_5 A_5 c_5 hT_5).mono ?_
  rintro e u_6 ⟨rfl, hq_6⟩
  have hb_6 := hb_5.trans (hq_6.mono hb_5.size)
  have ht8_2_3_4_5_6 := EIn.below _ ht8_2_3_4_5 hq_6 (Nat.le_refl _)
  have hs7_2_3_4_5_6 := EIn.below _ hs7_2_3_4_5 hq_6 (Nat.le_refl _)
  have hal_2_3_4_5_6 := EIn.below _ hal_2_3_4_5 hq_6 (Nat.le_refl _)
  clear ht8_2_3_4_5 hs7_2_3_4_5 hal_2_3_4_5 hT_5
  refine hK.out _ _ (fun _ => HSS.out _ hb_6) (fun hS9 => ?_)
  have hS_6 := hS9 (by decide)
  clear hK K hS9
  try simp only [Act.put, List.setIfInBounds_toArray, List.set_cons_zero, List.set_cons_succ]
  refine wpAnyK_take (i := 10) (oi := ⟨some 24, _, _, _, _, _⟩) (v := .bool true) rfl (by kernel_rfl) (by kernel_rfl) (by kernel_rfl) (by kernel_rfl) (fun _ _ _ h => h) (.inl ⟨by kernel_rfl, fun W hW => by kernel_rfl⟩) hS_6 ?_
  try simp only [Act.put, List.setIfInBounds_toArray, List.set_cons_zero, List.set_cons_succ]
  refine wpAnyK_take (i := 11) (oi := ⟨some 25, _, _, _, _, _⟩) (v := .bool true) rfl (by kernel_rfl) (by kernel_rfl) (by kernel_rfl) (by kernel_rfl) (fun _ _ _ h => h) (.inl ⟨by kernel_rfl, fun W hW => by kernel_rfl⟩) hS_6 ?_
  try simp only [Act.put, List.setIfInBounds_toArray, List.set_cons_zero, List.set_cons_succ]
  refine wpAnyK_take (i := 12) (oi := ⟨some 26, _, _, _, _, _⟩) (v := .bool true) rfl (by kernel_rfl) (by kernel_rfl) (by kernel_rfl) (by kernel_rfl) (fun _ _ _ h => h) (.inl ⟨by kernel_rfl, fun W hW => by kernel_rfl⟩) hS_6 ?_
  try simp only [Act.put, List.setIfInBounds_toArray, List.set_cons_zero, List.set_cons_succ]
  refine wpAnyK_take (i := 13) (oi := ⟨some 27, _, _, _, _, _⟩) (v := .agg #[.int .i64 2, .int .i64 0, .string n0B, .slice A4 1 (capF 1 c4)]) rfl (by kernel_rfl) (by kernel_rfl) (by kernel_rfl) (by kernel_rfl) (fun _ _ _ h => h) (.inl ⟨by kernel_rfl, fun W hW => by first | (obtain ⟨z0, z1, z2, z3, z4, z5, z6, z7, z8, z9, z10, z11⟩ := hW; go_simp; done) | (obtain ⟨z0, z1, z2, z3, z4, z5, z6, z7, z8, z9, z10, z11⟩ := hW; go_simp; omega) | (obtain ⟨z0, z1, z2, z3, z4, z5, z6, z7, z8, z9, z10, z11⟩ := hW; go_simp; exact IntWalk.i64_in _ (by omega)) | (obtain ⟨z0, z1, z2, z3, z4, z5, z6, z7, z8, z9, z10, z11⟩ := hW; go_simp; simp [*]; done)⟩) hS_6 ?_
  try simp only [Act.put, List.setIfInBounds_toArray, List.set_cons_zero, List.set_cons_succ]
  refine wpAnyK_oneW (i := 14) rfl (by kernel_rfl) (by kernel_rfl) (fun K hK => ?_)
  go_simp
  refine (HU1.out _ hb_6 A4 c4 ht8_2_3_4_5_6).mono ?_
  rintro e u_7 ⟨A_7, c_7, rfl, hT_7, hq_7⟩
  have hb_7 := hb_6.trans (hq_7.mono hb_6.size)
  have ht8_2_3_4_5_6_7 := EIn.below _ ht8_2_3_4_5_6 hq_7 (Nat.le_refl _)
  have hs7_2_3_4_5_6_7 := EIn.below _ hs7_2_3_4_5_6 hq_7 (Nat.le_refl _)
  have hal_2_3_4_5_6_7 := EIn.below _ hal_2_3_4_5_6 hq_7 (Nat.le_refl _)
  clear ht8_2_3_4_5_6 hs7_2_3_4_5_6 hal_2_3_4_5_6
  refine hK.out _ _ (fun _ => HSS.out _ hb_7) (fun hS9 => ?_)
  have hS_7 := hS9 (by decide)
  clear hK K hS9
  try simp only [Act.put, List.setIfInBounds_toArray, List.set_cons_zero, List.set_cons_succ]
  refine wpAnyK_oneW (i := 15) rfl (by kernel_rfl) (by kernel_rfl) (fun K hK => ?_)
  go_simp
  refine (HX2.out _ hb_7 A_7 c_7 hT_7).mono ?_
  rintro e u_8 ⟨rfl, hq_8⟩
  have hb_8 := hb_7.trans (hq_8.mono hb_7.size)
  have ht8_2_3_4_5_6_7_8 := EIn.below _ ht8_2_3_4_5_6_7 hq_8 (Nat.le_refl _)
  have hs7_2_3_4_5_6_7_8 := EIn.below _ hs7_2_3_4_5_6_7 hq_8 (Nat.le_refl _)
  have hal_2_3_4_5_6_7_8 := EIn.below _ hal_2_3_4_5_6_7 hq_8 (Nat.le_refl _)
  clear ht8_2_3_4_5_6_7 hs7_2_3_4_5_6_7 hal_2_3_4_5_6_7 hT_7
  refine hK.out _ _ (fun _ => HSS.out _ hb_8) (fun hS9 => ?_)
  have hS_8 := hS9 (by decide)
  clear hK K hS9
  try simp only [Act.put, List.setIfInBounds_toArray, List.set_cons_zero, List.set_cons_succ]
  refine wpAnyK_take (i := 16) (oi := ⟨some 30, _, _, _, _, _⟩) (v := .bool true) rfl (by kernel_rfl) (by kernel_rfl) (by kernel_rfl) (by kernel_rfl) (fun _ _ _ h => h) (.inl ⟨by kernel_rfl, fun W hW => by kernel_rfl⟩) hS_8 ?_
  try simp only [Act.put, List.setIfInBounds_toArray, List.set_cons_zero, List.set_cons_succ]
  refine wpAnyK_take (i := 17) (oi := ⟨some 31, _, _, _, _, _⟩) (v := .bool true) rfl (by kernel_rfl) (by kernel_rfl) (by kernel_rfl) (by kernel_rfl) (fun _ _ _ h => h) (.inl ⟨by kernel_rfl, fun W hW => by kernel_rfl⟩) hS_8 ?_
  try simp only [Act.put, List.setIfInBounds_toArray, List.set_cons_zero, List.set_cons_succ]
  refine wpAnyK_take (i := 18) (oi := ⟨some 32, _, _, _, _, _⟩) (v := .bool true) rfl (by kernel_rfl) (by kernel_rfl) (by kernel_rfl) (by kernel_rfl) (fun _ _ _ h => h) (.inl ⟨by kernel_rfl, fun W hW => by kernel_rfl⟩) hS_8 ?_
  try simp only [Act.put, List.setIfInBounds_toArray, List.set_cons_zero, List.set_cons_succ]
  refine wpAnyK_take (i := 19) (oi := ⟨some 33, _, _, _, _, _⟩) (v := .agg #[.int .i64 6, .int .i64 2, .string a8B, .slice AL 1 (capF 1 1)]) rfl (by kernel_rfl) (by kernel_rfl) (by kernel_rfl) (by kernel_rfl) (fun _ _ _ h => h) (.inl ⟨by kernel_rfl, fun W hW => by first | (obtain ⟨z0, z1, z2, z3, z4, z5, z6, z7, z8, z9, z10, z11⟩ := hW; go_simp; done) | (obtain ⟨z0, z1, z2, z3, z4, z5, z6, z7, z8, z9, z10, z11⟩ := hW; go_simp; omega) | (obtain ⟨z0, z1, z2, z3, z4, z5, z6, z7, z8, z9, z10, z11⟩ := hW; go_simp; exact IntWalk.i64_in _ (by omega)) | (obtain ⟨z0, z1, z2, z3, z4, z5, z6, z7, z8, z9, z10, z11⟩ := hW; go_simp; simp [*]; done)⟩) hS_8 ?_
  try simp only [Act.put, List.setIfInBounds_toArray, List.set_cons_zero, List.set_cons_succ]
  refine wpAnyK_oneW (i := 20) rfl (by kernel_rfl) (by kernel_rfl) (fun K hK => ?_)
  go_simp
  refine (HU2.out _ hb_8 AL 1 hal_2_3_4_5_6_7_8).mono ?_
  rintro e u_9 ⟨A_9, c_9, rfl, hT_9, hq_9⟩
  have hb_9 := hb_8.trans (hq_9.mono hb_8.size)
  have ht8_2_3_4_5_6_7_8_9 := EIn.below _ ht8_2_3_4_5_6_7_8 hq_9 (Nat.le_refl _)
  have hs7_2_3_4_5_6_7_8_9 := EIn.below _ hs7_2_3_4_5_6_7_8 hq_9 (Nat.le_refl _)
  have hal_2_3_4_5_6_7_8_9 := EIn.below _ hal_2_3_4_5_6_7_8 hq_9 (Nat.le_refl _)
  clear ht8_2_3_4_5_6_7_8 hs7_2_3_4_5_6_7_8 hal_2_3_4_5_6_7_8
  refine hK.out _ _ (fun _ => HSS.out _ hb_9) (fun hS9 => ?_)
  have hS_9 := hS9 (by decide)
  clear hK K hS9
  try simp only [Act.put, List.setIfInBounds_toArray, List.set_cons_zero, List.set_cons_succ]
  refine wpAnyK_oneW (i := 21) rfl (by kernel_rfl) (by kernel_rfl) (fun K hK => ?_)
  go_simp
  refine (HX3.out _ hb_9 A_9 c_9 hT_9).mono ?_
  rintro e u_10 ⟨rfl, hq_10⟩
  have hb_10 := hb_9.trans (hq_10.mono hb_9.size)
  have ht8_2_3_4_5_6_7_8_9_10 := EIn.below _ ht8_2_3_4_5_6_7_8_9 hq_10 (Nat.le_refl _)
  have hs7_2_3_4_5_6_7_8_9_10 := EIn.below _ hs7_2_3_4_5_6_7_8_9 hq_10 (Nat.le_refl _)
  have hal_2_3_4_5_6_7_8_9_10 := EIn.below _ hal_2_3_4_5_6_7_8_9 hq_10 (Nat.le_refl _)
  clear ht8_2_3_4_5_6_7_8_9 hs7_2_3_4_5_6_7_8_9 hal_2_3_4_5_6_7_8_9 hT_9
  refine hK.out _ _ (fun _ => HSS.out _ hb_10) (fun hS9 => ?_)
  have hS_10 := hS9 (by decide)
  clear hK K hS9
  try simp only [Act.put, List.setIfInBounds_toArray, List.set_cons_zero, List.set_cons_succ]
  refine wpAnyK_take (i := 22) (oi := ⟨some 36, _, _, _, _, _⟩) (v := .bool true) rfl (by kernel_rfl) (by kernel_rfl) (by kernel_rfl) (by kernel_rfl) (fun _ _ _ h => h) (.inl ⟨by kernel_rfl, fun W hW => by kernel_rfl⟩) hS_10 ?_
  try simp only [Act.put, List.setIfInBounds_toArray, List.set_cons_zero, List.set_cons_succ]
  refine wpAnyK_take (i := 23) (oi := ⟨some 37, _, _, _, _, _⟩) (v := .bool true) rfl (by kernel_rfl) (by kernel_rfl) (by kernel_rfl) (by kernel_rfl) (fun _ _ _ h => h) (.inl ⟨by kernel_rfl, fun W hW => by kernel_rfl⟩) hS_10 ?_
  try simp only [Act.put, List.setIfInBounds_toArray, List.set_cons_zero, List.set_cons_succ]
  refine wpAnyK_take (i := 24) (oi := ⟨some 38, _, _, _, _, _⟩) (v := .bool true) rfl (by kernel_rfl) (by kernel_rfl) (by kernel_rfl) (by kernel_rfl) (fun _ _ _ h => h) (.inl ⟨by kernel_rfl, fun W hW => by kernel_rfl⟩) hS_10 ?_
  try simp only [Act.put, List.setIfInBounds_toArray, List.set_cons_zero, List.set_cons_succ]
  refine wpAnyK_take (i := 25) (oi := ⟨some 39, _, _, _, _, _⟩) (v := .agg #[.int .i64 2, .int .i64 0, .string n0B, .slice A4 1 (capF 1 c4)]) rfl (by kernel_rfl) (by kernel_rfl) (by kernel_rfl) (by kernel_rfl) (fun _ _ _ h => h) (.inl ⟨by kernel_rfl, fun W hW => by first | (obtain ⟨z0, z1, z2, z3, z4, z5, z6, z7, z8, z9, z10, z11⟩ := hW; go_simp; done) | (obtain ⟨z0, z1, z2, z3, z4, z5, z6, z7, z8, z9, z10, z11⟩ := hW; go_simp; omega) | (obtain ⟨z0, z1, z2, z3, z4, z5, z6, z7, z8, z9, z10, z11⟩ := hW; go_simp; exact IntWalk.i64_in _ (by omega)) | (obtain ⟨z0, z1, z2, z3, z4, z5, z6, z7, z8, z9, z10, z11⟩ := hW; go_simp; simp [*]; done)⟩) hS_10 ?_
  try simp only [Act.put, List.setIfInBounds_toArray, List.set_cons_zero, List.set_cons_succ]
  refine wpAnyK_oneW (i := 26) rfl (by kernel_rfl) (by kernel_rfl) (fun K hK => ?_)
  go_simp
  refine (HS1.out _ hb_10 A4 c4 ht8_2_3_4_5_6_7_8_9_10).mono ?_
  rintro e u_11 ⟨rfl, hq_11⟩
  have hb_11 := hb_10.trans (hq_11.mono hb_10.size)
  have ht8_2_3_4_5_6_7_8_9_10_11 := EIn.below _ ht8_2_3_4_5_6_7_8_9_10 hq_11 (Nat.le_refl _)
  have hs7_2_3_4_5_6_7_8_9_10_11 := EIn.below _ hs7_2_3_4_5_6_7_8_9_10 hq_11 (Nat.le_refl _)
  have hal_2_3_4_5_6_7_8_9_10_11 := EIn.below _ hal_2_3_4_5_6_7_8_9_10 hq_11 (Nat.le_refl _)
  clear ht8_2_3_4_5_6_7_8_9_10 hs7_2_3_4_5_6_7_8_9_10 hal_2_3_4_5_6_7_8_9_10
  refine hK.out _ _ (fun _ => HSS.out _ hb_11) (fun hS9 => ?_)
  have hS_11 := hS9 (by decide)
  clear hK K hS9
  try simp only [Act.put, List.setIfInBounds_toArray, List.set_cons_zero, List.set_cons_succ]
  refine wpAnyK_take (i := 27) (oi := ⟨some 41, _, _, _, _, _⟩) (v := .bool true) rfl (by kernel_rfl) (by kernel_rfl) (by kernel_rfl) (by kernel_rfl) (fun _ _ _ h => h) (.inl ⟨by kernel_rfl, fun W hW => by kernel_rfl⟩) hS_11 ?_
  try simp only [Act.put, List.setIfInBounds_toArray, List.set_cons_zero, List.set_cons_succ]
  refine wpAnyK_take (i := 28) (oi := ⟨some 42, _, _, _, _, _⟩) (v := .bool true) rfl (by kernel_rfl) (by kernel_rfl) (by kernel_rfl) (by kernel_rfl) (fun _ _ _ h => h) (.inl ⟨by kernel_rfl, fun W hW => by kernel_rfl⟩) hS_11 ?_
  try simp only [Act.put, List.setIfInBounds_toArray, List.set_cons_zero, List.set_cons_succ]
  refine wpAnyK_take (i := 29) (oi := ⟨some 43, _, _, _, _, _⟩) (v := .bool true) rfl (by kernel_rfl) (by kernel_rfl) (by kernel_rfl) (by kernel_rfl) (fun _ _ _ h => h) (.inl ⟨by kernel_rfl, fun W hW => by kernel_rfl⟩) hS_11 ?_
  try simp only [Act.put, List.setIfInBounds_toArray, List.set_cons_zero, List.set_cons_succ]
  refine wpAnyK_take (i := 30) (oi := ⟨some 44, _, _, _, _, _⟩) (v := .agg #[.int .i64 2, .int .i64 0, .string n0B, .slice A4 1 (capF 1 c4)]) rfl (by kernel_rfl) (by kernel_rfl) (by kernel_rfl) (by kernel_rfl) (fun _ _ _ h => h) (.inl ⟨by kernel_rfl, fun W hW => by first | (obtain ⟨z0, z1, z2, z3, z4, z5, z6, z7, z8, z9, z10, z11⟩ := hW; go_simp; done) | (obtain ⟨z0, z1, z2, z3, z4, z5, z6, z7, z8, z9, z10, z11⟩ := hW; go_simp; omega) | (obtain ⟨z0, z1, z2, z3, z4, z5, z6, z7, z8, z9, z10, z11⟩ := hW; go_simp; exact IntWalk.i64_in _ (by omega)) | (obtain ⟨z0, z1, z2, z3, z4, z5, z6, z7, z8, z9, z10, z11⟩ := hW; go_simp; simp [*]; done)⟩) hS_11 ?_
  try simp only [Act.put, List.setIfInBounds_toArray, List.set_cons_zero, List.set_cons_succ]
  refine wpAnyK_oneW (i := 31) rfl (by kernel_rfl) (by kernel_rfl) (fun K hK => ?_)
  go_simp
  refine (HV0.out _ hb_11).mono ?_
  rintro e u_12 ⟨A_12, c_12, rfl, hT_12, hq_12⟩
  have hb_12 := hb_11.trans (hq_12.mono hb_11.size)
  have ht8_2_3_4_5_6_7_8_9_10_11_12 := EIn.below _ ht8_2_3_4_5_6_7_8_9_10_11 hq_12 (Nat.le_refl _)
  have hs7_2_3_4_5_6_7_8_9_10_11_12 := EIn.below _ hs7_2_3_4_5_6_7_8_9_10_11 hq_12 (Nat.le_refl _)
  have hal_2_3_4_5_6_7_8_9_10_11_12 := EIn.below _ hal_2_3_4_5_6_7_8_9_10_11 hq_12 (Nat.le_refl _)
  clear ht8_2_3_4_5_6_7_8_9_10_11 hs7_2_3_4_5_6_7_8_9_10_11 hal_2_3_4_5_6_7_8_9_10_11
  refine hK.out _ _ (fun _ => HSS.out _ hb_12) (fun hS9 => ?_)
  have hS_12 := hS9 (by decide)
  clear hK K hS9
  try simp only [Act.put, List.setIfInBounds_toArray, List.set_cons_zero, List.set_cons_succ]
  refine wpAnyK_oneW (i := 32) rfl (by kernel_rfl) (by kernel_rfl) (fun K hK => ?_)
  go_simp
  refine (HA1.out _ hb_12 A4 c4 ht8_2_3_4_5_6_7_8_9_10_11_12 A_12 c_12 hT_12).mono ?_
  rintro e u_13 ⟨A_13, c_13, rfl, hT_13, hq_13⟩
  have hb_13 := hb_12.trans (hq_13.mono hb_12.size)
  have ht8_2_3_4_5_6_7_8_9_10_11_12_13 := EIn.below _ ht8_2_3_4_5_6_7_8_9_10_11_12 hq_13 (Nat.le_refl _)
  have hs7_2_3_4_5_6_7_8_9_10_11_12_13 := EIn.below _ hs7_2_3_4_5_6_7_8_9_10_11_12 hq_13 (Nat.le_refl _)
  have hal_2_3_4_5_6_7_8_9_10_11_12_13 := EIn.below _ hal_2_3_4_5_6_7_8_9_10_11_12 hq_13 (Nat.le_refl _)
  clear ht8_2_3_4_5_6_7_8_9_10_11_12 hs7_2_3_4_5_6_7_8_9_10_11_12 hal_2_3_4_5_6_7_8_9_10_11_12 hT_12
  refine hK.out _ _ (fun _ => HSS.out _ hb_13) (fun hS9 => ?_)
  have hS_13 := hS9 (by decide)
  clear hK K hS9
  try simp only [Act.put, List.setIfInBounds_toArray, List.set_cons_zero, List.set_cons_succ]
  refine wpAnyK_oneW (i := 33) rfl (by kernel_rfl) (by kernel_rfl) (fun K hK => ?_)
  go_simp
  refine (HS2.out _ hb_13 A_13 c_13 hT_13).mono ?_
  rintro e u_14 ⟨rfl, hq_14⟩
  have hb_14 := hb_13.trans (hq_14.mono hb_13.size)
  have ht8_2_3_4_5_6_7_8_9_10_11_12_13_14 := EIn.below _ ht8_2_3_4_5_6_7_8_9_10_11_12_13 hq_14 (Nat.le_refl _)
  have hs7_2_3_4_5_6_7_8_9_10_11_12_13_14 := EIn.below _ hs7_2_3_4_5_6_7_8_9_10_11_12_13 hq_14 (Nat.le_refl _)
  have hal_2_3_4_5_6_7_8_9_10_11_12_13_14 := EIn.below _ hal_2_3_4_5_6_7_8_9_10_11_12_13 hq_14 (Nat.le_refl _)
  clear ht8_2_3_4_5_6_7_8_9_10_11_12_13 hs7_2_3_4_5_6_7_8_9_10_11_12_13 hal_2_3_4_5_6_7_8_9_10_11_12_13 hT_13
  refine hK.out _ _ (fun _ => HSS.out _ hb_14) (fun hS9 => ?_)
  have hS_14 := hS9 (by decide)
  clear hK K hS9
  try simp only [Act.put, List.setIfInBounds_toArray, List.set_cons_zero, List.set_cons_succ]
  refine wpAnyK_take (i := 34) (oi := ⟨some 48, _, _, _, _, _⟩) (v := .bool true) rfl (by kernel_rfl) (by kernel_rfl) (by kernel_rfl) (by kernel_rfl) (fun _ _ _ h => h) (.inl ⟨by kernel_rfl, fun W hW => by kernel_rfl⟩) hS_14 ?_
  try simp only [Act.put, List.setIfInBounds_toArray, List.set_cons_zero, List.set_cons_succ]
  refine wpAnyK_take (i := 35) (oi := ⟨some 49, _, _, _, _, _⟩) (v := .bool true) rfl (by kernel_rfl) (by kernel_rfl) (by kernel_rfl) (by kernel_rfl) (fun _ _ _ h => h) (.inl ⟨by kernel_rfl, fun W hW => by kernel_rfl⟩) hS_14 ?_
  try simp only [Act.put, List.setIfInBounds_toArray, List.set_cons_zero, List.set_cons_succ]
  refine wpAnyK_take (i := 36) (oi := ⟨some 50, _, _, _, _, _⟩) (v := .bool true) rfl (by kernel_rfl) (by kernel_rfl) (by kernel_rfl) (by kernel_rfl) (fun _ _ _ h => h) (.inl ⟨by kernel_rfl, fun W hW => by kernel_rfl⟩) hS_14 ?_
  try simp only [Act.put, List.setIfInBounds_toArray, List.set_cons_zero, List.set_cons_succ]
  refine wpAnyK_take (i := 42) (oi := ⟨some 56, _, _, _, _, _⟩) (v := .agg #[.int .i64 7, .int .i64 7, .string n0B, .slice none 0 (capF 0 0)]) rfl (by kernel_rfl) (by kernel_rfl) (by kernel_rfl) (by kernel_rfl) (fun _ _ _ h => h) (.inl ⟨by kernel_rfl, fun W hW => by first | (obtain ⟨z0, z1, z2, z3, z4, z5, z6, z7, z8, z9, z10, z11⟩ := hW; go_simp; done) | (obtain ⟨z0, z1, z2, z3, z4, z5, z6, z7, z8, z9, z10, z11⟩ := hW; go_simp; omega) | (obtain ⟨z0, z1, z2, z3, z4, z5, z6, z7, z8, z9, z10, z11⟩ := hW; go_simp; exact IntWalk.i64_in _ (by omega)) | (obtain ⟨z0, z1, z2, z3, z4, z5, z6, z7, z8, z9, z10, z11⟩ := hW; go_simp; simp [*]; done)⟩) hS_14 ?_
  try simp only [Act.put, List.setIfInBounds_toArray, List.set_cons_zero, List.set_cons_succ]
  refine wpAnyK_take (i := 43) (oi := ⟨some 57, _, _, _, _, _⟩) (v := .agg #[.int .i64 2, .int .i64 0, .string n0B, .slice A4 1 (capF 1 c4)]) rfl (by kernel_rfl) (by kernel_rfl) (by kernel_rfl) (by kernel_rfl) (fun _ _ _ h => h) (.inl ⟨by kernel_rfl, fun W hW => by first | (obtain ⟨z0, z1, z2, z3, z4, z5, z6, z7, z8, z9, z10, z11⟩ := hW; go_simp; done) | (obtain ⟨z0, z1, z2, z3, z4, z5, z6, z7, z8, z9, z10, z11⟩ := hW; go_simp; omega) | (obtain ⟨z0, z1, z2, z3, z4, z5, z6, z7, z8, z9, z10, z11⟩ := hW; go_simp; exact IntWalk.i64_in _ (by omega)) | (obtain ⟨z0, z1, z2, z3, z4, z5, z6, z7, z8, z9, z10, z11⟩ := hW; go_simp; simp [*]; done)⟩) hS_14 ?_
  try simp only [Act.put, List.setIfInBounds_toArray, List.set_cons_zero, List.set_cons_succ]
  refine wpAnyK_bothW (i := 37) (j := 44) rfl rfl (by kernel_rfl) (by kernel_rfl) (by kernel_rfl) (fun K hK => ?_) (fun K hK => ?_)
  · go_simp
    refine (HV0.out _ hb_14).mono ?_
    rintro e u_15 ⟨A_15, c_15, rfl, hT_15, hq_15⟩
    have hb_15 := hb_14.trans (hq_15.mono hb_14.size)
    have ht8_2_3_4_5_6_7_8_9_10_11_12_13_14_15 := EIn.below _ ht8_2_3_4_5_6_7_8_9_10_11_12_13_14 hq_15 (Nat.le_refl _)
    have hs7_2_3_4_5_6_7_8_9_10_11_12_13_14_15 := EIn.below _ hs7_2_3_4_5_6_7_8_9_10_11_12_13_14 hq_15 (Nat.le_refl _)
    have hal_2_3_4_5_6_7_8_9_10_11_12_13_14_15 := EIn.below _ hal_2_3_4_5_6_7_8_9_10_11_12_13_14 hq_15 (Nat.le_refl _)
    clear ht8_2_3_4_5_6_7_8_9_10_11_12_13_14 hs7_2_3_4_5_6_7_8_9_10_11_12_13_14 hal_2_3_4_5_6_7_8_9_10_11_12_13_14
    refine hK.out _ _ (fun _ => HSS.out _ hb_15) (fun hS9 => ?_)
    have hS_15 := hS9 (by decide)
    clear hK K hS9
    try simp only [Act.put, List.setIfInBounds_toArray, List.set_cons_zero, List.set_cons_succ]
    refine wpAnyK_bothW (i := 38) (j := 44) rfl rfl (by kernel_rfl) (by kernel_rfl) (by kernel_rfl) (fun K hK => ?_) (fun K hK => ?_)
    · go_simp
      refine (HV1.out _ hb_15).mono ?_
      rintro e u_16 ⟨A_16, c_16, rfl, hT_16, hq_16⟩
      have hb_16 := hb_15.trans (hq_16.mono hb_15.size)
      have ht8_2_3_4_5_6_7_8_9_10_11_12_13_14_15_16 := EIn.below _ ht8_2_3_4_5_6_7_8_9_10_11_12_13_14_15 hq_16 (Nat.le_refl _)
      have hs7_2_3_4_5_6_7_8_9_10_11_12_13_14_15_16 := EIn.below _ hs7_2_3_4_5_6_7_8_9_10_11_12_13_14_15 hq_16 (Nat.le_refl _)
      have hal_2_3_4_5_6_7_8_9_10_11_12_13_14_15_16 := EIn.below _ hal_2_3_4_5_6_7_8_9_10_11_12_13_14_15 hq_16 (Nat.le_refl _)
      have hT_15_16 := EIn.below _ hT_15 hq_16 (Nat.le_refl _)
      clear ht8_2_3_4_5_6_7_8_9_10_11_12_13_14_15 hs7_2_3_4_5_6_7_8_9_10_11_12_13_14_15 hal_2_3_4_5_6_7_8_9_10_11_12_13_14_15 hT_15
      refine hK.out _ _ (fun _ => HSS.out _ hb_16) (fun hS9 => ?_)
      have hS_16 := hS9 (by decide)
      clear hK K hS9
      try simp only [Act.put, List.setIfInBounds_toArray, List.set_cons_zero, List.set_cons_succ]
      refine wpAnyK_bothW (i := 39) (j := 44) rfl rfl (by kernel_rfl) (by kernel_rfl) (by kernel_rfl) (fun K hK => ?_) (fun K hK => ?_)
      · go_simp
        refine (HA2.out _ hb_16 A_15 c_15 hT_15_16 A_16 c_16 hT_16).mono ?_
        rintro e u_17 ⟨A_17, c_17, rfl, hT_17, hq_17⟩
        have hb_17 := hb_16.trans (hq_17.mono hb_16.size)
        have ht8_2_3_4_5_6_7_8_9_10_11_12_13_14_15_16_17 := EIn.below _ ht8_2_3_4_5_6_7_8_9_10_11_12_13_14_15_16 hq_17 (Nat.le_refl _)
        have hs7_2_3_4_5_6_7_8_9_10_11_12_13_14_15_16_17 := EIn.below _ hs7_2_3_4_5_6_7_8_9_10_11_12_13_14_15_16 hq_17 (Nat.le_refl _)
        have hal_2_3_4_5_6_7_8_9_10_11_12_13_14_15_16_17 := EIn.below _ hal_2_3_4_5_6_7_8_9_10_11_12_13_14_15_16 hq_17 (Nat.le_refl _)
        clear ht8_2_3_4_5_6_7_8_9_10_11_12_13_14_15_16 hs7_2_3_4_5_6_7_8_9_10_11_12_13_14_15_16 hal_2_3_4_5_6_7_8_9_10_11_12_13_14_15_16 hT_15_16 hT_16
        refine hK.out _ _ (fun _ => HSS.out _ hb_17) (fun hS9 => ?_)
        have hS_17 := hS9 (by decide)
        clear hK K hS9
        try simp only [Act.put, List.setIfInBounds_toArray, List.set_cons_zero, List.set_cons_succ]
        refine wpAnyK_bothW (i := 40) (j := 44) rfl rfl (by kernel_rfl) (by kernel_rfl) (by kernel_rfl) (fun K hK => ?_) (fun K hK => ?_)
        · go_simp
          refine (HV2.out _ hb_17).mono ?_
          rintro e u_18 ⟨A_18, c_18, rfl, hT_18, hq_18⟩
          have hb_18 := hb_17.trans (hq_18.mono hb_17.size)
          have ht8_2_3_4_5_6_7_8_9_10_11_12_13_14_15_16_17_18 := EIn.below _ ht8_2_3_4_5_6_7_8_9_10_11_12_13_14_15_16_17 hq_18 (Nat.le_refl _)
          have hs7_2_3_4_5_6_7_8_9_10_11_12_13_14_15_16_17_18 := EIn.below _ hs7_2_3_4_5_6_7_8_9_10_11_12_13_14_15_16_17 hq_18 (Nat.le_refl _)
          have hal_2_3_4_5_6_7_8_9_10_11_12_13_14_15_16_17_18 := EIn.below _ hal_2_3_4_5_6_7_8_9_10_11_12_13_14_15_16_17 hq_18 (Nat.le_refl _)
          have hT_17_18 := EIn.below _ hT_17 hq_18 (Nat.le_refl _)
          clear ht8_2_3_4_5_6_7_8_9_10_11_12_13_14_15_16_17 hs7_2_3_4_5_6_7_8_9_10_11_12_13_14_15_16_17 hal_2_3_4_5_6_7_8_9_10_11_12_13_14_15_16_17 hT_17
          refine hK.out _ _ (fun _ => HSS.out _ hb_18) (fun hS9 => ?_)
          have hS_18 := hS9 (by decide)
          clear hK K hS9
          try simp only [Act.put, List.setIfInBounds_toArray, List.set_cons_zero, List.set_cons_succ]
          refine wpAnyK_bothW (i := 41) (j := 44) rfl rfl (by kernel_rfl) (by kernel_rfl) (by kernel_rfl) (fun K hK => ?_) (fun K hK => ?_)
          · go_simp
            refine (HA3.out _ hb_18 A_17 c_17 hT_17_18 A_18 c_18 hT_18).mono ?_
            rintro e u_19 ⟨A_19, c_19, rfl, hT_19, hq_19⟩
            have hb_19 := hb_18.trans (hq_19.mono hb_18.size)
            have ht8_2_3_4_5_6_7_8_9_10_11_12_13_14_15_16_17_18_19 := EIn.below _ ht8_2_3_4_5_6_7_8_9_10_11_12_13_14_15_16_17_18 hq_19 (Nat.le_refl _)
            have hs7_2_3_4_5_6_7_8_9_10_11_12_13_14_15_16_17_18_19 := EIn.below _ hs7_2_3_4_5_6_7_8_9_10_11_12_13_14_15_16_17_18 hq_19 (Nat.le_refl _)
            have hal_2_3_4_5_6_7_8_9_10_11_12_13_14_15_16_17_18_19 := EIn.below _ hal_2_3_4_5_6_7_8_9_10_11_12_13_14_15_16_17_18 hq_19 (Nat.le_refl _)
            clear ht8_2_3_4_5_6_7_8_9_10_11_12_13_14_15_16_17_18 hs7_2_3_4_5_6_7_8_9_10_11_12_13_14_15_16_17_18 hal_2_3_4_5_6_7_8_9_10_11_12_13_14_15_16_17_18 hT_17_18 hT_18
            refine hK.out _ _ (fun _ => HSS.out _ hb_19) (fun hS9 => ?_)
            have hS_19 := hS9 (by decide)
            clear hK K hS9
            try simp only [Act.put, List.setIfInBounds_toArray, List.set_cons_zero, List.set_cons_succ]
            refine wpAnyK_oneW (i := 44) rfl (by kernel_rfl) (by kernel_rfl) (fun K hK => ?_)
            go_simp
            have hb_20 := Below.alloc hb_19 hb_19.size (.cells #[.int .i64 7, .int .i64 7, .string n0B, .slice none 0 (capF 0 0), .int .i64 2, .int .i64 0, .string n0B, .slice A4 1 (capF 1 c4)] 24)
            have hl_20 : Lies (u_19.alloc (.cells #[.int .i64 7, .int .i64 7, .string n0B, .slice none 0 (capF 0 0), .int .i64 2, .int .i64 0, .string n0B, .slice A4 1 (capF 1 c4)] 24)) (u_19.heap.size) 24 #[.int .i64 7, .int .i64 7, .string n0B, .slice none 0 (capF 0 0), .int .i64 2, .int .i64 0, .string n0B, .slice A4 1 (capF 1 c4)] := Lies.new _ _ _
            refine hK.out _ _ (fun _ => HSS.out _ hb_20) (fun hS9 => ?_)
            have hS_20 := hS9 (by decide)
            clear hK K hS9
            try simp only [Act.put, List.setIfInBounds_toArray, List.set_cons_zero, List.set_cons_succ]
            have ht8_2_3_4_5_6_7_8_9_10_11_12_13_14_15_16_17_18_19_20 := EIn.below (w' := (u_19.alloc (.cells #[.int .i64 7, .int .i64 7, .string n0B, .slice none 0 (capF 0 0), .int .i64 2, .int .i64 0, .string n0B, .slice A4 1 (capF 1 c4)] 24))) _ ht8_2_3_4_5_6_7_8_9_10_11_12_13_14_15_16_17_18_19 ((Below.refl _ _).alloc (Nat.le_refl _) _) (Nat.le_refl _)
            have hs7_2_3_4_5_6_7_8_9_10_11_12_13_14_15_16_17_18_19_20 := EIn.below (w' := (u_19.alloc (.cells #[.int .i64 7, .int .i64 7, .string n0B, .slice none 0 (capF 0 0), .int .i64 2, .int .i64 0, .string n0B, .slice A4 1 (capF 1 c4)] 24))) _ hs7_2_3_4_5_6_7_8_9_10_11_12_13_14_15_16_17_18_19 ((Below.refl _ _).alloc (Nat.le_refl _) _) (Nat.le_refl _)
            have hal_2_3_4_5_6_7_8_9_10_11_12_13_14_15_16_17_18_19_20 := EIn.below (w' := (u_19.alloc (.cells #[.int .i64 7, .int .i64 7, .string n0B, .slice none 0 (capF 0 0), .int .i64 2, .int .i64 0, .string n0B, .slice A4 1 (capF 1 c4)] 24))) _ hal_2_3_4_5_6_7_8_9_10_11_12_13_14_15_16_17_18_19 ((Below.refl _ _).alloc (Nat.le_refl _) _) (Nat.le_refl _)
            have hT_19_20 := EIn.below (w' := (u_19.alloc (.cells #[.int .i64 7, .int .i64 7, .string n0B, .slice none 0 (capF 0 0), .int .i64 2, .int .i64 0, .string n0B, .slice A4 1 (capF 1 c4)] 24))) _ hT_19 ((Below.refl _ _).alloc (Nat.le_refl _) _) (Nat.le_refl _)
            refine wpAnyK_oneW (i := 45) rfl (by kernel_rfl) (by kernel_rfl) (fun K hK => ?_)
            go_simp
            refine (HIN.out _ hb_20 A_19 c_19 hT_19_20 u_19.heap.size (ein_lies2 (c := 0) (d := c4) (t := s7T) (u := t8T) hl_20 trivial hs7_2_3_4_5_6_7_8_9_10_11_12_13_14_15_16_17_18_19_20 ht8_2_3_4_5_6_7_8_9_10_11_12_13_14_15_16_17_18_19_20)).mono ?_
            rintro e u_21 ⟨A_21, c_21, rfl, hT_21, hq_21⟩
            have hb_21 := hb_20.trans (hq_21.mono hb_20.size)
            have hl_20_21 := hl_20.below hq_21 hl_20.lt
            have ht8_2_3_4_5_6_7_8_9_10_11_12_13_14_15_16_17_18_19_20_21 := EIn.below _ ht8_2_3_4_5_6_7_8_9_10_11_12_13_14_15_16_17_18_19_20 hq_21 (Nat.le_refl _)
            have hs7_2_3_4_5_6_7_8_9_10_11_12_13_14_15_16_17_18_19_20_21 := EIn.below _ hs7_2_3_4_5_6_7_8_9_10_11_12_13_14_15_16_17_18_19_20 hq_21 (Nat.le_refl _)
            have hal_2_3_4_5_6_7_8_9_10_11_12_13_14_15_16_17_18_19_20_21 := EIn.below _ hal_2_3_4_5_6_7_8_9_10_11_12_13_14_15_16_17_18_19_20 hq_21 (Nat.le_refl _)
            clear ht8_2_3_4_5_6_7_8_9_10_11_12_13_14_15_16_17_18_19_20 hs7_2_3_4_5_6_7_8_9_10_11_12_13_14_15_16_17_18_19_20 hal_2_3_4_5_6_7_8_9_10_11_12_13_14_15_16_17_18_19_20 hT_19_20
            refine hK.out _ _ (fun _ => HSS.out _ hb_21) (fun hS9 => ?_)
            have hS_21 := hS9 (by decide)
            clear hK K hS9
            try simp only [Act.put, List.setIfInBounds_toArray, List.set_cons_zero, List.set_cons_succ]
            refine wpAnyK_oneW (i := 46) rfl (by kernel_rfl) (by kernel_rfl) (fun K hK => ?_)
            go_simp
            refine (HX4.out _ hb_21 A_21 c_21 hT_21).mono ?_
            rintro e u_22 ⟨rfl, hq_22⟩
            have hb_22 := hb_21.trans (hq_22.mono hb_21.size)
            have hl_20_21_22 := hl_20_21.below hq_22 hl_20_21.lt
            have ht8_2_3_4_5_6_7_8_9_10_11_12_13_14_15_16_17_18_19_20_21_22 := EIn.below _ ht8_2_3_4_5_6_7_8_9_10_11_12_13_14_15_16_17_18_19_20_21 hq_22 (Nat.le_refl _)
            have hs7_2_3_4_5_6_7_8_9_10_11_12_13_14_15_16_17_18_19_20_21_22 := EIn.below _ hs7_2_3_4_5_6_7_8_9_10_11_12_13_14_15_16_17_18_19_20_21 hq_22 (Nat.le_refl _)
            have hal_2_3_4_5_6_7_8_9_10_11_12_13_14_15_16_17_18_19_20_21_22 := EIn.below _ hal_2_3_4_5_6_7_8_9_10_11_12_13_14_15_16_17_18_19_20_21 hq_22 (Nat.le_refl _)
            clear ht8_2_3_4_5_6_7_8_9_10_11_12_13_14_15_16_17_18_19_20_21 hs7_2_3_4_5_6_7_8_9_10_11_12_13_14_15_16_17_18_19_20_21 hal_2_3_4_5_6_7_8_9_10_11_12_13_14_15_16_17_18_19_20_21 hT_21
            refine hK.out _ _ (fun _ => HSS.out _ hb_22) (fun hS9 => ?_)
            have hS_22 := hS9 (by decide)
            clear hK K hS9
            try simp only [Act.put, List.setIfInBounds_toArray, List.set_cons_zero, List.set_cons_succ]
            refine wpAnyK_take (i := 47) (oi := ⟨some 61, _, _, _, _, _⟩) (v := .bool true) rfl (by kernel_rfl) (by kernel_rfl) (by kernel_rfl) (by kernel_rfl) (fun _ _ _ h => h) (.inl ⟨by kernel_rfl, fun W hW => by kernel_rfl⟩) hS_22 ?_
            try simp only [Act.put, List.setIfInBounds_toArray, List.set_cons_zero, List.set_cons_succ]
            refine wpAnyK_take (i := 48) (oi := ⟨some 62, _, _, _, _, _⟩) (v := .bool true) rfl (by kernel_rfl) (by kernel_rfl) (by kernel_rfl) (by kernel_rfl) (fun _ _ _ h => h) (.inl ⟨by kernel_rfl, fun W hW => by kernel_rfl⟩) hS_22 ?_
            try simp only [Act.put, List.setIfInBounds_toArray, List.set_cons_zero, List.set_cons_succ]
            refine wpAnyK_one (i := 49) rfl rfl (by kernel_rfl) (fun K hK => ?_)
            go_simp
            refine hK.out _ _ (fun h => absurd rfl h) (fun _ => ?_)
            clear hK K
            try simp only [Act.put, List.setIfInBounds_toArray, List.set_cons_zero, List.set_cons_succ]
            refine wpAnyK_done (by kernel_rfl) ?_ _
            go_wp2_with fail
            go_ret
            exact ⟨rfl, HB.out.trans (hb_22.mono HB.out.size)⟩
          · go_simp
            have hb_24 := Below.alloc hb_18 hb_18.size (.cells #[.int .i64 7, .int .i64 7, .string n0B, .slice none 0 (capF 0 0), .int .i64 2, .int .i64 0, .string n0B, .slice A4 1 (capF 1 c4)] 24)
            have hl_24 : Lies (u_18.alloc (.cells #[.int .i64 7, .int .i64 7, .string n0B, .slice none 0 (capF 0 0), .int .i64 2, .int .i64 0, .string n0B, .slice A4 1 (capF 1 c4)] 24)) (u_18.heap.size) 24 #[.int .i64 7, .int .i64 7, .string n0B, .slice none 0 (capF 0 0), .int .i64 2, .int .i64 0, .string n0B, .slice A4 1 (capF 1 c4)] := Lies.new _ _ _
            refine hK.out _ _ (fun _ => HSS.out _ hb_24) (fun hS9 => ?_)
            have hS_24 := hS9 (by decide)
            clear hK K hS9
            try simp only [Act.put, List.setIfInBounds_toArray, List.set_cons_zero, List.set_cons_succ]
            have ht8_2_3_4_5_6_7_8_9_10_11_12_13_14_15_16_17_18_24 := EIn.below (w' := (u_18.alloc (.cells #[.int .i64 7, .int .i64 7, .string n0B, .slice none 0 (capF 0 0), .int .i64 2, .int .i64 0, .string n0B, .slice A4 1 (capF 1 c4)] 24))) _ ht8_2_3_4_5_6_7_8_9_10_11_12_13_14_15_16_17_18 ((Below.refl _ _).alloc (Nat.le_refl _) _) (Nat.le_refl _)
            have hs7_2_3_4_5_6_7_8_9_10_11_12_13_14_15_16_17_18_24 := EIn.below (w' := (u_18.alloc (.cells #[.int .i64 7, .int .i64 7, .string n0B, .slice none 0 (capF 0 0), .int .i64 2, .int .i64 0, .string n0B, .slice A4 1 (capF 1 c4)] 24))) _ hs7_2_3_4_5_6_7_8_9_10_11_12_13_14_15_16_17_18 ((Below.refl _ _).alloc (Nat.le_refl _) _) (Nat.le_refl _)
            have hal_2_3_4_5_6_7_8_9_10_11_12_13_14_15_16_17_18_24 := EIn.below (w' := (u_18.alloc (.cells #[.int .i64 7, .int .i64 7, .string n0B, .slice none 0 (capF 0 0), .int .i64 2, .int .i64 0, .string n0B, .slice A4 1 (capF 1 c4)] 24))) _ hal_2_3_4_5_6_7_8_9_10_11_12_13_14_15_16_17_18 ((Below.refl _ _).alloc (Nat.le_refl _) _) (Nat.le_refl _)
            have hT_17_18_24 := EIn.below (w' := (u_18.alloc (.cells #[.int .i64 7, .int .i64 7, .string n0B, .slice none 0 (capF 0 0), .int .i64 2, .int .i64 0, .string n0B, .slice A4 1 (capF 1 c4)] 24))) _ hT_17_18 ((Below.refl _ _).alloc (Nat.le_refl _) _) (Nat.le_refl _)
            have hT_18_24 := EIn.below (w' := (u_18.alloc (.cells #[.int .i64 7, .int .i64 7, .string n0B, .slice none 0 (capF 0 0), .int .i64 2, .int .i64 0, .string n0B, .slice A4 1 (capF 1 c4)] 24))) _ hT_18 ((Below.refl _ _).alloc (Nat.le_refl _) _) (Nat.le_refl _)
            refine wpAnyK_oneW (i := 41) rfl (by kernel_rfl) (by kernel_rfl) (fun K hK => ?_)
            go_simp
            refine (HA3.out _ hb_24 A_17 c_17 hT_17_18_24 A_18 c_18 hT_18_24).mono ?_
            rintro e u_25 ⟨A_25, c_25, rfl, hT_25, hq_25⟩
            have hb_25 := hb_24.trans (hq_25.mono hb_24.size)
            have hl_24_25 := hl_24.below hq_25 hl_24.lt
            have ht8_2_3_4_5_6_7_8_9_10_11_12_13_14_15_16_17_18_24_25 := EIn.below _ ht8_2_3_4_5_6_7_8_9_10_11_12_13_14_15_16_17_18_24 hq_25 (Nat.le_refl _)
            have hs7_2_3_4_5_6_7_8_9_10_11_12_13_14_15_16_17_18_24_25 := EIn.below _ hs7_2_3_4_5_6_7_8_9_10_11_12_13_14_15_16_17_18_24 hq_25 (Nat.le_refl _)
            have hal_2_3_4_5_6_7_8_9_10_11_12_13_14_15_16_17_18_24_25 := EIn.below _ hal_2_3_4_5_6_7_8_9_10_11_12_13_14_15_16_17_18_24 hq_25 (Nat.le_refl _)
            clear ht8_2_3_4_5_6_7_8_9_10_11_12_13_14_15_16_17_18_24 hs7_2_3_4_5_6_7_8_9_10_11_12_13_14_15_16_17_18_24 hal_2_3_4_5_6_7_8_9_10_11_12_13_14_15_16_17_18_24 hT_17_18_24 hT_18_24
            refine hK.out _ _ (fun _ => HSS.out _ hb_25) (fun hS9 => ?_)
            have hS_25 := hS9 (by decide)
            clear hK K hS9
            try simp only [Act.put, List.setIfInBounds_toArray, List.set_cons_zero, List.set_cons_succ]
            refine wpAnyK_oneW (i := 45) rfl (by kernel_rfl) (by kernel_rfl) (fun K hK => ?_)
            go_simp
            refine (HIN.out _ hb_25 A_25 c_25 hT_25 u_18.heap.size (ein_lies2 (c := 0) (d := c4) (t := s7T) (u := t8T) hl_24_25 trivial hs7_2_3_4_5_6_7_8_9_10_11_12_13_14_15_16_17_18_24_25 ht8_2_3_4_5_6_7_8_9_10_11_12_13_14_15_16_17_18_24_25)).mono ?_
            rintro e u_26 ⟨A_26, c_26, rfl, hT_26, hq_26⟩
            have hb_26 := hb_25.trans (hq_26.mono hb_25.size)
            have hl_24_25_26 := hl_24_25.below hq_26 hl_24_25.lt
            have ht8_2_3_4_5_6_7_8_9_10_11_12_13_14_15_16_17_18_24_25_26 := EIn.below _ ht8_2_3_4_5_6_7_8_9_10_11_12_13_14_15_16_17_18_24_25 hq_26 (Nat.le_refl _)
            have hs7_2_3_4_5_6_7_8_9_10_11_12_13_14_15_16_17_18_24_25_26 := EIn.below _ hs7_2_3_4_5_6_7_8_9_10_11_12_13_14_15_16_17_18_24_25 hq_26 (Nat.le_refl _)
            have hal_2_3_4_5_6_7_8_9_10_11_12_13_14_15_16_17_18_24_25_26 := EIn.below _ hal_2_3_4_5_6_7_8_9_10_11_12_13_14_15_16_17_18_24_25 hq_26 (Nat.le_refl _)
            clear ht8_2_3_4_5_6_7_8_9_10_11_12_13_14_15_16_17_18_24_25 hs7_2_3_4_5_6_7_8_9_10_11_12_13_14_15_16_17_18_24_25 hal_2_3_4_5_6_7_8_9_10_11_12_13_14_15_16_17_18_24_25 hT_25
            refine hK.out _ _ (fun _ => HSS.out _ hb_26) (fun hS9 => ?_)
            have hS_26 := hS9 (by decide)
            clear hK K hS9
            try simp only [Act.put, List.setIfInBounds_toArray, List.set_cons_zero, List.set_cons_succ]
            refine wpAnyK_oneW (i := 46) rfl (by kernel_rfl) (by kernel_rfl) (fun K hK => ?_)
            go_simp
            refine (HX4.out _ hb_26 A_26 c_26 hT_26).mono ?_
            rintro e u_27 ⟨rfl, hq_27⟩
            have hb_27 := hb_26.trans (hq_27.mono hb_26.size)
            have hl_24_25_26_27 := hl_24_25_26.below hq_27 hl_24_25_26.lt
            have ht8_2_3_4_5_6_7_8_9_10_11_12_13_14_15_16_17_18_24_25_26_27 := EIn.below _ ht8_2_3_4_5_6_7_8_9_10_11_12_13_14_15_16_17_18_24_25_26 hq_27 (Nat.le_refl _)
            have hs7_2_3_4_5_6_7_8_9_10_11_12_13_14_15_16_17_18_24_25_26_27 := EIn.below _ hs7_2_3_4_5_6_7_8_9_10_11_12_13_14_15_16_17_18_24_25_26 hq_27 (Nat.le_refl _)
            have hal_2_3_4_5_6_7_8_9_10_11_12_13_14_15_16_17_18_24_25_26_27 := EIn.below _ hal_2_3_4_5_6_7_8_9_10_11_12_13_14_15_16_17_18_24_25_26 hq_27 (Nat.le_refl _)
            clear ht8_2_3_4_5_6_7_8_9_10_11_12_13_14_15_16_17_18_24_25_26 hs7_2_3_4_5_6_7_8_9_10_11_12_13_14_15_16_17_18_24_25_26 hal_2_3_4_5_6_7_8_9_10_11_12_13_14_15_16_17_18_24_25_26 hT_26
            refine hK.out _ _ (fun _ => HSS.out _ hb_27) (fun hS9 => ?_)
            have hS_27 := hS9 (by decide)
            clear hK K hS9
            try simp only [Act.put, List.setIfInBounds_toArray, List.set_cons_zero, List.set_cons_succ]
            refine wpAnyK_take (i := 47) (oi := ⟨some 61, _, _, _, _, _⟩) (v := .bool true) rfl (by kernel_rfl) (by kernel_rfl) (by kernel_rfl) (by kernel_rfl) (fun _ _ _ h => h) (.inl ⟨by kernel_rfl, fun W hW => by kernel_rfl⟩) hS_27 ?_
            try simp only [Act.put, List.setIfInBounds_toArray, List.set_cons_zero, List.set_cons_succ]
            refine wpAnyK_take (i := 48) (oi := ⟨some 62, _, _, _, _, _⟩) (v := .bool true) rfl (by kernel_rfl) (by kernel_rfl) (by kernel_rfl) (by kernel_rfl) (fun _ _ _ h => h) (.inl ⟨by kernel_rfl, fun W hW => by kernel_rfl⟩) hS_27 ?_
            try simp only [Act.put, List.setIfInBounds_toArray, List.set_cons_zero, List.set_cons_succ]
            refine wpAnyK_one (i := 49) rfl rfl (by kernel_rfl) (fun K hK => ?_)
            go_simp
            refine hK.out _ _ (fun h => absurd rfl h) (fun _ => ?_)
            clear hK K
            try simp only [Act.put, List.setIfInBounds_toArray, List.set_cons_zero, List.set_cons_succ]
            refine wpAnyK_done (by kernel_rfl) ?_ _
            go_wp2_with fail
            go_ret
            exact ⟨rfl, HB.out.trans (hb_27.mono HB.out.size)⟩
        · go_simp
          have hb_29 := Below.alloc hb_17 hb_17.size (.cells #[.int .i64 7, .int .i64 7, .string n0B, .slice none 0 (capF 0 0), .int .i64 2, .int .i64 0, .string n0B, .slice A4 1 (capF 1 c4)] 24)
          have hl_29 : Lies (u_17.alloc (.cells #[.int .i64 7, .int .i64 7, .string n0B, .slice none 0 (capF 0 0), .int .i64 2, .int .i64 0, .string n0B, .slice A4 1 (capF 1 c4)] 24)) (u_17.heap.size) 24 #[.int .i64 7, .int .i64 7, .string n0B, .slice none 0 (capF 0 0), .int .i64 2, .int .i64 0, .string n0B, .slice A4 1 (capF 1 c4)] := Lies.new _ _ _
          refine hK.out _ _ (fun _ => HSS.out _ hb_29) (fun hS9 => ?_)
          have hS_29 := hS9 (by decide)
          clear hK K hS9
          try simp only [Act.put, List.setIfInBounds_toArray, List.set_cons_zero, List.set_cons_succ]
          have ht8_2_3_4_5_6_7_8_9_10_11_12_13_14_15_16_17_29 := EIn.below (w' := (u_17.alloc (.cells #[.int .i64 7, .int .i64 7, .string n0B, .slice none 0 (capF 0 0), .int .i64 2, .int .i64 0, .string n0B, .slice A4 1 (capF 1 c4)] 24))) _ ht8_2_3_4_5_6_7_8_9_10_11_12_13_14_15_16_17 ((Below.refl _ _).alloc (Nat.le_refl _) _) (Nat.le_refl _)
          have hs7_2_3_4_5_6_7_8_9_10_11_12_13_14_15_16_17_29 := EIn.below (w' := (u_17.alloc (.cells #[.int .i64 7, .int .i64 7, .string n0B, .slice none 0 (capF 0 0), .int .i64 2, .int .i64 0, .string n0B, .slice A4 1 (capF 1 c4)] 24))) _ hs7_2_3_4_5_6_7_8_9_10_11_12_13_14_15_16_17 ((Below.refl _ _).alloc (Nat.le_refl _) _) (Nat.le_refl _)
          have hal_2_3_4_5_6_7_8_9_10_11_12_13_14_15_16_17_29 := EIn.below (w' := (u_17.alloc (.cells #[.int .i64 7, .int .i64 7, .string n0B, .slice none 0 (capF 0 0), .int .i64 2, .int .i64 0, .string n0B, .slice A4 1 (capF 1 c4)] 24))) _ hal_2_3_4_5_6_7_8_9_10_11_12_13_14_15_16_17 ((Below.refl _ _).alloc (Nat.le_refl _) _) (Nat.le_refl _)
          have hT_17_29 := EIn.below (w' := (u_17.alloc (.cells #[.int .i64 7, .int .i64 7, .string n0B, .slice none 0 (capF 0 0), .int .i64 2, .int .i64 0, .string n0B, .slice A4 1 (capF 1 c4)] 24))) _ hT_17 ((Below.refl _ _).alloc (Nat.le_refl _) _) (Nat.le_refl _)
          refine wpAnyK_oneW (i := 40) rfl (by kernel_rfl) (by kernel_rfl) (fun K hK => ?_)
          go_simp
          refine (HV2.out _ hb_29).mono ?_
          rintro e u_30 ⟨A_30, c_30, rfl, hT_30, hq_30⟩
          have hb_30 := hb_29.trans (hq_30.mono hb_29.size)
          have hl_29_30 := hl_29.below hq_30 hl_29.lt
          have ht8_2_3_4_5_6_7_8_9_10_11_12_13_14_15_16_17_29_30 := EIn.below _ ht8_2_3_4_5_6_7_8_9_10_11_12_13_14_15_16_17_29 hq_30 (Nat.le_refl _)
          have hs7_2_3_4_5_6_7_8_9_10_11_12_13_14_15_16_17_29_30 := EIn.below _ hs7_2_3_4_5_6_7_8_9_10_11_12_13_14_15_16_17_29 hq_30 (Nat.le_refl _)
          have hal_2_3_4_5_6_7_8_9_10_11_12_13_14_15_16_17_29_30 := EIn.below _ hal_2_3_4_5_6_7_8_9_10_11_12_13_14_15_16_17_29 hq_30 (Nat.le_refl _)
          have hT_17_29_30 := EIn.below _ hT_17_29 hq_30 (Nat.le_refl _)
          clear ht8_2_3_4_5_6_7_8_9_10_11_12_13_14_15_16_17_29 hs7_2_3_4_5_6_7_8_9_10_11_12_13_14_15_16_17_29 hal_2_3_4_5_6_7_8_9_10_11_12_13_14_15_16_17_29 hT_17_29
          refine hK.out _ _ (fun _ => HSS.out _ hb_30) (fun hS9 => ?_)
          have hS_30 := hS9 (by decide)
          clear hK K hS9
          try simp only [Act.put, List.setIfInBounds_toArray, List.set_cons_zero, List.set_cons_succ]
          refine wpAnyK_oneW (i := 41) rfl (by kernel_rfl) (by kernel_rfl) (fun K hK => ?_)
          go_simp
          refine (HA3.out _ hb_30 A_17 c_17 hT_17_29_30 A_30 c_30 hT_30).mono ?_
          rintro e u_31 ⟨A_31, c_31, rfl, hT_31, hq_31⟩
          have hb_31 := hb_30.trans (hq_31.mono hb_30.size)
          have hl_29_30_31 := hl_29_30.below hq_31 hl_29_30.lt
          have ht8_2_3_4_5_6_7_8_9_10_11_12_13_14_15_16_17_29_30_31 := EIn.below _ ht8_2_3_4_5_6_7_8_9_10_11_12_13_14_15_16_17_29_30 hq_31 (Nat.le_refl _)
          have hs7_2_3_4_5_6_7_8_9_10_11_12_13_14_15_16_17_29_30_31 := EIn.below _ hs7_2_3_4_5_6_7_8_9_10_11_12_13_14_15_16_17_29_30 hq_31 (Nat.le_refl _)
          have hal_2_3_4_5_6_7_8_9_10_11_12_13_14_15_16_17_29_30_31 := EIn.below _ hal_2_3_4_5_6_7_8_9_10_11_12_13_14_15_16_17_29_30 hq_31 (Nat.le_refl _)
          clear ht8_2_3_4_5_6_7_8_9_10_11_12_13_14_15_16_17_29_30 hs7_2_3_4_5_6_7_8_9_10_11_12_13_14_15_16_17_29_30 hal_2_3_4_5_6_7_8_9_10_11_12_13_14_15_16_17_29_30 hT_17_29_30 hT_30
          refine hK.out _ _ (fun _ => HSS.out _ hb_31) (fun hS9 => ?_)
          have hS_31 := hS9 (by decide)
          clear hK K hS9
          try simp only [Act.put, List.setIfInBounds_toArray, List.set_cons_zero, List.set_cons_succ]
          refine wpAnyK_oneW (i := 45) rfl (by kernel_rfl) (by kernel_rfl) (fun K hK => ?_)
          go_simp
          refine (HIN.out _ hb_31 A_31 c_31 hT_31 u_17.heap.size (ein_lies2 (c := 0) (d := c4) (t := s7T) (u := t8T) hl_29_30_31 trivial hs7_2_3_4_5_6_7_8_9_10_11_12_13_14_15_16_17_29_30_31 ht8_2_3_4_5_6_7_8_9_10_11_12_13_14_15_16_17_29_30_31)).mono ?_
          rintro e u_32 ⟨A_32, c_32, rfl, hT_32, hq_32⟩
          have hb_32 := hb_31.trans (hq_32.mono hb_31.size)
          have hl_29_30_31_32 := hl_29_30_31.below hq_32 hl_29_30_31.lt
          have ht8_2_3_4_5_6_7_8_9_10_11_12_13_14_15_16_17_29_30_31_32 := EIn.below _ ht8_2_3_4_5_6_7_8_9_10_11_12_13_14_15_16_17_29_30_31 hq_32 (Nat.le_refl _)
          have hs7_2_3_4_5_6_7_8_9_10_11_12_13_14_15_16_17_29_30_31_32 := EIn.below _ hs7_2_3_4_5_6_7_8_9_10_11_12_13_14_15_16_17_29_30_31 hq_32 (Nat.le_refl _)
          have hal_2_3_4_5_6_7_8_9_10_11_12_13_14_15_16_17_29_30_31_32 := EIn.below _ hal_2_3_4_5_6_7_8_9_10_11_12_13_14_15_16_17_29_30_31 hq_32 (Nat.le_refl _)
          clear ht8_2_3_4_5_6_7_8_9_10_11_12_13_14_15_16_17_29_30_31 hs7_2_3_4_5_6_7_8_9_10_11_12_13_14_15_16_17_29_30_31 hal_2_3_4_5_6_7_8_9_10_11_12_13_14_15_16_17_29_30_31 hT_31
          refine hK.out _ _ (fun _ => HSS.out _ hb_32) (fun hS9 => ?_)
          have hS_32 := hS9 (by decide)
          clear hK K hS9
          try simp only [Act.put, List.setIfInBounds_toArray, List.set_cons_zero, List.set_cons_succ]
          refine wpAnyK_oneW (i := 46) rfl (by kernel_rfl) (by kernel_rfl) (fun K hK => ?_)
          go_simp
          refine (HX4.out _ hb_32 A_32 c_32 hT_32).mono ?_
          rintro e u_33 ⟨rfl, hq_33⟩
          have hb_33 := hb_32.trans (hq_33.mono hb_32.size)
          have hl_29_30_31_32_33 := hl_29_30_31_32.below hq_33 hl_29_30_31_32.lt
          have ht8_2_3_4_5_6_7_8_9_10_11_12_13_14_15_16_17_29_30_31_32_33 := EIn.below _ ht8_2_3_4_5_6_7_8_9_10_11_12_13_14_15_16_17_29_30_31_32 hq_33 (Nat.le_refl _)
          have hs7_2_3_4_5_6_7_8_9_10_11_12_13_14_15_16_17_29_30_31_32_33 := EIn.below _ hs7_2_3_4_5_6_7_8_9_10_11_12_13_14_15_16_17_29_30_31_32 hq_33 (Nat.le_refl _)
          have hal_2_3_4_5_6_7_8_9_10_11_12_13_14_15_16_17_29_30_31_32_33 := EIn.below _ hal_2_3_4_5_6_7_8_9_10_11_12_13_14_15_16_17_29_30_31_32 hq_33 (Nat.le_refl _)
          clear ht8_2_3_4_5_6_7_8_9_10_11_12_13_14_15_16_17_29_30_31_32 hs7_2_3_4_5_6_7_8_9_10_11_12_13_14_15_16_17_29_30_31_32 hal_2_3_4_5_6_7_8_9_10_11_12_13_14_15_16_17_29_30_31_32 hT_32
          refine hK.out _ _ (fun _ => HSS.out _ hb_33) (fun hS9 => ?_)
          have hS_33 := hS9 (by decide)
          clear hK K hS9
          try simp only [Act.put, List.setIfInBounds_toArray, List.set_cons_zero, List.set_cons_succ]
          refine wpAnyK_take (i := 47) (oi := ⟨some 61, _, _, _, _, _⟩) (v := .bool true) rfl (by kernel_rfl) (by kernel_rfl) (by kernel_rfl) (by kernel_rfl) (fun _ _ _ h => h) (.inl ⟨by kernel_rfl, fun W hW => by kernel_rfl⟩) hS_33 ?_
          try simp only [Act.put, List.setIfInBounds_toArray, List.set_cons_zero, List.set_cons_succ]
          refine wpAnyK_take (i := 48) (oi := ⟨some 62, _, _, _, _, _⟩) (v := .bool true) rfl (by kernel_rfl) (by kernel_rfl) (by kernel_rfl) (by kernel_rfl) (fun _ _ _ h => h) (.inl ⟨by kernel_rfl, fun W hW => by kernel_rfl⟩) hS_33 ?_
          try simp only [Act.put, List.setIfInBounds_toArray, List.set_cons_zero, List.set_cons_succ]
          refine wpAnyK_one (i := 49) rfl rfl (by kernel_rfl) (fun K hK => ?_)
          go_simp
          refine hK.out _ _ (fun h => absurd rfl h) (fun _ => ?_)
          clear hK K
          try simp only [Act.put, List.setIfInBounds_toArray, List.set_cons_zero, List.set_cons_succ]
          refine wpAnyK_done (by kernel_rfl) ?_ _
          go_wp2_with fail
          go_ret
          exact ⟨rfl, HB.out.trans (hb_33.mono HB.out.size)⟩
      · go_simp
        have hb_35 := Below.alloc hb_16 hb_16.size (.cells #[.int .i64 7, .int .i64 7, .string n0B, .slice none 0 (capF 0 0), .int .i64 2, .int .i64 0, .string n0B, .slice A4 1 (capF 1 c4)] 24)
        have hl_35 : Lies (u_16.alloc (.cells #[.int .i64 7, .int .i64 7, .string n0B, .slice none 0 (capF 0 0), .int .i64 2, .int .i64 0, .string n0B, .slice A4 1 (capF 1 c4)] 24)) (u_16.heap.size) 24 #[.int .i64 7, .int .i64 7, .string n0B, .slice none 0 (capF 0 0), .int .i64 2, .int .i64 0, .string n0B, .slice A4 1 (capF 1 c4)] := Lies.new _ _ _
        refine hK.out _ _ (fun _ => HSS.out _ hb_35) (fun hS9 => ?_)
        have hS_35 := hS9 (by decide)
        clear hK K hS9
        try simp only [Act.put, List.setIfInBounds_toArray, List.set_cons_zero, List.set_cons_succ]
        have ht8_2_3_4_5_6_7_8_9_10_11_12_13_14_15_16_35 := EIn.below (w' := (u_16.alloc (.cells #[.int .i64 7, .int .i64 7, .string n0B, .slice none 0 (capF 0 0), .int .i64 2, .int .i64 0, .string n0B, .slice A4 1 (capF 1 c4)] 24))) _ ht8_2_3_4_5_6_7_8_9_10_11_12_13_14_15_16 ((Below.refl _ _).alloc (Nat.le_refl _) _) (Nat.le_refl _)
        have hs7_2_3_4_5_6_7_8_9_10_11_12_13_14_15_16_35 := EIn.below (w' := (u_16.alloc (.cells #[.int .i64 7, .int .i64 7, .string n0B, .slice none 0 (capF 0 0), .int .i64 2, .int .i64 0, .string n0B, .slice A4 1 (capF 1 c4)] 24))) _ hs7_2_3_4_5_6_7_8_9_10_11_12_13_14_15_16 ((Below.refl _ _).alloc (Nat.le_refl _) _) (Nat.le_refl _)
        have hal_2_3_4_5_6_7_8_9_10_11_12_13_14_15_16_35 := EIn.below (w' := (u_16.alloc (.cells #[.int .i64 7, .int .i64 7, .string n0B, .slice none 0 (capF 0 0), .int .i64 2, .int .i64 0, .string n0B, .slice A4 1 (capF 1 c4)] 24))) _ hal_2_3_4_5_6_7_8_9_10_11_12_13_14_15_16 ((Below.refl _ _).alloc (Nat.le_refl _) _) (Nat.le_refl _)
        have hT_15_16_35 := EIn.below (w' := (u_16.alloc (.cells #[.int .i64 7, .int .i64 7, .string n0B, .slice none 0 (capF 0 0), .int .i64 2, .int .i64 0, .string n0B, .slice A4 1 (capF 1 c4)] 24))) _ hT_15_16 ((Below.refl _ _).alloc (Nat.le_refl _) _) (Nat.le_refl _)
        have hT_16_35 := EIn.below (w' := (u_16.alloc (.cells #[.int .i64 7, .int .i64 7, .string n0B, .slice none 0 (capF 0 0), .int .i64 2, .int .i64 0, .string n0B, .slice A4 1 (capF 1 c4)] 24))) _ hT_16 ((Below.refl _ _).alloc (Nat.le_refl _) _) (Nat.le_refl _)
        refine wpAnyK_oneW (i := 39) rfl (by kernel_rfl) (by kernel_rfl) (fun K hK => ?_)
        go_simp
        refine (HA2.out _ hb_35 A_15 c_15 hT_15_16_35 A_16 c_16 hT_16_35).mono ?_
        rintro e u_36 ⟨A_36, c_36, rfl, hT_36, hq_36⟩
        have hb_36 := hb_35.trans (hq_36.mono hb_35.size)
        have hl_35_36 := hl_35.below hq_36 hl_35.lt
        have ht8_2_3_4_5_6_7_8_9_10_11_12_13_14_15_16_35_36 := EIn.below _ ht8_2_3_4_5_6_7_8_9_10_11_12_13_14_15_16_35 hq_36 (Nat.le_refl _)
        have hs7_2_3_4_5_6_7_8_9_10_11_12_13_14_15_16_35_36 := EIn.below _ hs7_2_3_4_5_6_7_8_9_10_11_12_13_14_15_16_35 hq_36 (Nat.le_refl _)
        have hal_2_3_4_5_6_7_8_9_10_11_12_13_14_15_16_35_36 := EIn.below _ hal_2_3_4_5_6_7_8_9_10_11_12_13_14_15_16_35 hq_36 (Nat.le_refl _)
        clear ht8_2_3_4_5_6_7_8_9_10_11_12_13_14_15_16_35 hs7_2_3_4_5_6_7_8_9_10_11_12_13_14_15_16_35 hal_2_3_4_5_6_7_8_9_10_11_12_13_14_15_16_35 hT_15_16_35 hT_16_35
        refine hK.out _ _ (fun _ => HSS.out _ hb_36) (fun hS9 => ?_)
        have hS_36 := hS9 (by decide)
        clear hK K hS9
        try simp only [Act.put, List.setIfInBounds_toArray, List.set_cons_zero, List.set_cons_succ]
        refine wpAnyK_oneW (i := 40) rfl (by kernel_rfl) (by kernel_rfl) (fun K hK => ?_)
        go_simp
        refine (HV2.out _ hb_36).mono ?_
        rintro e u_37 ⟨A_37, c_37, rfl, hT_37, hq_37⟩
        have hb_37 := hb_36.trans (hq_37.mono hb_36.size)
        have hl_35_36_37 := hl_35_36.below hq_37 hl_35_36.lt
        have ht8_2_3_4_5_6_7_8_9_10_11_12_13_14_15_16_35_36_37 := EIn.below _ ht8_2_3_4_5_6_7_8_9_10_11_12_13_14_15_16_35_36 hq_37 (Nat.le_refl _)
        have hs7_2_3_4_5_6_7_8_9_10_11_12_13_14_15_16_35_36_37 := EIn.below _ hs7_2_3_4_5_6_7_8_9_10_11_12_13_14_15_16_35_36 hq_37 (Nat.le_refl _)
        have hal_2_3_4_5_6_7_8_9_10_11_12_13_14_15_16_35_36_37 := EIn.below _ hal_2_3_4_5_6_7_8_9_10_11_12_13_14_15_16_35_36 hq_37 (Nat.le_refl _)
        have hT_36_37 := EIn.below _ hT_36 hq_37 (Nat.le_refl _)
        clear ht8_2_3_4_5_6_7_8_9_10_11_12_13_14_15_16_35_36 hs7_2_3_4_5_6_7_8_9_10_11_12_13_14_15_16_35_36 hal_2_3_4_5_6_7_8_9_10_11_12_13_14_15_16_35_36 hT_36
        refine hK.out _ _ (fun _ => HSS.out _ hb_37) (fun hS9 => ?_)
        have hS_37 := hS9 (by decide)
        clear hK K hS9
        try simp only [Act.put, List.setIfInBounds_toArray, List.set_cons_zero, List.set_cons_succ]
        refine wpAnyK_oneW (i := 41) rfl (by kernel_rfl) (by kernel_rfl) (fun K hK => ?_)
        go_simp
        refine (HA3.out _ hb_37 A_36 c_36 hT_36_37 A_37 c_37 hT_37).mono ?_
        rintro e u_38 ⟨A_38, c_38, rfl, hT_38, hq_38⟩
        have hb_38 := hb_37.trans (hq_38.mono hb_37.size)
        have hl_35_36_37_38 := hl_35_36_37.below hq_38 hl_35_36_37.lt
        have ht8_2_3_4_5_6_7_8_9_10_11_12_13_14_15_16_35_36_37_38 := EIn.below _ ht8_2_3_4_5_6_7_8_9_10_11_12_13_14_15_16_35_36_37 hq_38 (Nat.le_refl _)
        have hs7_2_3_4_5_6_7_8_9_10_11_12_13_14_15_16_35_36_37_38 := EIn.below _ hs7_2_3_4_5_6_7_8_9_10_11_12_13_14_15_16_35_36_37 hq_38 (Nat.le_refl _)
        have hal_2_3_4_5_6_7_8_9_10_11_12_13_14_15_16_35_36_37_38 := EIn.below _ hal_2_3_4_5_6_7_8_9_10_11_12_13_14_15_16_35_36_37 hq_38 (Nat.le_refl _)
        clear ht8_2_3_4_5_6_7_8_9_10_11_12_13_14_15_16_35_36_37 hs7_2_3_4_5_6_7_8_9_10_11_12_13_14_15_16_35_36_37 hal_2_3_4_5_6_7_8_9_10_11_12_13_14_15_16_35_36_37 hT_36_37 hT_37
        refine hK.out _ _ (fun _ => HSS.out _ hb_38) (fun hS9 => ?_)
        have hS_38 := hS9 (by decide)
        clear hK K hS9
        try simp only [Act.put, List.setIfInBounds_toArray, List.set_cons_zero, List.set_cons_succ]
        refine wpAnyK_oneW (i := 45) rfl (by kernel_rfl) (by kernel_rfl) (fun K hK => ?_)
        go_simp
        refine (HIN.out _ hb_38 A_38 c_38 hT_38 u_16.heap.size (ein_lies2 (c := 0) (d := c4) (t := s7T) (u := t8T) hl_35_36_37_38 trivial hs7_2_3_4_5_6_7_8_9_10_11_12_13_14_15_16_35_36_37_38 ht8_2_3_4_5_6_7_8_9_10_11_12_13_14_15_16_35_36_37_38)).mono ?_
        rintro e u_39 ⟨A_39, c_39, rfl, hT_39, hq_39⟩
        have hb_39 := hb_38.trans (hq_39.mono hb_38.size)
        have hl_35_36_37_38_39 := hl_35_36_37_38.below hq_39 hl_35_36_37_38.lt
        have ht8_2_3_4_5_6_7_8_9_10_11_12_13_14_15_16_35_36_37_38_39 := EIn.below _ ht8_2_3_4_5_6_7_8_9_10_11_12_13_14_15_16_35_36_37_38 hq_39 (Nat.le_refl _)
        have hs7_2_3_4_5_6_7_8_9_10_11_12_13_14_15_16_35_36_37_38_39 := EIn.below _ hs7_2_3_4_5_6_7_8_9_10_11_12_13_14_15_16_35_36_37_38 hq_39 (Nat.le_refl _)
        have hal_2_3_4_5_6_7_8_9_10_11_12_13_14_15_16_35_36_37_38_39 := EIn.below _ hal_2_3_4_5_6_7_8_9_10_11_12_13_14_15_16_35_36_37_38 hq_39 (Nat.le_refl _)
        clear ht8_2_3_4_5_6_7_8_9_10_11_12_13_14_15_16_35_36_37_38 hs7_2_3_4_5_6_7_8_9_10_11_12_13_14_15_16_35_36_37_38 hal_2_3_4_5_6_7_8_9_10_11_12_13_14_15_16_35_36_37_38 hT_38
        refine hK.out _ _ (fun _ => HSS.out _ hb_39) (fun hS9 => ?_)
        have hS_39 := hS9 (by decide)
        clear hK K hS9
        try simp only [Act.put, List.setIfInBounds_toArray, List.set_cons_zero, List.set_cons_succ]
        refine wpAnyK_oneW (i := 46) rfl (by kernel_rfl) (by kernel_rfl) (fun K hK => ?_)
        go_simp
        refine (HX4.out _ hb_39 A_39 c_39 hT_39).mono ?_
        rintro e u_40 ⟨rfl, hq_40⟩
        have hb_40 := hb_39.trans (hq_40.mono hb_39.size)
        have hl_35_36_37_38_39_40 := hl_35_36_37_38_39.below hq_40 hl_35_36_37_38_39.lt
        have ht8_2_3_4_5_6_7_8_9_10_11_12_13_14_15_16_35_36_37_38_39_40 := EIn.below _ ht8_2_3_4_5_6_7_8_9_10_11_12_13_14_15_16_35_36_37_38_39 hq_40 (Nat.le_refl _)
        have hs7_2_3_4_5_6_7_8_9_10_11_12_13_14_15_16_35_36_37_38_39_40 := EIn.below _ hs7_2_3_4_5_6_7_8_9_10_11_12_13_14_15_16_35_36_37_38_39 hq_40 (Nat.le_refl _)
        have hal_2_3_4_5_6_7_8_9_10_11_12_13_14_15_16_35_36_37_38_39_40 := EIn.below _ hal_2_3_4_5_6_7_8_9_10_11_12_13_14_15_16_35_36_37_38_39 hq_40 (Nat.le_refl _)
        clear ht8_2_3_4_5_6_7_8_9_10_11_12_13_14_15_16_35_36_37_38_39 hs7_2_3_4_5_6_7_8_9_10_11_12_13_14_15_16_35_36_37_38_39 hal_2_3_4_5_6_7_8_9_10_11_12_13_14_15_16_35_36_37_38_39 hT_39
        refine hK.out _ _ (fun _ => HSS.out _ hb_40) (fun hS9 => ?_)
        have hS_40 := hS9 (by decide)
        clear hK K hS9
        try simp only [Act.put, List.setIfInBounds_toArray, List.set_cons_zero, List.set_cons_succ]
        refine wpAnyK_take (i := 47) (oi := ⟨some 61, _, _, _, _, _⟩) (v := .bool true) rfl (by kernel_rfl) (by kernel_rfl) (by kernel_rfl) (by kernel_rfl) (fun _ _ _ h => h) (.inl ⟨by kernel_rfl, fun W hW => by kernel_rfl⟩) hS_40 ?_
        try simp only [Act.put, List.setIfInBounds_toArray, List.set_cons_zero, List.set_cons_succ]
        refine wpAnyK_take (i := 48) (oi := ⟨some 62, _, _, _, _, _⟩) (v := .bool true) rfl (by kernel_rfl) (by kernel_rfl) (by kernel_rfl) (by kernel_rfl) (fun _ _ _ h => h) (.inl ⟨by kernel_rfl, fun W hW => by kernel_rfl⟩) hS_40 ?_
        try simp only [Act.put, List.setIfInBounds_toArray, List.set_cons_zero, List.set_cons_succ]
        refine wpAnyK_one (i := 49) rfl rfl (by kernel_rfl) (fun K hK => ?_)
        go_simp
        refine hK.out _ _ (fun h => absurd rfl h) (fun _ => ?_)
        clear hK K
        try simp only [Act.put, List.setIfInBounds_toArray, List.set_cons_zero, List.set_cons_succ]
        refine wpAnyK_done (by kernel_rfl) ?_ _
        go_wp2_with fail
        go_ret
        exact ⟨rfl, HB.out.trans (hb_40.mono HB.out.size)⟩
    · go_simp
      have hb_42 := Below.alloc hb_15 hb_15.size (.cells #[.int .i64 7, .int .i64 7, .string n0B, .slice none 0 (capF 0 0), .int .i64 2, .int .i64 0, .string n0B, .slice A4 1 (capF 1 c4)] 24)
      have hl_42 : Lies (u_15.alloc (.cells #[.int .i64 7, .int .i64 7, .string n0B, .slice none 0 (capF 0 0), .int .i64 2, .int .i64 0, .string n0B, .slice A4 1 (capF 1 c4)] 24)) (u_15.heap.size) 24 #[.int .i64 7, .int .i64 7, .string n0B, .slice none 0 (capF 0 0), .int .i64 2, .int .i64 0, .string n0B, .slice A4 1 (capF 1 c4)] := Lies.new _ _ _
      refine hK.out _ _ (fun _ => HSS.out _ hb_42) (fun hS9 => ?_)
      have hS_42 := hS9 (by decide)
      clear hK K hS9
      try simp only [Act.put, List.setIfInBounds_toArray, List.set_cons_zero, List.set_cons_succ]
      have ht8_2_3_4_5_6_7_8_9_10_11_12_13_14_15_42 := EIn.below (w' := (u_15.alloc (.cells #[.int .i64 7, .int .i64 7, .string n0B, .slice none 0 (capF 0 0), .int .i64 2, .int .i64 0, .string n0B, .slice A4 1 (capF 1 c4)] 24))) _ ht8_2_3_4_5_6_7_8_9_10_11_12_13_14_15 ((Below.refl _ _).alloc (Nat.le_refl _) _) (Nat.le_refl _)
      have hs7_2_3_4_5_6_7_8_9_10_11_12_13_14_15_42 := EIn.below (w' := (u_15.alloc (.cells #[.int .i64 7, .int .i64 7, .string n0B, .slice none 0 (capF 0 0), .int .i64 2, .int .i64 0, .string n0B, .slice A4 1 (capF 1 c4)] 24))) _ hs7_2_3_4_5_6_7_8_9_10_11_12_13_14_15 ((Below.refl _ _).alloc (Nat.le_refl _) _) (Nat.le_refl _)
      have hal_2_3_4_5_6_7_8_9_10_11_12_13_14_15_42 := EIn.below (w' := (u_15.alloc (.cells #[.int .i64 7, .int .i64 7, .string n0B, .slice none 0 (capF 0 0), .int .i64 2, .int .i64 0, .string n0B, .slice A4 1 (capF 1 c4)] 24))) _ hal_2_3_4_5_6_7_8_9_10_11_12_13_14_15 ((Below.refl _ _).alloc (Nat.le_refl _) _) (Nat.le_refl _)
      have hT_15_42 := EIn.below (w' := (u_15.alloc (.cells #[.int .i64 7, .int .i64 7, .string n0B, .slice none 0 (capF 0 0), .int .i64 2, .int .i64 0, .string n0B, .slice A4 1 (capF 1 c4)] 24))) _ hT_15 ((Below.refl _ _).alloc (Nat.le_refl _) _) (Nat.le_refl _)
      refine wpAnyK_oneW (i := 38) rfl (by kernel_rfl) (by kernel_rfl) (fun K hK => ?_)
      go_simp
      refine (HV1.out _ hb_42).mono ?_
      rintro e u_43 ⟨A_43, c_43, rfl, hT_43, hq_43⟩
      have hb_43 := hb_42.trans (hq_43.mono hb_42.size)
      have hl_42_43 := hl_42.below hq_43 hl_42.lt
      have ht8_2_3_4_5_6_7_8_9_10_11_12_13_14_15_42_43 := EIn.below _ ht8_2_3_4_5_6_7_8_9_10_11_12_13_14_15_42 hq_43 (Nat.le_refl _)
      have hs7_2_3_4_5_6_7_8_9_10_11_12_13_14_15_42_43 := EIn.below _ hs7_2_3_4_5_6_7_8_9_10_11_12_13_14_15_42 hq_43 (Nat.le_refl _)
      have hal_2_3_4_5_6_7_8_9_10_11_12_13_14_15_42_43 := EIn.below _ hal_2_3_4_5_6_7_8_9_10_11_12_13_14_15_42 hq_43 (Nat.le_refl _)
      have hT_15_42_43 := EIn.below _ hT_15_42 hq_43 (Nat.le_refl _)
      clear ht8_2_3_4_5_6_7_8_9_10_11_12_13_14_15_42 hs7_2_3_4_5_6_7_8_9_10_11_12_13_14_15_42 hal_2_3_4_5_6_7_8_9_10_11_12_13_14_15_42 hT_15_42
      refine hK.out _ _ (fun _ => HSS.out _ hb_43) (fun hS9 => ?_)
      have hS_43 := hS9 (by decide)
      clear hK K hS9
      try simp only [Act.put, List.setIfInBounds_toArray, List.set_cons_zero, List.set_cons_succ]
      refine wpAnyK_oneW (i := 39) rfl (by kernel_rfl) (by kernel_rfl) (fun K hK => ?_)
      go_simp
      refine (HA2.out _ hb_43 A_15 c_15 hT_15_42_43 A_43 c_43 hT_43).mono ?_
      rintro e u_44 ⟨A_44, c_44, rfl, hT_44, hq_44⟩
      have hb_44 := hb_43.trans (hq_44.mono hb_43.size)
      have hl_42_43_44 := hl_42_43.below hq_44 hl_42_43.lt
      have ht8_2_3_4_5_6_7_8_9_10_11_12_13_14_15_42_43_44 := EIn.below _ ht8_2_3_4_5_6_7_8_9_10_11_12_13_14_15_42_43 hq_44 (Nat.le_refl _)
      have hs7_2_3_4_5_6_7_8_9_10_11_12_13_14_15_42_43_44 := EIn.below _ hs7_2_3_4_5_6_7_8_9_10_11_12_13_14_15_42_43 hq_44 (Nat.le_refl _)
      have hal_2_3_4_5_6_7_8_9_10_11_12_13_14_15_42_43_44 := EIn.below _ hal_2_3_4_5_6_7_8_9_10_11_12_13_14_15_42_43 hq_44 (Nat.le_refl _)
      clear ht8_2_3_4_5_6_7_8_9_10_11_12_13_14_15_42_43 hs7_2_3_4_5_6_7_8_9_10_11_12_13_14_15_42_43 hal_2_3_4_5_6_7_8_9_10_11_12_13_14_15_42_43 hT_15_42_43 hT_43
      refine hK.out _ _ (fun _ => HSS.out _ hb_44) (fun hS9 => ?_)
      have hS_44 := hS9 (by decide)
      clear hK K hS9
      try simp only [Act.put, List.setIfInBounds_toArray, List.set_cons_zero, List.set_cons_succ]
      refine wpAnyK_oneW (i := 40) rfl (by kernel_rfl) (by kernel_rfl) (fun K hK => ?_)
      go_simp
      refine (HV2.out _ hb_44).mono ?_
      rintro e u_45 ⟨A_45, c_45, rfl, hT_45, hq_45⟩
      have hb_45 := hb_44.trans (hq_45.mono hb_44.size)
      have hl_42_43_44_45 := hl_42_43_44.below hq_45 hl_42_43_44.lt
      have ht8_2_3_4_5_6_7_8_9_10_11_12_13_14_15_42_43_44_45 := EIn.below _ ht8_2_3_4_5_6_7_8_9_10_11_12_13_14_15_42_43_44 hq_45 (Nat.le_refl _)
      have hs7_2_3_4_5_6_7_8_9_10_11_12_13_14_15_42_43_44_45 := EIn.below _ hs7_2_3_4_5_6_7_8_9_10_11_12_13_14_15_42_43_44 hq_45 (Nat.le_refl _)
      have hal_2_3_4_5_6_7_8_9_10_11_12_13_14_15_42_43_44_45 := EIn.below _ hal_2_3_4_5_6_7_8_9_10_11_12_13_14_15_42_43_44 hq_45 (Nat.le_refl _)
      have hT_44_45 := EIn.below _ hT_44 hq_45 (Nat.le_refl _)
      clear ht8_2_3_4_5_6_7_8_9_10_11_12_13_14_15_42_43_44 hs7_2_3_4_5_6_7_8_9_10_11_12_13_14_15_42_43_44 hal_2_3_4_5_6_7_8_9_10_11_12_13_14_15_42_43_44 hT_44
      refine hK.out _ _ (fun _ => HSS.out _ hb_45) (fun hS9 => ?_)
      have hS_45 := hS9 (by decide)
      clear hK K hS9
      try simp only [Act.put, List.setIfInBounds_toArray, List.set_cons_zero, List.set_cons_succ]
      refine wpAnyK_oneW (i := 41) rfl (by kernel_rfl) (by kernel_rfl) (fun K hK => ?_)
      go_simp
      refine (HA3.out _ hb_45 A_44 c_44 hT_44_45 A_45 c_45 hT_45).mono ?_
      rintro e u_46 ⟨A_46, c_46, rfl, hT_46, hq_46⟩
      have hb_46 := hb_45.trans (hq_46.mono hb_45.size)
      have hl_42_43_44_45_46 := hl_42_43_44_45.below hq_46 hl_42_43_44_45.lt
      have ht8_2_3_4_5_6_7_8_9_10_11_12_13_14_15_42_43_44_45_46 := EIn.below _ ht8_2_3_4_5_6_7_8_9_10_11_12_13_14_15_42_43_44_45 hq_46 (Nat.le_refl _)
      have hs7_2_3_4_5_6_7_8_9_10_11_12_13_14_15_42_43_44_45_46 := EIn.below _ hs7_2_3_4_5_6_7_8_9_10_11_12_13_14_15_42_43_44_45 hq_46 (Nat.le_refl _)
      have hal_2_3_4_5_6_7_8_9_10_11_12_13_14_15_42_43_44_45_46 := EIn.below _ hal_2_3_4_5_6_7_8_9_10_11_12_13_14_15_42_43_44_45 hq_46 (Nat.le_refl _)
      clear ht8_2_3_4_5_6_7_8_9_10_11_12_13_14_15_42_43_44_45 hs7_2_3_4_5_6_7_8_9_10_11_12_13_14_15_42_43_44_45 hal_2_3_4_5_6_7_8_9_10_11_12_13_14_15_42_43_44_45 hT_44_45 hT_45
      refine hK.out _ _ (fun _ => HSS.out _ hb_46) (fun hS9 => ?_)
      have hS_46 := hS9 (by decide)
      clear hK K hS9
      try simp only [Act.put, List.setIfInBounds_toArray, List.set_cons_zero, List.set_cons_succ]
      refine wpAnyK_oneW (i := 45) rfl (by kernel_rfl) (by kernel_rfl) (fun K hK => ?_)
      go_simp
      refine (HIN.out _ hb_46 A_46 c_46 hT_46 u_15.heap.size (ein_lies2 (c := 0) (d := c4) (t := s7T) (u := t8T) hl_42_43_44_45_46 trivial hs7_2_3_4_5_6_7_8_9_10_11_12_13_14_15_42_43_44_45_46 ht8_2_3_4_5_6_7_8_9_10_11_12_13_14_15_42_43_44_45_46)).mono ?_
      rintro e u_47 ⟨A_47, c_47, rfl, hT_47, hq_47⟩
      have hb_47 := hb_46.trans (hq_47.mono hb_46.size)
      have hl_42_43_44_45_46_47 := hl_42_43_44_45_46.below hq_47 hl_42_43_44_45_46.lt
      have ht8_2_3_4_5_6_7_8_9_10_11_12_13_14_15_42_43_44_45_46_47 := EIn.below _ ht8_2_3_4_5_6_7_8_9_10_11_12_13_14_15_42_43_44_45_46 hq_47 (Nat.le_refl _)
      have hs7_2_3_4_5_6_7_8_9_10_11_12_13_14_15_42_43_44_45_46_47 := EIn.below _ hs7_2_3_4_5_6_7_8_9_10_11_12_13_14_15_42_43_44_45_46 hq_47 (Nat.le_refl _)
      have hal_2_3_4_5_6_7_8_9_10_11_12_13_14_15_42_43_44_45_46_47 := EIn.below _ hal_2_3_4_5_6_7_8_9_10_11_12_13_14_15_42_43_44_45_46 hq_47 (Nat.le_refl _)
      clear ht8_2_3_4_5_6_7_8_9_10_11_12_13_14_15_42_43_44_45_46 hs7_2_3_4_5_6_7_8_9_10_11_12_13_14_15_42_43_44_45_46 hal_2_3_4_5_6_7_8_9_10_11_12_13_14_15_42_43_44_45_46 hT_46
      refine hK.out _ _ (fun _ => HSS.out _ hb_47) (fun hS9 => ?_)
      have hS_47 := hS9 (by decide)
      clear hK K hS9
      try simp only [Act.put, List.setIfInBounds_toArray, List.set_cons_zero, List.set_cons_succ]
      refine wpAnyK_oneW (i := 46) rfl (by kernel_rfl) (by kernel_rfl) (fun K hK => ?_)
      go_simp
      refine (HX4.out _ hb_47 A_47 c_47 hT_47).mono ?_
      rintro e u_48 ⟨rfl, hq_48⟩
      have hb_48 := hb_47.trans (hq_48.mono hb_47.size)
      have hl_42_43_44_45_46_47_48 := hl_42_43_44_45_46_47.below hq_48 hl_42_43_44_45_46_47.lt
      have ht8_2_3_4_5_6_7_8_9_10_11_12_13_14_15_42_43_44_45_46_47_48 := EIn.below _ ht8_2_3_4_5_6_7_8_9_10_11_12_13_14_15_42_43_44_45_46_47 hq_48 (Nat.le_refl _)
      have hs7_2_3_4_5_6_7_8_9_10_11_12_13_14_15_42_43_44_45_46_47_48 := EIn.below _ hs7_2_3_4_5_6_7_8_9_10_11_12_13_14_15_42_43_44_45_46_47 hq_48 (Nat.le_refl _)
      have hal_2_3_4_5_6_7_8_9_10_11_12_13_14_15_42_43_44_45_46_47_48 := EIn.below _ hal_2_3_4_5_6_7_8_9_10_11_12_13_14_15_42_43_44_45_46_47 hq_48 (Nat.le_refl _)
      clear ht8_2_3_4_5_6_7_8_9_10_11_12_13_14_15_42_43_44_45_46_47 hs7_2_3_4_5_6_7_8_9_10_11_12_13_14_15_42_43_44_45_46_47 hal_2_3_4_5_6_7_8_9_10_11_12_13_14_15_42_43_44_45_46_47 hT_47
      refine hK.out _ _ (fun _ => HSS.out _ hb_48) (fun hS9 => ?_)
      have hS_48 := hS9 (by decide)
      clear hK K hS9
      try simp only [Act.put, List.setIfInBounds_toArray, List.set_cons_zero, List.set_cons_succ]
      refine wpAnyK_take (i := 47) (oi := ⟨some 61, _, _, _, _, _⟩) (v := .bool true) rfl (by kernel_rfl) (by kernel_rfl) (by kernel_rfl) (by kernel_rfl) (fun _ _ _ h => h) (.inl ⟨by kernel_rfl, fun W hW => by kernel_rfl⟩) hS_48 ?_
      try simp only [Act.put, List.setIfInBounds_toArray, List.set_cons_zero, List.set_cons_succ]
      refine wpAnyK_take (i := 48) (oi := ⟨some 62, _, _, _, _, _⟩) (v := .bool true) rfl (by kernel_rfl) (by kernel_rfl) (by kernel_rfl) (by kernel_rfl) (fun _ _ _ h => h) (.inl ⟨by kernel_rfl, fun W hW => by kernel_rfl⟩) hS_48 ?_
      try simp only [Act.put, List.setIfInBounds_toArray, List.set_cons_zero, List.set_cons_succ]
      refine wpAnyK_one (i := 49) rfl rfl (by kernel_rfl) (fun K hK => ?_)
      go_simp
      refine hK.out _ _ (fun h => absurd rfl h) (fun _ => ?_)
      clear hK K
      try simp only [Act.put, List.setIfInBounds_toArray, List.set_cons_zero, List.set_cons_succ]
      refine wpAnyK_done (by kernel_rfl) ?_ _
      go_wp2_with fail
      go_ret
      exact ⟨rfl, HB.out.trans (hb_48.mono HB.out.size)⟩
  · go_simp
    have hb_50 := Below.alloc hb_14 hb_14.size (.cells #[.int .i64 7, .int .i64 7, .string n0B, .slice none 0 (capF 0 0), .int .i64 2, .int .i64 0, .string n0B, .slice A4 1 (capF 1 c4)] 24)
    have hl_50 : Lies (u_14.alloc (.cells #[.int .i64 7, .int .i64 7, .string n0B, .slice none 0 (capF 0 0), .int .i64 2, .int .i64 0, .string n0B, .slice A4 1 (capF 1 c4)] 24)) (u_14.heap.size) 24 #[.int .i64 7, .int .i64 7, .string n0B, .slice none 0 (capF 0 0), .int .i64 2, .int .i64 0, .string n0B, .slice A4 1 (capF 1 c4)] := Lies.new _ _ _
    refine hK.out _ _ (fun _ => HSS.out _ hb_50) (fun hS9 => ?_)
    have hS_50 := hS9 (by decide)
    clear hK K hS9
    try simp only [Act.put, List.setIfInBounds_toArray, List.set_cons_zero, List.set_cons_succ]
    have ht8_2_3_4_5_6_7_8_9_10_11_12_13_14_50 := EIn.below (w' := (u_14.alloc (.cells #[.int .i64 7, .int .i64 7, .string n0B, .slice none 0 (capF 0 0), .int .i64 2, .int .i64 0, .string n0B, .slice A4 1 (capF 1 c4)] 24))) _ ht8_2_3_4_5_6_7_8_9_10_11_12_13_14 ((Below.refl _ _).alloc (Nat.le_refl _) _) (Nat.le_refl _)
    have hs7_2_3_4_5_6_7_8_9_10_11_12_13_14_50 := EIn.below (w' := (u_14.alloc (.cells #[.int .i64 7, .int .i64 7, .string n0B, .slice none 0 (capF 0 0), .int .i64 2, .int .i64 0, .string n0B, .slice A4 1 (capF 1 c4)] 24))) _ hs7_2_3_4_5_6_7_8_9_10_11_12_13_14 ((Below.refl _ _).alloc (Nat.le_refl _) _) (Nat.le_refl _)
    have hal_2_3_4_5_6_7_8_9_10_11_12_13_14_50 := EIn.below (w' := (u_14.alloc (.cells #[.int .i64 7, .int .i64 7, .string n0B, .slice none 0 (capF 0 0), .int .i64 2, .int .i64 0, .string n0B, .slice A4 1 (capF 1 c4)] 24))) _ hal_2_3_4_5_6_7_8_9_10_11_12_13_14 ((Below.refl _ _).alloc (Nat.le_refl _) _) (Nat.le_refl _)
    refine wpAnyK_oneW (i := 37) rfl (by kernel_rfl) (by kernel_rfl) (fun K hK => ?_)
    go_simp
    refine (HV0.out _ hb_50).mono ?_
    rintro e u_51 ⟨A_51, c_51, rfl, hT_51, hq_51⟩
    have hb_51 := hb_50.trans (hq_51.mono hb_50.size)
    have hl_50_51 := hl_50.below hq_51 hl_50.lt
    have ht8_2_3_4_5_6_7_8_9_10_11_12_13_14_50_51 := EIn.below _ ht8_2_3_4_5_6_7_8_9_10_11_12_13_14_50 hq_51 (Nat.le_refl _)
    have hs7_2_3_4_5_6_7_8_9_10_11_12_13_14_50_51 := EIn.below _ hs7_2_3_4_5_6_7_8_9_10_11_12_13_14_50 hq_51 (Nat.le_refl _)
    have hal_2_3_4_5_6_7_8_9_10_11_12_13_14_50_51 := EIn.below _ hal_2_3_4_5_6_7_8_9_10_11_12_13_14_50 hq_51 (Nat.le_refl _)
    clear ht8_2_3_4_5_6_7_8_9_10_11_12_13_14_50 hs7_2_3_4_5_6_7_8_9_10_11_12_13_14_50 hal_2_3_4_5_6_7_8_9_10_11_12_13_14_50
    refine hK.out _ _ (fun _ => HSS.out _ hb_51) (fun hS9 => ?_)
    have hS_51 := hS9 (by decide)
    clear hK K hS9
    try simp only [Act.put, List.setIfInBounds_toArray, List.set_cons_zero, List.set_cons_succ]
    refine wpAnyK_oneW (i := 38) rfl (by kernel_rfl) (by kernel_rfl) (fun K hK => ?_)
    go_simp
    refine (HV1.out _ hb_51).mono ?_
    rintro e u_52 ⟨A_52, c_52, rfl, hT_52, hq_52⟩
    have hb_52 := hb_51.trans (hq_52.mono hb_51.size)
    have hl_50_51_52 := hl_50_51.below hq_52 hl_50_51.lt
    have ht8_2_3_4_5_6_7_8_9_10_11_12_13_14_50_51_52 := EIn.below _ ht8_2_3_4_5_6_7_8_9_10_11_12_13_14_50_51 hq_52 (Nat.le_refl _)
    have hs7_2_3_4_5_6_7_8_9_10_11_12_13_14_50_51_52 := EIn.below _ hs7_2_3_4_5_6_7_8_9_10_11_12_13_14_50_51 hq_52 (Nat.le_refl _)
    have hal_2_3_4_5_6_7_8_9_10_11_12_13_14_50_51_52 := EIn.below _ hal_2_3_4_5_6_7_8_9_10_11_12_13_14_50_51 hq_52 (Nat.le_refl _)
    have hT_51_52 := EIn.below _ hT_51 hq_52 (Nat.le_refl _)
    clear ht8_2_3_4_5_6_7_8_9_10_11_12_13_14_50_51 hs7_2_3_4_5_6_7_8_9_10_11_12_13_14_50_51 hal_2_3_4_5_6_7_8_9_10_11_12_13_14_50_51 hT_51
    refine hK.out _ _ (fun _ => HSS.out _ hb_52) (fun hS9 => ?_)
    have hS_52 := hS9 (by decide)
    clear hK K hS9
    try simp only [Act.put, List.setIfInBounds_toArray, List.set_cons_zero, List.set_cons_succ]
    refine wpAnyK_oneW (i := 39) rfl (by kernel_rfl) (by kernel_rfl) (fun K hK => ?_)
    go_simp
    refine (HA2.out _ hb_52 A_51 c_51 hT_51_52 A_52 c_52 hT_52).mono ?_
    rintro e u_53 ⟨A_53, c_53, rfl, hT_53, hq_53⟩
    have hb_53 := hb_52.trans (hq_53.mono hb_52.size)
    have hl_50_51_52_53 := hl_50_51_52.below hq_53 hl_50_51_52.lt
    have ht8_2_3_4_5_6_7_8_9_10_11_12_13_14_50_51_52_53 := EIn.below _ ht8_2_3_4_5_6_7_8_9_10_11_12_13_14_50_51_52 hq_53 (Nat.le_refl _)
    have hs7_2_3_4_5_6_7_8_9_10_11_12_13_14_50_51_52_53 := EIn.below _ hs7_2_3_4_5_6_7_8_9_10_11_12_13_14_50_51_52 hq_53 (Nat.le_refl _)
    have hal_2_3_4_5_6_7_8_9_10_11_12_13_14_50_51_52_53 := EIn.below _ hal_2_3_4_5_6_7_8_9_10_11_12_13_14_50_51_52 hq_53 (Nat.le_refl _)
    clear ht8_2_3_4_5_6_7_8_9_10_11_12_13_14_50_51_52 hs7_2_3_4_5_6_7_8_9_10_11_12_13_14_50_51_52 hal_2_3_4_5_6_7_8_9_10_11_12_13_14_50_51_52 hT_51_52 hT_52
    refine hK.out _ _ (fun _ => HSS.out _ hb_53) (fun hS9 => ?_)
    have hS_53 := hS9 (by decide)
    clear hK K hS9
    try simp only [Act.put, List.setIfInBounds_toArray, List.set_cons_zero, List.set_cons_succ]
    refine wpAnyK_oneW (i := 40) rfl (by kernel_rfl) (by kernel_rfl) (fun K hK => ?_)
    go_simp
    refine (HV2.out _ hb_53).mono ?_
    rintro e u_54 ⟨A_54, c_54, rfl, hT_54, hq_54⟩
    have hb_54 := hb_53.trans (hq_54.mono hb_53.size)
    have hl_50_51_52_53_54 := hl_50_51_52_53.below hq_54 hl_50_51_52_53.lt
    have ht8_2_3_4_5_6_7_8_9_10_11_12_13_14_50_51_52_53_54 := EIn.below _ ht8_2_3_4_5_6_7_8_9_10_11_12_13_14_50_51_52_53 hq_54 (Nat.le_refl _)
    have hs7_2_3_4_5_6_7_8_9_10_11_12_13_14_50_51_52_53_54 := EIn.below _ hs7_2_3_4_5_6_7_8_9_10_11_12_13_14_50_51_52_53 hq_54 (Nat.le_refl _)
    have hal_2_3_4_5_6_7_8_9_10_11_12_13_14_50_51_52_53_54 := EIn.below _ hal_2_3_4_5_6_7_8_9_10_11_12_13_14_50_51_52_53 hq_54 (Nat.le_refl _)
    have hT_53_54 := EIn.below _ hT_53 hq_54 (Nat.le_refl _)
    clear ht8_2_3_4_5_6_7_8_9_10_11_12_13_14_50_51_52_53 hs7_2_3_4_5_6_7_8_9_10_11_12_13_14_50_51_52_53 hal_2_3_4_5_6_7_8_9_10_11_12_13_14_50_51_52_53 hT_53
    refine hK.out _ _ (fun _ => HSS.out _ hb_54) (fun hS9 => ?_)
    have hS_54 := hS9 (by decide)
    clear hK K hS9
    try simp only [Act.put, List.setIfInBounds_toArray, List.set_cons_zero, List.set_cons_succ]
    refine wpAnyK_oneW (i := 41) rfl (by kernel_rfl) (by kernel_rfl) (fun K hK => ?_)
    go_simp
    refine (HA3.out _ hb_54 A_53 c_53 hT_53_54 A_54 c_54 hT_54).mono ?_
    rintro e u_55 ⟨A_55, c_55, rfl, hT_55, hq_55⟩
    have hb_55 := hb_54.trans (hq_55.mono hb_54.size)
    have hl_50_51_52_53_54_55 := hl_50_51_52_53_54.below hq_55 hl_50_51_52_53_54.lt
    have ht8_2_3_4_5_6_7_8_9_10_11_12_13_14_50_51_52_53_54_55 := EIn.below _ ht8_2_3_4_5_6_7_8_9_10_11_12_13_14_50_51_52_53_54 hq_55 (Nat.le_refl _)
    have hs7_2_3_4_5_6_7_8_9_10_11_12_13_14_50_51_52_53_54_55 := EIn.below _ hs7_2_3_4_5_6_7_8_9_10_11_12_13_14_50_51_52_53_54 hq_55 (Nat.le_refl _)
    have hal_2_3_4_5_6_7_8_9_10_11_12_13_14_50_51_52_53_54_55 := EIn.below _ hal_2_3_4_5_6_7_8_9_10_11_12_13_14_50_51_52_53_54 hq_55 (Nat.le_refl _)
    clear ht8_2_3_4_5_6_7_8_9_10_11_12_13_14_50_51_52_53_54 hs7_2_3_4_5_6_7_8_9_10_11_12_13_14_50_51_52_53_54 hal_2_3_4_5_6_7_8_9_10_11_12_13_14_50_51_52_53_54 hT_53_54 hT_54
    refine hK.out _ _ (fun _ => HSS.out _ hb_55) (fun hS9 => ?_)
    have hS_55 := hS9 (by decide)
    clear hK K hS9
    try simp only [Act.put, List.setIfInBounds_toArray, List.set_cons_zero, List.set_cons_succ]
    refine wpAnyK_oneW (i := 45) rfl (by kernel_rfl) (by kernel_rfl) (fun K hK => ?_)
    go_simp
    refine (HIN.out _ hb_55 A_55 c_55 hT_55 u_14.heap.size (ein_lies2 (c := 0) (d := c4) (t := s7T) (u := t8T) hl_50_51_52_53_54_55 trivial hs7_2_3_4_5_6_7_8_9_10_11_12_13_14_50_51_52_53_54_55 ht8_2_3_4_5_6_7_8_9_10_11_12_13_14_50_51_52_53_54_55)).mono ?_
    rintro e u_56 ⟨A_56, c_56, rfl, hT_56, hq_56⟩
    have hb_56 := hb_55.trans (hq_56.mono hb_55.size)
    have hl_50_51_52_53_54_55_56 := hl_50_51_52_53_54_55.below hq_56 hl_50_51_52_53_54_55.lt
    have ht8_2_3_4_5_6_7_8_9_10_11_12_13_14_50_51_52_53_54_55_56 := EIn.below _ ht8_2_3_4_5_6_7_8_9_10_11_12_13_14_50_51_52_53_54_55 hq_56 (Nat.le_refl _)
    have hs7_2_3_4_5_6_7_8_9_10_11_12_13_14_50_51_52_53_54_55_56 := EIn.below _ hs7_2_3_4_5_6_7_8_9_10_11_12_13_14_50_51_52_53_54_55 hq_56 (Nat.le_refl _)
    have hal_2_3_4_5_6_7_8_9_10_11_12_13_14_50_51_52_53_54_55_56 := EIn.below _ hal_2_3_4_5_6_7_8_9_10_11_12_13_14_50_51_52_53_54_55 hq_56 (Nat.le_refl _)
    clear ht8_2_3_4_5_6_7_8_9_10_11_12_13_14_50_51_52_53_54_55 hs7_2_3_4_5_6_7_8_9_10_11_12_13_14_50_51_52_53_54_55 hal_2_3_4_5_6_7_8_9_10_11_12_13_14_50_51_52_53_54_55 hT_55
    refine hK.out _ _ (fun _ => HSS.out _ hb_56) (fun hS9 => ?_)
    have hS_56 := hS9 (by decide)
    clear hK K hS9
    try simp only [Act.put, List.setIfInBounds_toArray, List.set_cons_zero, List.set_cons_succ]
    refine wpAnyK_oneW (i := 46) rfl (by kernel_rfl) (by kernel_rfl) (fun K hK => ?_)
    go_simp
    refine (HX4.out _ hb_56 A_56 c_56 hT_56).mono ?_
    rintro e u_57 ⟨rfl, hq_57⟩
    have hb_57 := hb_56.trans (hq_57.mono hb_56.size)
    have hl_50_51_52_53_54_55_56_57 := hl_50_51_52_53_54_55_56.below hq_57 hl_50_51_52_53_54_55_56.lt
    have ht8_2_3_4_5_6_7_8_9_10_11_12_13_14_50_51_52_53_54_55_56_57 := EIn.below _ ht8_2_3_4_5_6_7_8_9_10_11_12_13_14_50_51_52_53_54_55_56 hq_57 (Nat.le_refl _)
    have hs7_2_3_4_5_6_7_8_9_10_11_12_13_14_50_51_52_53_54_55_56_57 := EIn.below _ hs7_2_3_4_5_6_7_8_9_10_11_12_13_14_50_51_52_53_54_55_56 hq_57 (Nat.le_refl _)
    have hal_2_3_4_5_6_7_8_9_10_11_12_13_14_50_51_52_53_54_55_56_57 := EIn.below _ hal_2_3_4_5_6_7_8_9_10_11_12_13_14_50_51_52_53_54_55_56 hq_57 (Nat.le_refl _)
    clear ht8_2_3_4_5_6_7_8_9_10_11_12_13_14_50_51_52_53_54_55_56 hs7_2_3_4_5_6_7_8_9_10_11_12_13_14_50_51_52_53_54_55_56 hal_2_3_4_5_6_7_8_9_10_11_12_13_14_50_51_52_53_54_55_56 hT_56
    refine hK.out _ _ (fun _ => HSS.out _ hb_57) (fun hS9 => ?_)
    have hS_57 := hS9 (by decide)
    clear hK K hS9
    try simp only [Act.put, List.setIfInBounds_toArray, List.set_cons_zero, List.set_cons_succ]
    refine wpAnyK_take (i := 47) (oi := ⟨some 61, _, _, _, _, _⟩) (v := .bool true) rfl (by kernel_rfl) (by kernel_rfl) (by kernel_rfl) (by kernel_rfl) (fun _ _ _ h => h) (.inl ⟨by kernel_rfl, fun W hW => by kernel_rfl⟩) hS_57 ?_
    try simp only [Act.put, List.setIfInBounds_toArray, List.set_cons_zero, List.set_cons_succ]
    refine wpAnyK_take (i := 48) (oi := ⟨some 62, _, _, _, _, _⟩) (v := .bool true) rfl (by kernel_rfl) (by kernel_rfl) (by kernel_rfl) (by kernel_rfl) (fun _ _ _ h => h) (.inl ⟨by kernel_rfl, fun W hW => by kernel_rfl⟩) hS_57 ?_
    try simp only [Act.put, List.setIfInBounds_toArray, List.set_cons_zero, List.set_cons_succ]
    refine wpAnyK_one (i := 49) rfl rfl (by kernel_rfl) (fun K hK => ?_)
    go_simp
    refine hK.out _ _ (fun h => absurd rfl h) (fun _ => ?_)
    clear hK K
    try simp only [Act.put, List.setIfInBounds_toArray, List.set_cons_zero, List.set_cons_succ]
    refine wpAnyK_done (by kernel_rfl) ?_ _
    go_wp2_with fail
    go_ret
    exact ⟨rfl, HB.out.trans (hb_57.mono HB.out.size)⟩
end Lx
end Go.Proofs.Ytcgiloccmehbeaa
