/-
  Texts that lie one behind the other: ScS MayInv ScU ScW Few ScX.
-/
import Derived.Test.YtobdoahdjbmflaaGreatDoorC9
import Derived.Test.YtobdoahdjbmflaaGreatDoorC10
import Derived.Test.YtobdoahdjbmflaaGreatDoorC14
import Derived.Test.YtobdoahdjbmflaaGreatDoorC1
import Derived.Test.YtobdoahdjbmflaaGreatDoorC8
namespace Go.Proofs.YtobdoahdjbmflaaGreatDoor
open Go Go.RowKit
namespace Lx
set_option maxRecDepth 100000
theorem mayV_alt (t : Tr) (h : mayV t = true) : AltT t := by
  have hE : mayRT t false = mayV t := by
    rw [may_eq]
    unfold mayV
    by_cases h : t.kind = 8 <;> simp [h]
  exact altT_of t false (by rw [hE, h])
theorem mayV_kind (t : Tr) (h : mayV t = true) : t.kind ≠ 8 := by
  unfold mayV at h
  simp only [Bool.and_eq_true, decide_eq_true_eq] at h
  exact h.1
/-- What Check tells. -/
def checkV (t : Tr) : Int × Int := if mayV t = true then badT (consT t) [] [] t else (0, 1)
def freeV5 (t : Tr) : List ByteArray := if mayV t = true then freeT t else []
def consV5 (t : Tr) : List (ByteArray × Int) := if mayV t = true then consT t else []
/-- A tree to go through. -/
structure Fit (w : World) (t : Tr) (A : Option Addr) : Prop where
  dep : depthT t ≤ 4000
  siz : sizeT t ≤ 1000000
  lies : TIn w Any t A
  signs : Signs w
set_option maxHeartbeats 2000000 in
theorem sCheck_any (t : Tr) (A : Option Addr) (c : Nat) (w : World) (h : Fit w t A) :
    Calls Tryz.prog 9 #[tv t A c] w fun e w' => e = .returned (.tuple #[.int .i64 (checkV t).1, .int .i64 (checkV t).2]) ∧ Below w.heap.size w w' := by
  by_cases hm : mayV t = true
  · have hc : checkV t = firstS (consT t) (spotsT [] false t) := by
      rw [checkV, if_pos hm, first_spots _ t [] [] false (mayV_alt t hm) (by simp [mayV_kind t hm])]
    rw [hc]
    exact check_anyS t A c w h.dep h.siz hm h.lies h.signs (mayV_ok t hm)
  · have hm' : mayV t = false := by simpa using hm
    rw [checkV, if_neg hm]
    show Calls Tryz.prog 9 #[.agg #[.int .i64 t.kind, .string t.name, .int .i64 t.n, .int .i64 t.place, .slice A t.parts.length (capF t.parts.length c)]] w _
    obtain ⟨w0, hw0⟩ : ∃ w0, w0 = ((w.alloc (.cells #[.int .i64 t.kind, .string t.name, .int .i64 t.n, .int .i64 t.place, .slice A t.parts.length (capF t.parts.length c)] 24)).alloc (.cells #[.int .i64 0] 3)).alloc (.cells #[.int .i64 0] 27) := ⟨_, rfl⟩
    have hb0 : Below w.heap.size w w0 := by rw [hw0]; exact (((Below.refl _ w).alloc (Nat.le_refl _) _).alloc (by simp) _).alloc (by simp; omega) _
    have L0 : Lies w0 w.heap.size 24 #[.int .i64 t.kind, .string t.name, .int .i64 t.n, .int .i64 t.place, .slice A t.parts.length (capF t.parts.length c)] := by rw [hw0]; exact ((Lies.new _ _ _).old _).old _
    have L1 : Lies w0 (w.heap.size + 1) 3 #[.int .i64 0] := by rw [hw0]; exact (lies_nextS _ _ _ _ (by simp)).old _
    have L2 : Lies w0 (w.heap.size + 1 + 1) 27 #[.int .i64 0] := by rw [hw0]; exact lies_nextS _ _ _ _ (by simp)
    obtain ⟨c0, c1, c2, c3, c4⟩ := five_cellsS L0
    have hMay : Calls Tryz.prog 25 #[.agg #[.int .i64 t.kind, .string t.name, .int .i64 t.n, .int .i64 t.place, .slice A t.parts.length (capF t.parts.length c)]] w0 fun e w' => e = .returned (.bool false) ∧ Below w0.heap.size w0 w' := by
      have := tmay_any t A c w0 (TIn.below t h.lies hb0 (Nat.le_refl _)) (h.signs.below hb0 h.signs.pos)
      rwa [hm'] at this
    clear h hm hm' L0
    go_enter Tryz.func9, Tryz.ntmps9
    go_upto_region 1 with fail
    rw [← hw0]
    clear hw0
    go_wp2_with (go_at_call 25; refine hMay.mono ?_; rintro e w1 ⟨rfl, hb1⟩; have M1 := L1.below hb1 L1.lt; have M2 := L2.below hb1 L2.lt; have x0 : w1.cell? ⟨w.heap.size + 1, 0, none⟩ = some (.int .i64 0) := Lies.cell M1 0; have x1 : w1.frozen? ⟨w.heap.size + 1, 0, none⟩ = false := Lies.frozen M1 0; have y0 : w1.cell? ⟨w.heap.size + 1 + 1, 0, none⟩ = some (.int .i64 0) := Lies.cell M2 0; have y1 : w1.frozen? ⟨w.heap.size + 1 + 1, 0, none⟩ = false := Lies.frozen M2 0)
    have p1 : Lies ((w1.setCell ⟨w.heap.size + 1, 0, none⟩ (.int .i64 0)).setCell ⟨w.heap.size + 1 + 1, 0, none⟩ (.int .i64 1)) (w.heap.size + 1) 3 #[.int .i64 0] := by
      have h1 := Lies.put M1 0 (.int .i64 0)
      exact Lies.far (p := ⟨w.heap.size + 1 + 1, 0, none⟩) (by simpa using h1) (by show w.heap.size + 1 ≠ w.heap.size + 1 + 1; omega) _
    have p2 : Lies ((w1.setCell ⟨w.heap.size + 1, 0, none⟩ (.int .i64 0)).setCell ⟨w.heap.size + 1 + 1, 0, none⟩ (.int .i64 1)) (w.heap.size + 1 + 1) 27 #[.int .i64 1] := by
      have h1 : Lies (w1.setCell ⟨w.heap.size + 1, 0, none⟩ (.int .i64 0)) (w.heap.size + 1 + 1) 27 #[.int .i64 0] := Lies.far (p := ⟨w.heap.size + 1, 0, none⟩) M2 (by show w.heap.size + 1 + 1 ≠ w.heap.size + 1; omega) _
      simpa using Lies.put h1 0 (.int .i64 1)
    refine bodyPost_ret (results_chkS rfl _ (g1 := w.heap.size + 1) (g2 := w.heap.size + 1 + 1) (x := 0) (y := 1) rfl rfl (Lies.cell p1 0) (Lies.cell p2 0)) rfl ⟨rfl, ?_⟩
    exact ((hb0.trans (hb1.mono hb0.size)).setCell (p := ⟨w.heap.size + 1, 0, none⟩) (by show w.heap.size ≤ w.heap.size + 1; omega) _).setCell (p := ⟨w.heap.size + 1 + 1, 0, none⟩) (by show w.heap.size ≤ w.heap.size + 1 + 1; omega) _
/-- A row of names that is the call's own. -/
def GiveN (l : List ByteArray) (w : World) (e : Ending) (w' : World) : Prop :=
  ∃ A c, e = .returned (.slice A l.length c) ∧ w'.ownsRow w.heap.size 9 1 (.slice A l.length c) l.length (cellsS l) ∧ Below w.heap.size w w'
def GiveA (l : List (ByteArray × Int)) (w : World) (e : Ending) (w' : World) : Prop :=
  ∃ A c, e = .returned (.slice A l.length c) ∧ w'.ownsRow w.heap.size 43 2 (.slice A l.length c) l.length (cellsA l) ∧ Below w.heap.size w w'
set_option maxHeartbeats 2000000 in
theorem sFree_any (t : Tr) (A : Option Addr) (c : Nat) (w : World) (h : Fit w t A) : Calls Tryz.prog 12 #[tv t A c] w (GiveN (freeV5 t) w) := by
  by_cases hm : mayV t = true
  · rw [freeV5, if_pos hm]
    exact free_any t A c w h.dep h.siz (mayV_ok t hm) hm h.lies h.signs
  · have hm' : mayV t = false := by simpa using hm
    rw [freeV5, if_neg hm]
    show Calls Tryz.prog 12 #[.agg #[.int .i64 t.kind, .string t.name, .int .i64 t.n, .int .i64 t.place, .slice A t.parts.length (capF t.parts.length c)]] w _
    obtain ⟨w0, hw0⟩ : ∃ w0, w0 = w.alloc (.cells #[.int .i64 t.kind, .string t.name, .int .i64 t.n, .int .i64 t.place, .slice A t.parts.length (capF t.parts.length c)] 24) := ⟨_, rfl⟩
    have hb0 : Below w.heap.size w w0 := by rw [hw0]; exact (Below.refl _ w).alloc (Nat.le_refl _) _
    have L0 : Lies w0 w.heap.size 24 #[.int .i64 t.kind, .string t.name, .int .i64 t.n, .int .i64 t.place, .slice A t.parts.length (capF t.parts.length c)] := by rw [hw0]; exact Lies.new _ _ _
    obtain ⟨c0, c1, c2, c3, c4⟩ := five_cellsS L0
    have hMay : Calls Tryz.prog 25 #[.agg #[.int .i64 t.kind, .string t.name, .int .i64 t.n, .int .i64 t.place, .slice A t.parts.length (capF t.parts.length c)]] w0 fun e w' => e = .returned (.bool false) ∧ Below w0.heap.size w0 w' := by
      have := tmay_any t A c w0 (TIn.below t h.lies hb0 (Nat.le_refl _)) (h.signs.below hb0 h.signs.pos)
      rwa [hm'] at this
    clear h hm hm' L0
    go_enter Tryz.func12, Tryz.ntmps12
    go_upto_region 1 with fail
    rw [← hw0]
    clear hw0
    go_wp2_with (go_at_call 25; refine hMay.mono ?_; rintro e w1 ⟨rfl, hb1⟩)
    go_ret
    exact ⟨none, 0, rfl, World.ownsRow_nil _ _ _ _, hb0.trans (hb1.mono hb0.size)⟩
set_option maxHeartbeats 2000000 in
theorem sCons_any (t : Tr) (A : Option Addr) (c : Nat) (w : World) (h : Fit w t A) : Calls Tryz.prog 15 #[tv t A c] w (GiveA (consV5 t) w) := by
  show Calls Tryz.prog 15 #[.agg #[.int .i64 t.kind, .string t.name, .int .i64 t.n, .int .i64 t.place, .slice A t.parts.length (capF t.parts.length c)]] w _
  obtain ⟨w0, hw0⟩ : ∃ w0, w0 = w.alloc (.cells #[.int .i64 t.kind, .string t.name, .int .i64 t.n, .int .i64 t.place, .slice A t.parts.length (capF t.parts.length c)] 24) := ⟨_, rfl⟩
  have hb0 : Below w.heap.size w w0 := by rw [hw0]; exact (Below.refl _ w).alloc (Nat.le_refl _) _
  have L0 : Lies w0 w.heap.size 24 #[.int .i64 t.kind, .string t.name, .int .i64 t.n, .int .i64 t.place, .slice A t.parts.length (capF t.parts.length c)] := by rw [hw0]; exact Lies.new _ _ _
  obtain ⟨c0, c1, c2, c3, c4⟩ := five_cellsS L0
  have hMay : Calls Tryz.prog 25 #[.agg #[.int .i64 t.kind, .string t.name, .int .i64 t.n, .int .i64 t.place, .slice A t.parts.length (capF t.parts.length c)]] w0 fun e w' => e = .returned (.bool (mayV t)) ∧ Below w0.heap.size w0 w' := tmay_any t A c w0 (TIn.below t h.lies hb0 (Nat.le_refl _)) (h.signs.below hb0 h.signs.pos)
  by_cases hm : mayV t = true
  · rw [hm] at hMay
    rw [consV5, if_pos hm]
    have HC : Hid (∀ W, Below w0.heap.size w0 W → Calls Tryz.prog 26 #[.agg #[.int .i64 t.kind, .string t.name, .int .i64 t.n, .int .i64 t.place, .slice A t.parts.length (capF t.parts.length c)]] W (GiveA (consT t) W)) := Lib.hid fun W hb => cons_any t A c W h.dep h.siz (mayV_ok t hm) (TIn.below t (TIn.below t h.lies hb0 (Nat.le_refl _)) hb (Nat.le_refl _))
    clear h hm
    go_enter Tryz.func15, Tryz.ntmps15
    go_upto_region 1 with fail
    rw [← hw0]
    clear hw0
    go_wp2_with (first
      | (go_at_call 25; refine hMay.mono ?_; rintro e w1 ⟨rfl, hb1⟩; have M0 := L0.below hb1 L0.lt; obtain ⟨d0, d1, d2, d3, d4⟩ := five_cellsS M0)
      | (go_at_call 26; refine (HC.out w1 hb1).mono ?_; rintro e w2 ⟨A2, k2, rfl, hr2, hb2⟩))
    go_ret
    have hw1 : w.heap.size ≤ w1.heap.size := by have := hb0.size; have := hb1.size; omega
    exact ⟨_, _, rfl, own_base hr2 hw1, (hb0.trans (hb1.mono hb0.size)).trans (hb2.mono hw1)⟩
  · have hm' : mayV t = false := by simpa using hm
    rw [hm'] at hMay
    rw [consV5, if_neg hm]
    clear h hm hm' L0
    go_enter Tryz.func15, Tryz.ntmps15
    go_upto_region 1 with fail
    rw [← hw0]
    clear hw0
    go_wp2_with (go_at_call 25; refine hMay.mono ?_; rintro e w1 ⟨rfl, hb1⟩)
    go_ret
    exact ⟨none, 0, rfl, World.ownsRow_nil _ _ _ _, hb0.trans (hb1.mono hb0.size)⟩
end Lx
end Go.Proofs.YtobdoahdjbmflaaGreatDoor
namespace Go.Proofs.YtobdoahdjbmflaaGreatDoor
namespace Lx
set_option maxRecDepth 100000
theorem may_inv {k n a : Int} {s : ByteArray} {l : List Tr} (h : mayT (.node k s n a l) = true) : nameOkV k s.data.toList = true ∧ partsV k n l.length = true ∧ 0 ≤ a ∧ mayL k n 0 l = true := by
  rw [mayT] at h
  have hf := fits_eq k s.data.toList n a l.length
  cases hs : shapeV k with
  | none => rw [hs] at h; cases h
  | some g =>
    rw [hs] at h hf
    simp only at h hf
    rw [Bool.and_eq_true] at h
    rw [hf] at h
    simp only [Bool.and_eq_true, decide_eq_true_eq] at h
    exact ⟨h.1.1, h.1.2.1, h.1.2.2, h.2⟩
theorem mayL_memT (k n : Int) : ∀ (l : List Tr) (i : Nat), mayL k n i l = true → ∀ t ∈ l, mayT t = true
  | [], _, _, t, h => by simp at h
  | u :: r, i, h, t, ht => by
    rw [mayL, Bool.and_eq_true, Bool.and_eq_true] at h
    rcases List.mem_cons.1 ht with rfl | ht
    · exact h.2.1
    · exact mayL_memT k n r (i + 1) h.2.2 t ht
theorem mayL_stands (k n : Int) : ∀ (l : List Tr) (i j : Nat) (t : Tr), mayL k n i l = true → l[j]? = some t → standsV k n (i + j) t.kind = true
  | [], _, _, _, _, h => by simp at h
  | u :: r, i, 0, t, h, ht => by
    rw [mayL, Bool.and_eq_true, Bool.and_eq_true] at h
    simp only [List.getElem?_cons_zero, Option.some.injEq] at ht
    subst ht
    exact h.1
  | u :: r, i, j + 1, t, h, ht => by
    rw [mayL, Bool.and_eq_true, Bool.and_eq_true] at h
    have := mayL_stands k n r (i + 1) j t h.2.2 (by simpa using ht)
    rwa [show i + 1 + j = i + (j + 1) from by omega] at this
end Lx
end Go.Proofs.YtobdoahdjbmflaaGreatDoor
namespace Go.Proofs.YtobdoahdjbmflaaGreatDoor
namespace Lx
set_option maxRecDepth 100000
theorem inN_mem (l : List ByteArray) (s : ByteArray) : inN l s = true ↔ s ∈ l := by
  induction l with
  | nil => simp [inN]
  | cons x r ih =>
    rw [inN, Bool.or_eq_true, ih, List.mem_cons, decide_eq_true_eq]
    exact ⟨fun h => h.imp Eq.symm id, fun h => h.imp Eq.symm id⟩
theorem innerN_app (k n : Int) (s : ByteArray) (i : Nat) (all : List Tr) (b c : List ByteArray) : innerN k n s i all (b ++ c) = b ++ innerN k n s i all c := by
  unfold innerN
  repeat' split
  all_goals simp
mutual
theorem loose_app (b : List ByteArray) : ∀ (t : Tr) (c : List ByteArray), looseT (b ++ c) t = (looseT c t).filter (fun s => !inN b s)
  | .node k s n a l, c => by
    rw [looseT, looseT, List.filter_append, loose_appL b l k n s l c 0, inN_app]
    congr 1
    by_cases hk : k = 1
    · cases h1 : inN b s <;> cases h2 : inN c s <;> simp [hk, h1]
    · simp [hk]
theorem loose_appL (b : List ByteArray) : ∀ (l : List Tr) (k n : Int) (s : ByteArray) (all : List Tr) (c : List ByteArray) (i : Nat), looseL k n s all (b ++ c) i l = (looseL k n s all c i l).filter (fun s => !inN b s)
  | [], _, _, _, _, _, _ => by rw [looseL, looseL]; rfl
  | t :: r, k, n, s, all, c, i => by
    rw [looseL, looseL, List.filter_append, loose_appL b r, innerN_app]
    congr 1
    split
    · rfl
    · exact loose_app b t _
end
theorem loose_nil (b : List ByteArray) (t : Tr) : looseT b t = (looseT [] t).filter (fun s => !inN b s) := by
  have := loose_app b t []
  rwa [List.append_nil] at this
theorem once_memB : ∀ (l a : List ByteArray) (s : ByteArray), s ∈ onceB a l ↔ s ∈ a ∨ s ∈ l
  | [], a, s => by rw [onceB]; simp
  | x :: r, a, s => by
    rw [onceB]
    split
    · rename_i h
      rw [once_memB r a s, List.mem_cons]
      constructor
      · rintro (h1 | h1)
        · exact .inl h1
        · exact .inr (.inr h1)
      · rintro (h1 | rfl | h1)
        · exact .inl h1
        · exact .inl ((inN_mem a s).1 h)
        · exact .inr h1
    · rw [once_memB r (a ++ [x]) s, List.mem_append, List.mem_singleton, List.mem_cons, or_assoc]
theorem once_nodup : ∀ (l a : List ByteArray), a.Nodup → (onceB a l).Nodup
  | [], a, h => by rw [onceB]; exact h
  | x :: r, a, h => by
    rw [onceB]
    split
    · exact once_nodup r a h
    · rename_i h1
      refine once_nodup r _ (List.nodup_append.2 ⟨h, by simp, ?_⟩)
      intro y hy z hz e
      rw [List.mem_singleton] at hz
      subst hz e
      exact h1 ((inN_mem a y).2 hy)
theorem ba_back (s : ByteArray) : (⟨s.data.toList.toArray⟩ : ByteArray) = s := by cases s; rfl
theorem sortB_perm (l : List ByteArray) : (sortB l).Perm l := by
  unfold sortB
  have h := (List.mergeSort_perm (l.map fun s => s.data.toList) fun x y => decide (x ≤ y)).map (fun x : List UInt8 => (⟨x.toArray⟩ : ByteArray))
  rw [List.map_map] at h
  have e : (l.map ((fun x : List UInt8 => (⟨x.toArray⟩ : ByteArray)) ∘ fun s => s.data.toList)) = l := by
    conv => rhs; rw [← List.map_id l]
    exact List.map_congr_left fun s _ => ba_back s
  rwa [e] at h
theorem free_mem (t : Tr) (s : ByteArray) : s ∈ freeT t ↔ s ∈ looseT [] t := by
  unfold freeT
  rw [(sortB_perm _).mem_iff, once_memB]
  simp
theorem free_nodup (t : Tr) : (freeT t).Nodup := by
  unfold freeT
  exact (sortB_perm _).nodup_iff.2 (once_nodup _ _ List.nodup_nil)
theorem nodup_le : ∀ {l m : List ByteArray}, l.Nodup → (∀ s ∈ l, s ∈ m) → l.length ≤ m.length
  | [], m, _, _ => by simp
  | x :: r, m, h, hs => by
    obtain ⟨m1, m2, rfl⟩ := List.append_of_mem (hs x List.mem_cons_self)
    rw [List.nodup_cons] at h
    have := nodup_le (m := m1 ++ m2) h.2 fun s hr => by
      have h1 := hs s (List.mem_cons_of_mem _ hr)
      rw [List.mem_append, List.mem_cons] at h1
      rw [List.mem_append]
      rcases h1 with h1 | rfl | h1
      · exact .inl h1
      · exact absurd hr h.1
      · exact .inr h1
    simp only [List.length_append, List.length_cons] at this ⊢
    omega
theorem nodup_len {l m : List ByteArray} (hl : l.Nodup) (hm : m.Nodup) (h : ∀ s, s ∈ l ↔ s ∈ m) : l.length = m.length :=
  Nat.le_antisymm (nodup_le hl fun s hs => (h s).1 hs) (nodup_le hm fun s hs => (h s).2 hs)
/-! What is wrong, and what is free. -/
theorem badS_cases (A : List (ByteArray × Int)) (x : Spot) : (badS A x = 50 ∧ x.free = true) ∨ (x.free = false ∧ (badS A x = 0 ∨ badS A x = 51 ∨ badS A x = 52)) := by
  unfold badS
  cases h : x.free with
  | true => simp
  | false =>
    refine .inr ⟨rfl, ?_⟩
    rw [if_neg (by simp)]
    split
    · exact .inr (.inl rfl)
    · split
      · exact .inr (.inr rfl)
      · exact .inl rfl
theorem first_zero (A : List (ByteArray × Int)) : ∀ l : List Spot, (firstS A l).2 = 0 → ∀ x ∈ l, badS A x = 0
  | [], _, x, hx => by cases hx
  | y :: r, h, x, hx => by
    rw [firstS] at h
    by_cases hy : badS A y ≠ 0
    · rw [if_pos hy] at h; exact absurd h hy
    · rw [if_neg hy] at h
      rcases List.mem_cons.1 hx with rfl | hx
      · simpa using hy
      · exact first_zero A r h x hx
theorem first_is (A : List (ByteArray × Int)) : ∀ l : List Spot, (firstS A l).2 = 0 ∨ ∃ x ∈ l, badS A x ≠ 0 ∧ (firstS A l).2 = badS A x
  | [] => .inl rfl
  | y :: r => by
    rw [firstS]
    by_cases hy : badS A y ≠ 0
    · rw [if_pos hy]; exact .inr ⟨y, List.mem_cons_self, hy, rfl⟩
    · rw [if_neg hy]
      rcases first_is A r with h | ⟨x, hx, h⟩
      · exact .inl h
      · exact .inr ⟨x, List.mem_cons_of_mem _ hx, h⟩
theorem bad_first (t : Tr) (h : mayV t = true) : badT (consT t) [] [] t = firstS (consT t) (spotsT [] false t) :=
  (first_spots _ t [] [] false (mayV_alt t h) (by simp [mayV_kind t h])).symm
theorem free_of_ok (t : Tr) (h : mayV t = true) (hb : (badT (consT t) [] [] t).2 = 0) : looseT [] t = [] := by
  rw [bad_first t h] at hb
  rw [← frees_spots t [] false, freesS, List.map_eq_nil_iff, List.filter_eq_nil_iff]
  intro x hx hf
  have := first_zero _ _ hb x hx
  rcases badS_cases (consT t) x with h1 | h1
  · omega
  · rw [h1.1] at hf; cases hf
theorem free_of_name (t : Tr) (h : mayV t = true) (hb : (badT (consT t) [] [] t).2 = 50) : looseT [] t ≠ [] := by
  rw [bad_first t h] at hb
  rcases first_is (consT t) (spotsT [] false t) with h1 | ⟨x, hx, _, h2⟩
  · omega
  · rw [← frees_spots t [] false, freesS, ne_eq, List.map_eq_nil_iff, List.filter_eq_nil_iff]
    intro hn
    rcases badS_cases (consT t) x with h3 | h3
    · exact hn x hx h3.2
    · omega
theorem freeV_nil {t : Tr} (h : looseT [] t = []) : freeT t = [] := by
  apply List.eq_nil_iff_forall_not_mem.2
  intro s hs
  rw [free_mem, h] at hs
  cases hs
theorem freeV_some {t : Tr} (h : looseT [] t ≠ []) : freeT t ≠ [] := by
  obtain ⟨s, hs⟩ := List.exists_mem_of_ne_nil _ h
  intro e
  have := (free_mem t s).2 hs
  rw [e] at this
  cases this
/-! Names that are free are names. -/
mutual
theorem loose_name : ∀ (t : Tr) (b : List ByteArray), mayT t = true → ∀ s ∈ looseT b t, nameV s.data.toList = true
  | .node k s n a l, b, h, x, hx => by
    obtain ⟨h1, _, _, h4⟩ := may_inv h
    rw [looseT, List.mem_append] at hx
    rcases hx with hx | hx
    · split at hx
      · rename_i hk
        rw [List.mem_singleton] at hx
        subst hx
        rw [nameOkV, if_pos (.inl hk.1)] at h1
        exact h1
      · cases hx
    · exact loose_nameL l k n s l b 0 (fun t ht => mayL_memT k n l 0 h4 t ht) x hx
theorem loose_nameL : ∀ (l : List Tr) (k n : Int) (s : ByteArray) (all : List Tr) (b : List ByteArray) (i : Nat), (∀ t ∈ l, mayT t = true) → ∀ x ∈ looseL k n s all b i l, nameV x.data.toList = true
  | [], _, _, _, _, _, _, _, x, hx => by rw [looseL] at hx; cases hx
  | t :: r, k, n, s, all, b, i, h, x, hx => by
    rw [looseL, List.mem_append] at hx
    rcases hx with hx | hx
    · split at hx
      · cases hx
      · exact loose_name t _ (h t List.mem_cons_self) x hx
    · exact loose_nameL r k n s all b (i + 1) (fun t ht => h t (List.mem_cons_of_mem _ ht)) x hx
end
/-! Functions around a tree. -/
def lamT (s : ByteArray) (t : Tr) : Tr := .node 2 s 0 0 [t]
theorem may_lam (s : ByteArray) (t : Tr) : mayV (lamT s t) = (mayV t && nameV s.data.toList) := by
  simp [lamT, mayV, Tr.kind, mayT, shapeV, fitsV, whatV, mayL, standsV]
  cases nameV s.data.toList <;> simp
theorem loose_lam (s : ByteArray) (t : Tr) : looseT [] (lamT s t) = (looseT [] t).filter (fun x => !inN [s] x) := by
  rw [lamT, looseT, looseL, looseL, if_neg (by omega), if_neg (by show ¬ 0 < 0; omega), List.nil_append, List.append_nil]
  show looseT ([] ++ [s]) t = _
  exact loose_nil [s] t
theorem met_lam (s : ByteArray) (t : Tr) : metT (lamT s t) = metT t := by
  rw [lamT, metT, metL, metL, if_neg (by simp [ownN]), List.nil_append, if_neg (by show ¬ 0 < 0; omega), List.append_nil]
theorem depth_lam (s : ByteArray) (t : Tr) : depthT (lamT s t) = depthT t + 1 := by simp [lamT, depthT, depthL]
theorem size_lam (s : ByteArray) (t : Tr) : sizeT (lamT s t) = sizeT t + 1 := by simp [lamT, sizeT, sizeL]
def lamsT (l : List ByteArray) (t : Tr) : Tr := l.foldl (fun u s => lamT s u) t
theorem lams_snoc (l : List ByteArray) (s : ByteArray) (t : Tr) : lamsT (l ++ [s]) t = lamT s (lamsT l t) := by simp [lamsT]
theorem lams_all : ∀ (l : List ByteArray) (t : Tr), mayV t = true → (∀ s ∈ l, nameV s.data.toList = true) →
    mayV (lamsT l t) = true ∧ (∀ s, s ∈ looseT [] (lamsT l t) ↔ s ∈ looseT [] t ∧ s ∉ l) ∧ metT (lamsT l t) = metT t ∧ depthT (lamsT l t) = depthT t + l.length ∧ sizeT (lamsT l t) = sizeT t + l.length
  | [], t, h, _ => ⟨h, by simp [lamsT], rfl, rfl, rfl⟩
  | x :: r, t, h, hl => by
    have h1 : mayV (lamT x t) = true := by rw [may_lam, h, hl x List.mem_cons_self]; rfl
    obtain ⟨a1, a2, a3, a4, a5⟩ := lams_all r (lamT x t) h1 fun s hs => hl s (List.mem_cons_of_mem _ hs)
    refine ⟨a1, fun s => ?_, a3.trans (met_lam x t), by rw [show lamsT (x :: r) t = lamsT r (lamT x t) from rfl, a4, depth_lam, List.length_cons]; omega, by rw [show lamsT (x :: r) t = lamsT r (lamT x t) from rfl, a5, size_lam, List.length_cons]; omega⟩
    rw [show lamsT (x :: r) t = lamsT r (lamT x t) from rfl, a2 s, loose_lam, List.mem_filter, List.mem_cons]
    have e : (!inN [x] s) = true ↔ ¬ s = x := by
      rw [Bool.not_eq_true', Bool.eq_false_iff, ne_eq, inN_mem, List.mem_singleton]
    rw [e, not_or, and_assoc]
theorem lams_free (t : Tr) (h : mayV t = true) : mayV (lamsT (freeT t) t) = true ∧ freeT (lamsT (freeT t) t) = [] ∧ consT (lamsT (freeT t) t) = consT t ∧ depthT (lamsT (freeT t) t) = depthT t + (freeT t).length ∧ sizeT (lamsT (freeT t) t) = sizeT t + (freeT t).length := by
  have hm : mayT t = true := by unfold mayV at h; simp at h; exact h.2
  obtain ⟨a1, a2, a3, a4, a5⟩ := lams_all (freeT t) t h fun s hs => loose_name t [] hm s ((free_mem t s).1 hs)
  refine ⟨a1, freeV_nil (List.eq_nil_iff_forall_not_mem.2 fun s hs => ?_), by unfold consT; rw [a3], a4, a5⟩
  have := (a2 s).1 hs
  exact this.2 ((free_mem t s).2 this.1)
theorem lam_len (t : Tr) (s : ByteArray) : (freeT (lamT s t)).length + (if inN (freeT t) s = true then 1 else 0) = (freeT t).length := by
  have hm : ∀ x, x ∈ freeT (lamT s t) ↔ x ∈ freeT t ∧ ¬ x = s := fun x => by
    rw [free_mem, free_mem, loose_lam, List.mem_filter, Bool.not_eq_true', Bool.eq_false_iff, ne_eq, inN_mem, List.mem_singleton]
  split
  · rename_i h
    rw [inN_mem] at h
    have hn : (s :: freeT (lamT s t)).Nodup := List.nodup_cons.2 ⟨fun h1 => ((hm s).1 h1).2 rfl, free_nodup _⟩
    have := nodup_len hn (free_nodup t) fun x => by
      rw [List.mem_cons, hm]
      constructor
      · rintro (rfl | h1)
        · exact h
        · exact h1.1
      · intro h1
        by_cases e : x = s
        · exact .inl e
        · exact .inr ⟨h1, e⟩
    rw [List.length_cons] at this
    exact this
  · rename_i h
    rw [inN_mem] at h
    refine nodup_len (free_nodup _) (free_nodup t) fun x => ?_
    rw [hm]
    exact ⟨fun h1 => h1.1, fun h1 => ⟨h1, fun e => h (e ▸ h1)⟩⟩
end Lx
end Go.Proofs.YtobdoahdjbmflaaGreatDoor
namespace Go.Proofs.YtobdoahdjbmflaaGreatDoor
namespace Lx
set_option maxRecDepth 100000
/-! Parts of what is checked. -/
def likeS (x : Spot) : Tr × Bool := (x.t, x.twin)
mutual
theorem spots_like : ∀ (t : Tr) (b b' : List ByteArray) (tw : Bool), (spotsT b' tw t).map likeS = (spotsT b tw t).map likeS
  | .node k s n a l, b, b', tw => by
    rw [spotsT, spotsT, List.map_cons, List.map_cons, spots_likeL l k n s l b b' 0 []]
    rfl
theorem spots_likeL : ∀ (l : List Tr) (k n : Int) (s : ByteArray) (all : List Tr) (b b' : List ByteArray) (i : Nat) (ah : List ByteArray), (spotsL k n s all b' i ah l).map likeS = (spotsL k n s all b i ah l).map likeS
  | [], _, _, _, _, _, _, _, _ => by rw [spotsL, spotsL]
  | t :: r, k, n, s, all, b, b', i, ah => by
    rw [spotsL, spotsL]
    split
    · exact spots_likeL r k n s all b b' (i + 1) ah
    · rw [List.map_append, List.map_append, spots_like t (innerN k n s i all b) (innerN k n s i all b') _, spots_likeL r k n s all b b' (i + 1) _]
end
theorem spot_like {t : Tr} {b b' : List ByteArray} {tw : Bool} {y : Spot} (h : y ∈ spotsT b' tw t) : ∃ x ∈ spotsT b tw t, x.t = y.t ∧ x.twin = y.twin := by
  have h1 : likeS y ∈ (spotsT b' tw t).map likeS := List.mem_map.2 ⟨y, h, rfl⟩
  rw [spots_like t b b' tw, List.mem_map] at h1
  obtain ⟨x, hx, e⟩ := h1
  exact ⟨x, hx, congrArg Prod.fst e, congrArg Prod.snd e⟩
theorem spots_part (k n : Int) (s : ByteArray) (all : List Tr) (b : List ByteArray) : ∀ (l : List Tr) (i : Nat) (ah : List ByteArray) (p : Tr), p ∈ l → fromN k n ≤ i → p.kind ≠ 8 → ∃ b', ∀ x ∈ spotsT b' false p, x ∈ spotsL k n s all b i ah l
  | [], _, _, _, h, _, _ => by cases h
  | t :: r, i, ah, p, h, hi, h8 => by
    rw [spotsL, if_neg (by omega)]
    rcases List.mem_cons.1 h with rfl | h
    · refine ⟨innerN k n s i all b, fun x hx => List.mem_append.2 (.inl ?_)⟩
      rw [decide_eq_false h8, Bool.false_and]
      exact hx
    · obtain ⟨b', hb⟩ := spots_part k n s all b r (i + 1) (if t.kind = 8 then ah ++ [t.name] else ah) p h (by omega) h8
      exact ⟨b', fun x hx => List.mem_append.2 (.inr (hb x hx))⟩
theorem ofN_mem : ∀ (l : List (ByteArray × Int)) (s : ByteArray), 0 ≤ ofN l s → (s, ofN l s) ∈ l
  | [], s, h => by rw [ofN] at h; omega
  | (x, n) :: r, s, h => by
    rw [ofN] at h ⊢
    by_cases e : x = s
    · subst e; rw [if_pos rfl]; exact List.mem_cons_self
    · rw [if_neg e] at h ⊢; exact List.mem_cons_of_mem _ (ofN_mem r s h)
theorem met_spot {t : Tr} {p : ByteArray × Int} (h : p ∈ metT t) : ∃ x ∈ spotsT [] false t, 0 ≤ ownN x.t.kind x.t.n x.t.parts ∧ x.t.name = p.1 ∧ ownN x.t.kind x.t.n x.t.parts = p.2 := by
  rw [← mets_spots t [] false, metsS, List.mem_filterMap] at h
  obtain ⟨x, hx, e⟩ := h
  split at e
  · rename_i h0
    injection e with e
    exact ⟨x, hx, h0, congrArg Prod.fst e, congrArg Prod.snd e⟩
  · cases e
theorem spot_met {t : Tr} {b : List ByteArray} {tw : Bool} {x : Spot} (h : x ∈ spotsT b tw t) (h0 : 0 ≤ ownN x.t.kind x.t.n x.t.parts) : (x.t.name, ownN x.t.kind x.t.n x.t.parts) ∈ metT t := by
  rw [← mets_spots t b tw, metsS, List.mem_filterMap]
  exact ⟨x, h, by rw [if_pos h0]⟩
theorem met_nn (t : Tr) : ∀ p ∈ metT t, 0 ≤ p.2 := fun p hp => by
  rw [← mets_spots t [] false] at hp
  exact mets_nn _ p hp
theorem badS_zero {A : List (ByteArray × Int)} {x : Spot} (h : badS A x = 0) : (0 ≤ ownN x.t.kind x.t.n x.t.parts → ofN A x.t.name = ownN x.t.kind x.t.n x.t.parts) ∧ ¬ (x.twin = true ∨ (x.t.kind = 8 ∧ twiceN (varsN x.t.n x.t.parts) = true)) := by
  unfold badS at h
  split at h
  · omega
  · split at h
    · omega
    · rename_i h1
      split at h
      · omega
      · rename_i h2
        refine ⟨fun h3 => ?_, h2⟩
        by_cases e : ofN A x.t.name = ownN x.t.kind x.t.n x.t.parts
        · exact e
        · exact absurd ⟨h3, e⟩ h1
theorem part_may {t p : Tr} (h : mayV t = true) (hp : p ∈ t.parts) (h8 : p.kind ≠ 8) : mayV p = true := by
  obtain ⟨k, s, n, a, l⟩ := t
  unfold mayV at h ⊢
  simp only [Bool.and_eq_true, decide_eq_true_eq] at h ⊢
  exact ⟨h8, mayL_memT k n l 0 (may_inv h.2).2.2.2 p hp⟩
theorem part_checked {t p : Tr} (h : mayV t = true) (hb : (badT (consT t) [] [] t).2 = 0) (hp : p ∈ t.parts) (h8 : p.kind ≠ 8) : (badT (consT p) [] [] p).2 = 0 ∨ (badT (consT p) [] [] p).2 = 50 := by
  have hm := part_may h hp h8
  rw [bad_first t h] at hb
  rw [bad_first p hm]
  have hz := first_zero _ _ hb
  have hk := mayV_kind t h
  obtain ⟨k, s, n, a, l⟩ := t
  have hk8 : k ≠ 8 := hk
  obtain ⟨b', hb'⟩ := spots_part k n s l [] l 0 [] p hp (by unfold fromN; rw [if_neg hk8]; omega) h8
  have hin : ∀ y ∈ spotsT [] false p, ∃ x ∈ spotsT [] false (.node k s n a l), x.t = y.t ∧ x.twin = y.twin := fun y hy => by
    obtain ⟨x, hx, e⟩ := spot_like (b := b') hy
    refine ⟨x, ?_, e⟩
    rw [spotsT]
    exact List.mem_cons_of_mem _ (hb' x hx)
  have h1 : ∀ y ∈ spotsT [] false p, 0 ≤ ownN y.t.kind y.t.n y.t.parts → ofN (consT (.node k s n a l)) y.t.name = ownN y.t.kind y.t.n y.t.parts := fun y hy h0 => by
    obtain ⟨x, hx, e, _⟩ := hin y hy
    have := (badS_zero (hz x hx)).1
    rw [e] at this
    exact this h0
  have h2 : ∀ y ∈ spotsT [] false p, 0 ≤ ownN y.t.kind y.t.n y.t.parts → ofN (consT p) y.t.name = ownN y.t.kind y.t.n y.t.parts := fun y hy h0 => by
    have hge : 0 ≤ ofN (consT p) y.t.name := ofN_once_mem (metT p) heads5 goodA_heads (met_nn p) _ (spot_met hy h0)
    have hm1 := ofN_mem _ _ hge
    generalize ofN (consT p) y.t.name = v at hm1 hge ⊢
    rcases once_mem _ _ _ hm1 with hh | hh
    · have hv : v = 0 ∧ ofN (consT (.node k s n a l)) y.t.name = 0 := by
        have h0 : 0 ≤ ofN heads5 y.t.name ∧ v = ofN heads5 y.t.name := by
          unfold heads5 at hh
          simp only [List.mem_cons, List.not_mem_nil, or_false, Prod.mk.injEq] at hh
          rcases hh with ⟨e1, e2⟩ | ⟨e1, e2⟩
          · rw [e1, e2]; decide
          · rw [e1, e2]; decide
        have h3 : v = 0 := by
          unfold heads5 at hh
          simp only [List.mem_cons, List.not_mem_nil, or_false, Prod.mk.injEq] at hh
          rcases hh with ⟨e1, e2⟩ | ⟨e1, e2⟩ <;> exact e2
        refine ⟨h3, ?_⟩
        show ofN (onceN heads5 _) _ = 0
        rw [ofN_once_mono _ _ _ h0.1, ← h0.2, h3]
      have := h1 y hy h0
      omega
    · obtain ⟨z, hz1, hz2, hz3, hz4⟩ := met_spot hh
      have e1 := h1 z hz1 hz2
      have e2 := h1 y hy h0
      simp only at hz3 hz4
      rw [hz3] at e1
      omega
  rcases first_is (consT p) (spotsT [] false p) with h3 | ⟨y, hy, hy0, h3⟩
  · exact .inl h3
  · right
    rw [h3]
    obtain ⟨x, hx, e, et⟩ := hin y hy
    have hx2 := (badS_zero (hz x hx)).2
    rw [e, et] at hx2
    unfold badS at hy0 ⊢
    by_cases hf : y.free = true
    · rw [if_pos hf]
    · rw [if_neg hf, if_neg (fun hc => hc.2 (h2 y hy hc.1)), if_neg hx2] at hy0
      exact absurd rfl hy0
/-! Bare trees. -/
theorem vars_bare : ∀ (l : List Tr) (n : Int), varsN n (bareL l) = varsN n l
  | [], n => by rw [bareL]
  | t :: r, n => by rw [bareL, varsN, varsN, vars_bare r, bareT_name]
theorem inner_bare (k n : Int) (s : ByteArray) (i : Nat) (l : List Tr) (b : List ByteArray) : innerN k n s i (bareL l) b = innerN k n s i l b := by
  unfold innerN
  rw [vars_bare]
theorem own_bare (k n : Int) (l : List Tr) : ownN k n (bareL l) = ownN k n l := by
  unfold ownN
  rw [bareL_length]
mutual
theorem loose_bare : ∀ (t : Tr) (b : List ByteArray), looseT b (bareT t) = looseT b t
  | .node k s n a l, b => by rw [bareT, looseT, looseT, loose_bareL l k n s l b 0]
theorem loose_bareL : ∀ (l : List Tr) (k n : Int) (s : ByteArray) (all : List Tr) (b : List ByteArray) (i : Nat), looseL k n s (bareL all) b i (bareL l) = looseL k n s all b i l
  | [], _, _, _, _, _, _ => by rw [bareL, looseL, looseL]
  | t :: r, k, n, s, all, b, i => by
    rw [bareL, looseL, looseL, inner_bare, loose_bare t, loose_bareL r]
end
mutual
theorem met_bare : ∀ t : Tr, metT (bareT t) = metT t
  | .node k s n a l => by rw [bareT, metT, metT, met_bareL l k n 0, own_bare]
theorem met_bareL : ∀ (l : List Tr) (k n : Int) (i : Nat), metL k n i (bareL l) = metL k n i l
  | [], _, _, _ => by rw [bareL, metL]
  | t :: r, k, n, i => by rw [bareL, metL, metL, met_bare t, met_bareL r]
end
mutual
theorem bad_bare (A : List (ByteArray × Int)) : ∀ (t : Tr) (b ah : List ByteArray), badT A b ah (bareT t) = (0, (badT A b ah t).2)
  | .node k s n a l, b, ah => by
    rw [bareT, badT, badT, own_bare, vars_bare, bad_bareL A l k n s l b 0 []]
    split
    · rfl
    · split
      · rfl
      · split
        · rfl
        · rfl
theorem bad_bareL (A : List (ByteArray × Int)) : ∀ (l : List Tr) (k n : Int) (s : ByteArray) (all : List Tr) (b : List ByteArray) (i : Nat) (ah : List ByteArray), badL A k n s (bareL all) b i ah (bareL l) = (0, (badL A k n s all b i ah l).2)
  | [], _, _, _, _, _, _, _ => by rw [bareL, badL, badL]
  | t :: r, k, n, s, all, b, i, ah => by
    rw [bareL, badL, badL, inner_bare, bad_bare A t, bareT_name, bad_bareL A r, bad_bareL A r]
    split
    · rfl
    · split
      · rfl
      · rfl
end
mutual
theorem may_bareT : ∀ t : Tr, mayT t = true → mayT (bareT t) = true
  | .node k s n a l, h => by
    rw [mayT] at h
    rw [bareT, mayT, bareL_length]
    split at h
    · rename_i q hq
      simp only [Bool.and_eq_true] at h ⊢
      refine ⟨?_, may_bareL l k n 0 h.2⟩
      have h1 := h.1
      unfold fitsV at h1 ⊢
      by_cases hc : a < 0 ∨ n < 0 ∨ q.2.1 < n
      · rw [if_pos hc] at h1; cases h1
      · rw [if_neg hc] at h1
        rw [if_neg (by omega)]
        exact h1
    · cases h
theorem may_bareL : ∀ (l : List Tr) (k n : Int) (i : Nat), mayL k n i l = true → mayL k n i (bareL l) = true
  | [], _, _, _, _ => by rw [bareL, mayL]
  | t :: r, k, n, i, h => by
    rw [mayL] at h
    simp only [Bool.and_eq_true] at h
    rw [bareL, mayL, bareT_kind]
    simp only [Bool.and_eq_true]
    exact ⟨h.1, may_bareT t h.2.1, may_bareL r k n (i + 1) h.2.2⟩
end
theorem may_bareV {t : Tr} (h : mayV t = true) : mayV (bareT t) = true := by
  unfold mayV at h ⊢
  simp only [Bool.and_eq_true, decide_eq_true_eq] at h ⊢
  exact ⟨by rw [bareT_kind]; exact h.1, may_bareT t h.2⟩
theorem check_bare {t : Tr} (h : mayV t = true) : checkV (bareT t) = (0, (checkV t).2) := by
  unfold checkV
  rw [if_pos h, if_pos (may_bareV h), bad_bare]
  unfold consT
  rw [met_bare]
theorem free_bare {t : Tr} (h : mayV t = true) : freeV5 (bareT t) = freeV5 t := by
  unfold freeV5 freeT
  rw [if_pos h, if_pos (may_bareV h), loose_bare]
theorem cons_bare {t : Tr} (h : mayV t = true) : consV5 (bareT t) = consV5 t := by
  unfold consV5 consT
  rw [if_pos h, if_pos (may_bareV h), met_bare]
/-! Trees that are made of two. -/
def letT (k : Int) (s : ByteArray) (a b : Tr) : Tr := .node k s 0 0 [a, b]
theorem may_var (s : ByteArray) : mayV (.node 1 s 0 0 []) = nameV s.data.toList := by simp [mayV, Tr.kind, mayT, shapeV, fitsV, whatV, mayL]
theorem may_let (s : ByteArray) (a b : Tr) (ha : mayV a = true) (hb : mayV b = true) (hs : nameV s.data.toList = true) : mayV (letT 4 s a b) = true := by
  unfold mayV at ha hb
  simp only [Bool.and_eq_true, decide_eq_true_eq] at ha hb
  unfold mayV
  rw [show (letT 4 s a b).kind = 4 from rfl]
  simp [letT, mayT, shapeV, fitsV, whatV, mayL, standsV, ha, hb, hs]
theorem may_rec (s : ByteArray) (a b : Tr) (ha : mayV a = true) (hb : mayV b = true) (hs : nameV s.data.toList = true) : mayV (letT 5 s a b) = true := by
  unfold mayV at ha hb
  simp only [Bool.and_eq_true, decide_eq_true_eq] at ha hb
  unfold mayV
  rw [show (letT 5 s a b).kind = 5 from rfl]
  simp [letT, mayT, shapeV, fitsV, whatV, mayL, standsV, ha, hb, hs]
theorem may_app (a b : Tr) (ha : mayV a = true) (hb : mayV b = true) : mayV (letT 3 ⟨#[]⟩ a b) = true := by
  unfold mayV at ha hb
  simp only [Bool.and_eq_true, decide_eq_true_eq] at ha hb
  unfold mayV
  rw [show (letT 3 ⟨#[]⟩ a b).kind = 3 from rfl]
  simp [letT, mayT, shapeV, fitsV, whatV, mayL, standsV, ha, hb]
theorem may_less (a b : Tr) (ha : mayV a = true) (hb : mayV b = true) : mayV (letT 10 ⟨#[60]⟩ a b) = true := by
  unfold mayV at ha hb
  simp only [Bool.and_eq_true, decide_eq_true_eq] at ha hb
  have : opV [60] = true := by decide
  unfold mayV
  rw [show (letT 10 ⟨#[60]⟩ a b).kind = 10 from rfl]
  simp [letT, mayT, shapeV, fitsV, whatV, mayL, standsV, ha, hb, this]
theorem depth_two (k : Int) (s : ByteArray) (a b : Tr) : depthT (letT k s a b) = max (depthT a) (depthT b) + 1 := by simp [letT, depthT, depthL]
theorem size_two (k : Int) (s : ByteArray) (a b : Tr) : sizeT (letT k s a b) = sizeT a + sizeT b + 1 := by simp [letT, sizeT, sizeL]
theorem loose_two (k : Int) (s : ByteArray) (a b : Tr) (h : k = 3 ∨ k = 4 ∨ k = 5) : looseT [] (letT k s a b) = looseT (if k = 5 then [s] else []) a ++ looseT (if k = 3 then [] else [s]) b := by
  rw [letT, looseT, looseL, looseL, looseL]
  rcases h with rfl | rfl | rfl <;> simp [fromN, innerN]
theorem met_two (k : Int) (s : ByteArray) (a b : Tr) (h : k = 3 ∨ k = 10) : metT (letT k s a b) = metT a ++ metT b := by
  rw [letT, metT, metL, metL, metL]
  rcases h with rfl | rfl <;> simp [fromN, ownN]
theorem loose_one_mem (s x : ByteArray) (t : Tr) : x ∈ looseT [s] t ↔ x ∈ looseT [] t ∧ ¬ x = s := by
  rw [loose_nil [s] t, List.mem_filter, Bool.not_eq_true', Bool.eq_false_iff, ne_eq, inN_mem, List.mem_singleton]
theorem let_mem (s x : ByteArray) (a b : Tr) : x ∈ freeT (letT 4 s a b) ↔ x ∈ freeT a ∨ (x ∈ freeT b ∧ ¬ x = s) := by
  rw [free_mem, free_mem, free_mem, loose_two 4 s a b (by omega), List.mem_append, if_neg (by omega), if_neg (by omega), loose_one_mem]
theorem rec_mem (s x : ByteArray) (a b : Tr) : x ∈ freeT (letT 5 s a b) ↔ (x ∈ freeT a ∨ x ∈ freeT b) ∧ ¬ x = s := by
  rw [free_mem, free_mem, free_mem, loose_two 5 s a b (by omega), List.mem_append, if_pos rfl, if_neg (by omega), loose_one_mem, loose_one_mem, or_and_right]
theorem app_mem (x : ByteArray) (a b : Tr) : x ∈ freeT (letT 3 ⟨#[]⟩ a b) ↔ x ∈ freeT a ∨ x ∈ freeT b := by
  rw [free_mem, free_mem, free_mem, loose_two 3 _ a b (by omega), List.mem_append, if_neg (by omega), if_pos rfl]
/-! Constructors of both. -/
/-- Those that are more than h. -/
def moreN : List (ByteArray × Int) → List (ByteArray × Int) → List (ByteArray × Int)
  | _, [] => []
  | h, p :: r => if ofN h p.1 < 0 then p :: moreN (h ++ [p]) r else moreN h r
theorem once_more : ∀ (l h : List (ByteArray × Int)), onceN h l = h ++ moreN h l
  | [], h => by rw [onceN, moreN, List.append_nil]
  | (s, n) :: r, h => by
    rw [onceN, moreN]
    by_cases e : ofN h s < 0
    · rw [if_pos e, if_pos e, once_more r, List.append_assoc]; rfl
    · rw [if_neg e, if_neg e, once_more r]
theorem more_none : ∀ (l h : List (ByteArray × Int)), (∀ p ∈ h, 0 ≤ p.2) → (∀ p ∈ l, 0 ≤ p.2) → ∀ q ∈ moreN h l, ofN h q.1 < 0
  | [], h, _, _, q, hq => by rw [moreN] at hq; cases hq
  | (s, n) :: r, h, hh, hl, q, hq => by
    rw [moreN] at hq
    have hr : ∀ p ∈ r, 0 ≤ p.2 := fun p hp => hl p (List.mem_cons_of_mem _ hp)
    have hn : 0 ≤ n := hl (s, n) List.mem_cons_self
    by_cases e : ofN h s < 0
    · rw [if_pos e] at hq
      rcases List.mem_cons.1 hq with rfl | hq
      · exact e
      · have h1 := more_none r (h ++ [(s, n)]) (fun p hp => by
          rcases List.mem_append.1 hp with hp | hp
          · exact hh p hp
          · rw [List.mem_singleton] at hp; subst hp; exact hn) hr q hq
        exact ((ofN_snoc h s q.1 n hn hh).1 h1).1
    · rw [if_neg e] at hq
      exact more_none r h hh hr q hq
theorem more_in : ∀ (l h x : List (ByteArray × Int)), (∀ p ∈ h, 0 ≤ p.2) → (∀ p ∈ x, 0 ≤ p.2) → (∀ p ∈ l, 0 ≤ p.2) → (∀ s, ofN x s < 0 → ofN h s < 0) → moreN x l = (moreN h l).filter (fun p => decide (ofN x p.1 < 0))
  | [], h, x, _, _, _, _ => by rw [moreN, moreN]; rfl
  | (s, n) :: r, h, x, hh, hx, hl, hs => by
    have hr : ∀ p ∈ r, 0 ≤ p.2 := fun p hp => hl p (List.mem_cons_of_mem _ hp)
    have hn : 0 ≤ n := hl (s, n) List.mem_cons_self
    have hh2 : ∀ p ∈ h ++ [(s, n)], 0 ≤ p.2 := fun p hp => by
      rcases List.mem_append.1 hp with hp | hp
      · exact hh p hp
      · rw [List.mem_singleton] at hp; subst hp; exact hn
    have hx2 : ∀ p ∈ x ++ [(s, n)], 0 ≤ p.2 := fun p hp => by
      rcases List.mem_append.1 hp with hp | hp
      · exact hx p hp
      · rw [List.mem_singleton] at hp; subst hp; exact hn
    rw [moreN, moreN]
    by_cases e : ofN x s < 0
    · rw [if_pos e, if_pos (hs s e), List.filter_cons, if_pos (by exact decide_eq_true e)]
      congr 1
      rw [more_in r (h ++ [(s, n)]) (x ++ [(s, n)]) hh2 hx2 hr fun v hv => by
        rw [ofN_snoc x s v n hn hx] at hv
        rw [ofN_snoc h s v n hn hh]
        exact ⟨hs v hv.1, hv.2⟩]
      refine List.filter_congr fun q hq => ?_
      have h1 := more_none r _ hh2 hr q hq
      rw [ofN_snoc h s q.1 n hn hh] at h1
      rw [decide_eq_decide, ofN_snoc x s q.1 n hn hx]
      exact ⟨fun h => h.1, fun h => ⟨h, h1.2⟩⟩
    · rw [if_neg e]
      by_cases e2 : ofN h s < 0
      · rw [if_pos e2, List.filter_cons, if_neg (by simpa using e)]
        refine more_in r (h ++ [(s, n)]) x hh2 hx hr fun v hv => ?_
        rw [ofN_snoc h s v n hn hh]
        exact ⟨hs v hv, fun ev => e (ev ▸ hv)⟩
      · rw [if_neg e2]
        exact more_in r h x hh hx hr hs
theorem cons_nn (t : Tr) : ∀ p ∈ consT t, 0 ≤ p.2 := (goodA_heads.once (metT t) (met_nn t)).1
theorem heads_in (t : Tr) (s : ByteArray) (h : ofN (consT t) s < 0) : ofN heads5 s < 0 := by
  by_cases e : ofN heads5 s < 0
  · exact e
  · have := ofN_once_mono (metT t) heads5 s (by omega)
    unfold consT at h
    omega
/-- What is made of both has the first one's, and behind them those of the second one that are others. -/
theorem cons_two (k : Int) (s : ByteArray) (a b : Tr) (h : k = 3 ∨ k = 10) : consT (letT k s a b) = consT a ++ (consT b).filter (fun p => decide (ofN (consT a) p.1 < 0)) := by
  have h1 : consT (letT k s a b) = consT a ++ moreN (consT a) (metT b) := by
    unfold consT
    rw [met_two k s a b h, onceN_app, ← once_more]
  have h2 : consT b = heads5 ++ moreN heads5 (metT b) := once_more (metT b) heads5
  rw [h1, more_in (metT b) heads5 (consT a) goodA_heads.1 (cons_nn a) (met_nn b) (heads_in a), h2, List.filter_append]
  have h3 : heads5.filter (fun p => decide (ofN (consT a) p.1 < 0)) = [] := by
    rw [List.filter_eq_nil_iff]
    intro p hp hd
    have h4 := heads_in a p.1 (by simpa using hd)
    unfold heads5 at hp
    simp only [List.mem_cons, List.not_mem_nil, or_false] at hp
    rcases hp with rfl | rfl
    · exact absurd h4 (by decide)
    · exact absurd h4 (by decide)
  rw [h3, List.nil_append]
theorem cons_two_len (t : Tr) : 2 ≤ (consT t).length := by
  have := (onceN_len heads5 (metT t)).1
  exact this
end Lx
end Go.Proofs.YtobdoahdjbmflaaGreatDoor
namespace Go.Proofs.YtobdoahdjbmflaaGreatDoor
open Go.RowKit
namespace Lx
set_option maxRecDepth 100000
set_option maxHeartbeats 1000000 in
theorem few_stop (k n a L D : Int) (s : ByteArray) (A : Option Addr) (m c : Nat) (w : World) (h : L < 1 ∨ D < 1) :
    Calls Tryz.prog 22 #[.agg #[.int .i64 k, .string s, .int .i64 n, .int .i64 a, .slice A m c], .int .i64 L, .int .i64 D] w fun e w' => e = .returned (.int .i64 (-1)) ∧ Below w.heap.size w w' := by
  have hb : Below w.heap.size w (w.alloc (.cells #[.int .i64 k, .string s, .int .i64 n, .int .i64 a, .slice A m c] 24)) := (Below.refl _ w).alloc (Nat.le_refl _) _
  by_cases h1 : L < 1
  · clear h
    go_enter Tryz.func22, Tryz.ntmps22
    go_wp2_with fail
    go_ret
    exact ⟨rfl, hb⟩
  · have h2 : D < 1 := h.resolve_left h1
    clear h
    go_enter Tryz.func22, Tryz.ntmps22
    go_wp2_with fail
    go_ret
    exact ⟨rfl, hb⟩

set_option maxHeartbeats 1000000 in
theorem few_any (d : Nat) : ∀ (t : Tr) (A : Option Addr) (c : Nat) (L D : Int) (w : World), depthT t ≤ d → TIn w Any t A → -1000 ≤ L → L ≤ 100000 → -1000 ≤ D → D ≤ 1000 →
    Calls Tryz.prog 22 #[tv t A c, .int .i64 L, .int .i64 D] w fun e w' => e = .returned (.int .i64 (fewT t L D)) ∧ Below w.heap.size w w' := by
  induction d with
  | zero => intro t A c _ _ w h; have := depth_pos t; omega
  | succ d ih =>
    intro t A c L D w hd hI hL1 hL2 hD1 hD2
    obtain ⟨k, s, n, a, l⟩ := t
    have hdL : depthL l ≤ d := by rw [depthT] at hd; omega
    have hlen : l.length ≤ 140737488351232 := by rw [TIn] at hI; exact hI.2.1
    have HI := Lib.hid hI
    clear hI hd
    show Calls Tryz.prog 22 #[.agg #[.int .i64 k, .string s, .int .i64 n, .int .i64 a, .slice A l.length (capF l.length c)], .int .i64 L, .int .i64 D] w _
    generalize capF l.length c = c
    by_cases hst : L < 1 ∨ D < 1
    · refine (few_stop k n a L D s A _ c w hst).mono ?_
      rintro e w' ⟨rfl, hb⟩
      exact ⟨ret_int (by rw [fewT, if_pos hst]), hb⟩
    · have hL3 : ¬ L < 1 := fun h => hst (.inl h)
      have hD3 : ¬ D < 1 := fun h => hst (.inr h)
      have HE : Hid (fewT (.node k s n a l) L D = fewL l (L - 1) (D - 1)) := by
        show _ = _
        rw [fewT, if_neg hst]
      clear hst
      obtain ⟨m, hm⟩ : ∃ m, m = l.length := ⟨_, rfl⟩
      rw [← hm] at hlen ⊢
      have hm1 : m ≤ l.length := by omega
      have hm2 : l.length ≤ m := by omega
      clear hm
      go_enter Tryz.func22, Tryz.ntmps22
      go_wp2_with fail
      go_loopw [1, 7] (fun v x wr => ∃ (i : Nat) (F : Int), i ≤ m ∧ x = .int .i64 i ∧ v = .int .i64 F ∧ 0 ≤ F ∧ F ≤ 100000 ∧ Hid (fewL l (L - 1) (D - 1) = fewL (l.drop i) F (D - 1)) ∧ Below (w.heap.size + 1) (w.alloc (.cells #[.int .i64 k, .string s, .int .i64 n, .int .i64 a, .slice A m c] 24)) wr) (fun _ x _ => m - (intOf x).toNat)
      case atStart => exact ⟨0, L - 1, by omega, rfl, rfl, by omega, by omega, by exact rfl, Below.refl _ _⟩
      case round =>
        obtain ⟨i, F, hi, rfl, rfl, hF1, hF2, HQ, hbx⟩ := hrel
        have hbw : Below w.heap.size w wr := below_ac (by simpa using hbx)
        have c4 := ((Lies.new w 24 #[.int .i64 k, .string s, .int .i64 n, .int .i64 a, .slice A m c]).below hbx (by omega)).cell 4
        have hbxs := hbx.size
        simp at c4 hbxs
        by_cases hlt : i < m
        · have hia : i < l.length := by omega
          obtain ⟨g, o, A', c', ⟨hA, _⟩, d0, d1, d2, d3, d4, hIn⟩ := TIn.part (TIn.below _ HI.out hbw (Nat.le_refl _)) i hia
          subst hA
          have hm3 := depthL_mem l (l[i]'hia) (List.getElem_mem hia)
          have HS : Hid (fewL (l.drop i) F (D - 1) = if fewT (l[i]'hia) F (D - 1) < 0 then -1 else fewL (l.drop (i + 1)) (fewT (l[i]'hia) F (D - 1)) (D - 1)) := by
            show _ = _
            rw [List.drop_eq_getElem_cons hia, fewL]
          have hfs := few_size (l[i]'hia) F (D - 1)
          simp only [Tr.parts] at d0 d1 d2 d3 d4 hIn
          obtain ⟨tr, hu⟩ : ∃ tr, tr = l[i]'hia := ⟨_, rfl⟩
          rw [← hu] at d0 d1 d2 d3 d4 hIn hm3 HS hfs
          clear hu
          obtain ⟨tk, ts, tn, ta, tl⟩ := tr
          simp only [Tr.kind, Tr.name, Tr.n, Tr.place] at d0 d1 d2 d3 d4
          obtain ⟨G, hG⟩ : ∃ G, G = fewT (.node tk ts tn ta tl) F (D - 1) := ⟨_, rfl⟩
          rw [← hG] at HS hfs
          have hih := ih (.node tk ts tn ta tl) A' c' F (D - 1) wr (by omega) hIn (by omega) (by omega) (by omega) (by omega)
          rw [← hG] at hih
          have HG := Lib.hid hG
          have HIH := Lib.hid hih
          have HFS := Lib.hid hfs
          clear hG hih hfs
          by_cases hneg : G < 0
          · go_wp2_with fail
            refine HIH.out.mono ?_
            rintro e w2 ⟨rfl, hb2⟩
            go_wp2_with fail
            go_ret
            refine ⟨ret_int ?_, hbw.trans (hb2.mono (by omega))⟩
            rw [HE.out, HQ.out, HS.out, if_pos hneg]
          · go_wp2_with fail
            refine HIH.out.mono ?_
            rintro e w2 ⟨rfl, hb2⟩
            go_wp2_with fail
            go_roundw
            case rel =>
              have h1 := HFS.out (by omega)
              refine ⟨i + 1, G, by omega, by go_num, rfl, by omega, by omega, ?_, hbx.trans (hb2.mono (by omega))⟩
              show _ = _
              rw [HQ.out, HS.out, if_neg (by omega)]
            case measure => simp [intOf]; omega
        · go_wp2_with fail
          go_ret
          obtain rfl : i = m := by omega
          refine ⟨ret_int ?_, hbw⟩
          rw [HE.out, HQ.out, List.drop_eq_nil_of_le (by omega), fewL]

theorem tsmall_any (t : Tr) (A : Option Addr) (c : Nat) (L : Int) (w : World) (hI : TIn w Any t A) (hL1 : 0 ≤ L) (hL2 : L ≤ 100000) :
    Calls Tryz.prog 7 #[tv t A c, .int .i64 L] w fun e w' => e = .returned (.bool (decide (0 ≤ fewT t L 200))) ∧ Below w.heap.size w w' := by
  obtain ⟨k, s, n, a, l⟩ := t
  have hF := few_any (depthT (.node k s n a l)) (.node k s n a l) A c L 200 (w.alloc (.cells #[.int .i64 k, .string s, .int .i64 n, .int .i64 a, .slice A l.length (capF l.length c)] 24)) (Nat.le_refl _)
    (TIn.below _ hI ((Below.refl _ w).alloc (Nat.le_refl _) _) (Nat.le_refl _)) (by omega) hL2 (by omega) (by omega)
  have HF := Lib.hid hF
  clear hF hI
  show Calls Tryz.prog 7 #[.agg #[.int .i64 k, .string s, .int .i64 n, .int .i64 a, .slice A l.length (capF l.length c)], .int .i64 L] w _
  go_enter Tryz.func7, Tryz.ntmps7
  go_wp2_with fail
  refine HF.out.mono ?_
  rintro e w2 ⟨rfl, hb2⟩
  go_wp2_with fail
  go_ret
  exact ⟨rfl, below_ac hb2⟩
end Lx
end Go.Proofs.YtobdoahdjbmflaaGreatDoor
namespace Go.Proofs.YtobdoahdjbmflaaGreatDoor
open Go Go.RowKit
namespace Lx
set_option maxRecDepth 100000
theorem few5 {t : Tr} {L : Int} (h : decide (0 ≤ fewT t L 200) = true) : (sizeT t : Int) ≤ L ∧ depthT t ≤ 200 := by
  have h2 : 0 ≤ fewT t L 200 := by simpa using h
  have h1 := few_size t L 200 h2
  omega
theorem loose_len : ∀ t : Tr, (freeT t).length ≤ sizeT t := fun t => by
  have h1 : (looseT [] t).length ≤ sizeT t := by
    rw [← frees_spots t [] false, freesS, List.length_map]
    exact Nat.le_trans (List.length_filter_le _ _) (lenS t [] false)
  have h2 := onceB_len [] (looseT [] t)
  unfold freeT
  rw [sortB_len]
  simp only [List.length_nil, Nat.zero_add] at h2
  omega
theorem freeV_len (t : Tr) : (freeV5 t).length ≤ sizeT t := by
  unfold freeV5
  split
  · exact loose_len t
  · simp
theorem consV_len (t : Tr) : (consV5 t).length ≤ 2 + sizeT t := by
  unfold consV5
  split
  · exact cons_len t
  · simp
mutual
theorem depth_bareS : ∀ t : Tr, depthT (bareT t) = depthT t
  | .node k s n a l => by rw [bareT, depthT, depthT, depth_bareSL l]
theorem depth_bareSL : ∀ l : List Tr, depthL (bareL l) = depthL l
  | [] => by rw [bareL]
  | t :: r => by rw [bareL, depthL, depthL, depth_bareS t, depth_bareSL r]
end
mutual
theorem size_bareS : ∀ t : Tr, sizeT (bareT t) = sizeT t
  | .node k s n a l => by rw [bareT, sizeT, sizeT, size_bareSL l]
theorem size_bareSL : ∀ l : List Tr, sizeL (bareL l) = sizeL l
  | [] => by rw [bareL]
  | t :: r => by rw [bareL, sizeL, sizeL, size_bareS t, size_bareSL r]
end
theorem giveN_in {l : List ByteArray} {w w' : World} {e : Ending} (h : GiveN l w e w') : ∃ A c, e = .returned (.slice A l.length c) ∧ SIn w' Any l A ∧ Below w.heap.size w w' := by
  obtain ⟨A, c, he, hr, hb⟩ := h
  exact ⟨A, c, he, (SIn.owned hr).any, hb⟩
theorem giveA_in {l : List (ByteArray × Int)} {w w' : World} {e : Ending} (h : GiveA l w e w') : ∃ A c, e = .returned (.slice A l.length c) ∧ AIn w' Any l A ∧ Below w.heap.size w w' := by
  obtain ⟨A, c, he, hr, hb⟩ := h
  exact ⟨A, c, he, (AIn.owned hr).any, hb⟩
/-- A world in which a box of five cells is written. -/
def put5S (w : World) (g : Nat) (a b c d e : Value) : World := ((((w.setCell ⟨g, 0, none⟩ a).setCell ⟨g, 1, none⟩ b).setCell ⟨g, 2, none⟩ c).setCell ⟨g, 3, none⟩ d).setCell ⟨g, 4, none⟩ e
theorem Lies.put5 {w : World} {g : Nat} {t : TypeId} {a b c d e : Value} (h : Lies w g t #[a, b, c, d, e]) (x y z u v : Value) : Lies (put5S w g x y z u v) g t #[x, y, z, u, v] := by
  have h1 := Lies.put h 0 x
  have h2 := Lies.put h1 1 y
  have h3 := Lies.put h2 2 z
  have h4 := Lies.put h3 3 u
  have h5 := Lies.put h4 4 v
  unfold put5S; simpa using h5
theorem Lies.off5 {w : World} {g' : Nat} {t : TypeId} {cs : Array Value} (h : Lies w g' t cs) {g : Nat} (hg : g' ≠ g) (x y z u v : Value) : Lies (put5S w g x y z u v) g' t cs :=
  ((((h.far (p := ⟨g, 0, none⟩) hg x).far (p := ⟨g, 1, none⟩) hg y).far (p := ⟨g, 2, none⟩) hg z).far (p := ⟨g, 3, none⟩) hg u).far (p := ⟨g, 4, none⟩) hg v
theorem Below.put5 {B : Nat} {a w : World} (h : Below B a w) {g : Nat} (hg : B ≤ g) (x y z u v : Value) : Below B a (put5S w g x y z u v) :=
  ((((h.setCell (p := ⟨g, 0, none⟩) hg x).setCell (p := ⟨g, 1, none⟩) hg y).setCell (p := ⟨g, 2, none⟩) hg z).setCell (p := ⟨g, 3, none⟩) hg u).setCell (p := ⟨g, 4, none⟩) hg v
theorem put5_size (w : World) (g : Nat) (x y z u v : Value) : (put5S w g x y z u v).heap.size = w.heap.size := by simp [put5S, World.setCell]
theorem put5_cell (w : World) (g : Nat) (x y z u v : Value) (g' j : Nat) (h : g' ≠ g) : (put5S w g x y z u v).cell? ⟨g', j, none⟩ = w.cell? ⟨g', j, none⟩ := by
  have e : ∀ (w : World) (o : Nat) (a : Value), (w.setCell ⟨g, o, none⟩ a).cell? ⟨g', j, none⟩ = w.cell? ⟨g', j, none⟩ := fun w o a => World.cell?_setCell_other w ⟨g, o, none⟩ ⟨g', j, none⟩ a (fun e => by injection e with e; exact h e.symm)
  unfold put5S
  rw [e, e, e, e, e]
theorem TIn.put5 (t : Tr) {w : World} {X : Nat → Prop} {A : Option Addr} (h : TIn w X t A) {g : Nat} (hg : ¬ X g) (x y z u v : Value) : TIn (put5S w g x y z u v) X t A :=
  TIn.keep t h fun g' j hX _ => ⟨put5_cell w g x y z u v g' j (fun e => hg (e ▸ hX)), hX⟩
theorem SIn.put5 {w : World} {X : Nat → Prop} {l : List ByteArray} {A : Option Addr} (h : SIn w X l A) {g : Nat} (hg : ¬ X g) (x y z u v : Value) : SIn (put5S w g x y z u v) X l A :=
  h.keep fun g' j hX _ => ⟨put5_cell w g x y z u v g' j (fun e => hg (e ▸ hX)), hX⟩
end Lx
end Go.Proofs.YtobdoahdjbmflaaGreatDoor
