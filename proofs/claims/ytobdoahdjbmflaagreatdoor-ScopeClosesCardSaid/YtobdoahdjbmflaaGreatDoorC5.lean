/-
  Texts that lie one behind the other: ScE.
-/
import Derived.Test.YtobdoahdjbmflaaGreatDoorC4
import Derived.Deep.RegionHeld3
import Derived.Deep.DeepCutAuto
namespace Go.Proofs.YtobdoahdjbmflaaGreatDoor
open Go Go.RowKit
attribute [local go_sem] Oper.semAt_some
namespace Lx
set_option maxRecDepth 100000
/-- A region that draws, within the wide fence. -/
theorem region_yields {P : Program} {ops : Array Oper} {Q : Exit → Act → World → Prop} {id : Nat} {a : Act} {w : World} (hm : P.follows .mixedOrders = true)
    (h : wpAnyIn Fence.wide 0 P .any ops (calm Q) ops.size (Array.replicate ops.size false) a w.drew) : (Code.region id ops true).wp P Q a w :=
  (wpIn_wide (n := 0)).1 (wpIn_mono (wpIn_region_draw fun t => by
    simp only [Region.schedule, hm, Bool.true_or, if_true]
    exact wpAnyIn_sound ops.size t _ a _ h) calm_out)
/-- Who goes through. -/
structure HeldS (l G bm : Nat) (W : World) : Prop where
  m : W.cell? ⟨G, 0, none⟩ = some (.map (some bm))
  y : W.cell? ⟨G, 1, none⟩ = some (.func (.yield l) #[] #[])
theorem HeldS.gz {l G bm : Nat} {E Z Z' : Nat → Prop} {A B : World} (h : HeldS l G bm A) (hG : Gz E Z A Z' B) (hz : ¬ Z G ∧ ¬ E G) : HeldS l G bm B := ⟨hG.cell h.m hz.1 hz.2, hG.cell h.y hz.1 hz.2⟩
/-- What it tells. -/
def ThrPostS (bm : Nat) (full : List Spot) (J Jx : List Spot → (Nat → Prop) → World → Prop) (t : Tr) (tw : Bool) (b : List ByteArray) (N : Nat) (pre : List Spot) (Z : Nat → Prop) (W : World) (e : Ending) (W' : World) : Prop :=
  ∃ (r : Bool) (Z' : Nat → Prop), e = .returned (.bool r) ∧ Gz (· = bm) Z W Z' W' ∧ MapS W' bm (N + 200 * sizeT t) (countN b) ∧ (r = true → J (pre ++ spotsT b tw t) Z' W') ∧ (r = false → ∃ q, pre ++ q <+: full ∧ Jx (pre ++ q) Z' W')
/-- What it asks. -/
structure ThrPreS (l G bm : Nat) (full : List Spot) (J : List Spot → (Nat → Prop) → World → Prop) (X : Nat → Prop) (t : Tr) (A : Option Addr) (tw : Bool) (d : Nat) (b : List ByteArray) (N : Nat) (pre : List Spot) (Z : Nat → Prop) (W : World) : Prop where
  dep : depthT t ≤ d
  ok : okT t
  siz : N + 200 * sizeT t ≤ 1000000000000
  bnd : b.length + 10 * d ≤ 1000000
  lies : TIn W X t A
  mapi : MapS W bm N (countN b)
  held : HeldS l G bm W
  asks : J pre Z W
  offX : ∀ g, X g → g < W.heap.size ∧ ¬ Z g ∧ g ≠ bm
  offG : ¬ Z G ∧ G ≠ bm
  offB : ¬ Z bm
  pref : pre ++ spotsT b tw t <+: full
theorem own_sliceS {W : World} {b e sz n : Nat} {v : Value} {xs : List Value} (h : W.ownsRow b e sz v n xs) : ∃ A c, v = .slice A n c := by
  obtain ⟨_, ⟨h1, h2⟩ | ⟨g, cap, cur, h1, _⟩⟩ := h
  · subst h2; exact ⟨_, _, h1⟩
  · exact ⟨_, _, h1⟩
theorem sizeL_take_le : ∀ (l : List Tr) (j : Nat), sizeL (l.take j) ≤ sizeL l
  | [], j => by simp
  | t :: r, 0 => by simp [sizeL]
  | t :: r, j + 1 => by rw [List.take_succ_cons, sizeL, sizeL]; have := sizeL_take_le r j; omega
section
variable {l G bm : Nat} {full : List Spot} {J Jx : List Spot → (Nat → Prop) → World → Prop} {X : Nat → Prop}
set_option maxHeartbeats 16000000 in
theorem thr5_node (hA : AsksS l X full J Jx) (d : Nat) (ih : ∀ (t : Tr) (A : Option Addr) (c : Nat) (tw : Bool) (b : List ByteArray) (N : Nat) (pre : List Spot) (Z : Nat → Prop) (W : World), ThrPreS l G bm full J X t A tw d b N pre Z W →
      Calls Tryz.prog 43 #[.pointer (some ⟨G, 0, none⟩), tv t A c, .bool tw] W (ThrPostS bm full J Jx t tw b N pre Z W))
    (k n a : Int) (s : ByteArray) (lst : List Tr) (A : Option Addr) (c : Nat) (tw : Bool) (b : List ByteArray) (N : Nat) (pre : List Spot) (Z : Nat → Prop) (W : World) (h : ThrPreS l G bm full J X (.node k s n a lst) A tw (d + 1) b N pre Z W) :
    Calls Tryz.prog 43 #[.pointer (some ⟨G, 0, none⟩), tv (.node k s n a lst) A c, .bool tw] W (ThrPostS bm full J Jx (.node k s n a lst) tw b N pre Z W) := by
  show Calls Tryz.prog 43 #[.pointer (some ⟨G, 0, none⟩), .agg #[.int .i64 k, .string s, .int .i64 n, .int .i64 a, .slice A lst.length (capF lst.length c)], .bool tw] W _
  obtain ⟨hdep, hok, hsz, hbl, hT, hMap, hHeld, hJ, hoX, hoG, hoB, hpre⟩ := h
  obtain ⟨m, hm⟩ : ∃ m, m = lst.length := ⟨_, rfl⟩
  obtain ⟨ct, hct⟩ : ∃ q, q = capF m c := ⟨_, rfl⟩
  rw [← hm, ← hct]
  obtain ⟨W1, hW1⟩ : ∃ W1, W1 = W.alloc (.cells #[.int .i64 k, .string s, .int .i64 n, .int .i64 a, .slice A m ct] 24) := ⟨_, rfl⟩
  have hb1 : Below W.heap.size W W1 := by rw [hW1]; exact (Below.refl _ W).alloc (Nat.le_refl _) _
  have L1 : Lies W1 W.heap.size 24 #[.int .i64 k, .string s, .int .i64 n, .int .i64 a, .slice A m ct] := by rw [hW1]; exact Lies.new _ _ _
  have hs1 : W1.heap.size = W.heap.size + 1 := by rw [hW1]; simp
  have hGl : G < W.heap.size := World.block_lt_of_cell? W _ hHeld.m
  have hbl9 := hMap.lt
  have hss : s.size ≤ 140737488351232 := by rw [TIn] at hT; exact hT.1
  obtain ⟨x, hx⟩ : ∃ x, x = countN b s := ⟨_, rfl⟩
  obtain ⟨fr0, hfr0⟩ : ∃ f, f = !inN b s := ⟨_, rfl⟩
  have hx0 : (x == 0) = fr0 := by rw [hx, hfr0]; exact countN_in b s
  obtain ⟨fr, hfr⟩ : ∃ f, f = (decide (k = 1) && fr0) := ⟨_, rfl⟩
  have HF : Hid (∀ V, Below W1.heap.size W1 V → V.cell? ⟨W.heap.size, 0, none⟩ = some (.int .i64 k) ∧ V.cell? ⟨W.heap.size, 1, none⟩ = some (.string s) ∧ V.cell? ⟨W.heap.size, 2, none⟩ = some (.int .i64 n) ∧ V.cell? ⟨W.heap.size, 3, none⟩ = some (.int .i64 a) ∧ V.cell? ⟨W.heap.size, 4, none⟩ = some (.slice A m ct) ∧
      V.cell? ⟨G, 0, none⟩ = some (.map (some bm)) ∧ (Instr.lookup 49 (.map (some bm)) (.string s) false).run Tryz.prog V = .ok (.int .i64 x) V) := Lib.hid fun V hV => by
    have hc : ∀ i v, W1.cell? ⟨W.heap.size, i, none⟩ = some v → V.cell? ⟨W.heap.size, i, none⟩ = some v := fun i v h => (hV.cell (p := ⟨W.heap.size, i, none⟩) L1.lt).trans h
    refine ⟨hc 0 _ (L1.cell 0), hc 1 _ (L1.cell 1), hc 2 _ (L1.cell 2), hc 3 _ (L1.cell 3), hc 4 _ (L1.cell 4), ?_, ?_⟩
    · exact ((hb1.trans (hV.mono hb1.size)).cell (p := ⟨G, 0, none⟩) hGl).trans hHeld.m
    · obtain ⟨q, D, hown, _, hD⟩ := hMap.below (hb1.trans (hV.mono hb1.size)) hbl9
      obtain ⟨cc, h1, h2, _⟩ := hown.lookup_int (Maps.string_keyed Tryz.underlying9) Tryz.underlying49 Tryz.underlying3 (Tryz.zeroValue3 _) (Go.WideMaps.keyOf_string_mk Tryz.underlying9 (s := s) (by unfold maxLen; omega))
      rw [hD s] at h2
      injection h2 with h2
      injection h2 with _ h2
      rw [h1, ← h2, hx]
  have hm9 : m ≤ 9 := by
    have h9 := hok
    rw [okT] at h9
    have := h9.1.2.2.2.2.2.2
    omega
  have HJ := Lib.hid hJ
  have HT := Lib.hid hT
  have HMap := Lib.hid hMap
  have HHeld := Lib.hid hHeld
  have HOX := Lib.hid hoX
  have HOG := Lib.hid hoG
  have HOB := Lib.hid hoB
  have HPRE := Lib.hid hpre
  have HB1 := Lib.hid hb1
  have HL1 := Lib.hid L1
  have HS1 := Lib.hid hs1
  have HM := Lib.hid hm
  have HCT := Lib.hid hct
  have HFR := Lib.hid hfr
  have HFR0 := Lib.hid hfr0
  have HOK := Lib.hid hok
  have HDEP := Lib.hid hdep
  have HIH := Lib.hid ih
  clear hJ hT hMap hHeld hoX hoG hoB hpre hb1 L1 hs1 hm hct hfr hfr0 hx hok hdep ih
  go_enter Tryz.func43, Tryz.ntmps43
  go_upto_region 1 with fail
  rw [← hW1]
  clear hW1
  go_cut [7] (fun v wx => ∃ g7, v = .pointer (some ⟨g7, 0, none⟩) ∧ W1.heap.size ≤ g7 ∧ Lies wx g7 54 (spotC k n a s A m ct fr tw) ∧ Below W1.heap.size W1 wx)
  case first =>
    by_cases hk : k = 1
    · subst hk
      obtain rfl : fr = fr0 := by rw [HFR.out]; simp
      refine wp_region_held_drew (S := fun V => Below W1.heap.size W1 V) rfl (Below.refl _ _).drew (fun hSs => ?_)
      change wpAnyH _ _ _ _ _ 18 (Array.replicate 18 false) _ _
      refine wpAnyH_take (i := 0) (oi := ⟨some 13, _, _, _, _, _⟩) (v := .agg #[.int .i64 1, .string s, .int .i64 n, .int .i64 a, .slice A m ct]) rfl (by kernel_rfl) (by kernel_rfl) (by kernel_rfl) (fun _ _ _ h => h) (.inl ⟨by kernel_rfl, fun X hX => by obtain ⟨f0, f1, f2, f3, f4, f5, f6⟩ := HF.out X hX; go_simp⟩) hSs ?_
      try simp only [Act.put, List.setIfInBounds_toArray, List.set_cons_zero, List.set_cons_succ]
      refine wpAnyH_take (i := 1) (oi := ⟨some 14, _, _, _, _, _⟩) (v := .pointer (some ⟨W.heap.size, 0, none⟩)) rfl (by kernel_rfl) (by kernel_rfl) (by kernel_rfl) (fun _ _ _ h => h) (.inl ⟨by kernel_rfl, fun X hX => by first | (go_simp; done) | kernel_rfl⟩) hSs ?_
      try simp only [Act.put, List.setIfInBounds_toArray, List.set_cons_zero, List.set_cons_succ]
      refine wpAnyH_take (i := 2) (oi := ⟨some 15, _, _, _, _, _⟩) (v := .int .i64 1) rfl (by kernel_rfl) (by kernel_rfl) (by kernel_rfl) (fun _ _ _ h => h) (.inl ⟨by kernel_rfl, fun X hX => by obtain ⟨f0, f1, f2, f3, f4, f5, f6⟩ := HF.out X hX; go_simp⟩) hSs ?_
      try simp only [Act.put, List.setIfInBounds_toArray, List.set_cons_zero, List.set_cons_succ]
      refine wpAnyH_take (i := 3) (oi := ⟨some 16, _, _, _, _, _⟩) (v := .bool true) rfl (by kernel_rfl) (by kernel_rfl) (by kernel_rfl) (fun _ _ _ h => h) (.inl ⟨by kernel_rfl, fun X hX => by first | (go_simp; done) | kernel_rfl⟩) hSs ?_
      try simp only [Act.put, List.setIfInBounds_toArray, List.set_cons_zero, List.set_cons_succ]
      refine wpAnyH_take (i := 4) (oi := ⟨some 17, _, _, _, _, _⟩) (v := .bool true) rfl (by kernel_rfl) (by kernel_rfl) (by kernel_rfl) (fun _ _ _ h => h) (.inl ⟨by kernel_rfl, fun X hX => by first | (go_simp; done) | kernel_rfl⟩) hSs ?_
      try simp only [Act.put, List.setIfInBounds_toArray, List.set_cons_zero, List.set_cons_succ]
      refine wpAnyH_take (i := 5) (oi := ⟨some 18, _, _, _, _, _⟩) (v := .pointer (some ⟨G, 0, none⟩)) rfl (by kernel_rfl) (by kernel_rfl) (by kernel_rfl) (fun _ _ _ h => h) (.inl ⟨by kernel_rfl, fun X hX => by first | (go_simp; done) | kernel_rfl⟩) hSs ?_
      try simp only [Act.put, List.setIfInBounds_toArray, List.set_cons_zero, List.set_cons_succ]
      refine wpAnyH_take (i := 6) (oi := ⟨some 19, _, _, _, _, _⟩) (v := .pointer (some ⟨G, 0, none⟩)) rfl (by kernel_rfl) (by kernel_rfl) (by kernel_rfl) (fun _ _ _ h => h) (.inl ⟨by kernel_rfl, fun X hX => by first | (go_simp; done) | kernel_rfl⟩) hSs ?_
      try simp only [Act.put, List.setIfInBounds_toArray, List.set_cons_zero, List.set_cons_succ]
      refine wpAnyH_take (i := 7) (oi := ⟨some 20, _, _, _, _, _⟩) (v := .pointer (some ⟨G, 0, none⟩)) rfl (by kernel_rfl) (by kernel_rfl) (by kernel_rfl) (fun _ _ _ h => h) (.inl ⟨by kernel_rfl, fun X hX => by first | (go_simp; done) | kernel_rfl⟩) hSs ?_
      try simp only [Act.put, List.setIfInBounds_toArray, List.set_cons_zero, List.set_cons_succ]
      refine wpAnyH_take (i := 8) (oi := ⟨some 21, _, _, _, _, _⟩) (v := .map (some bm)) rfl (by kernel_rfl) (by kernel_rfl) (by kernel_rfl) (fun _ _ _ h => h) (.inl ⟨by kernel_rfl, fun X hX => by obtain ⟨f0, f1, f2, f3, f4, f5, f6⟩ := HF.out X hX; go_simp⟩) hSs ?_
      try simp only [Act.put, List.setIfInBounds_toArray, List.set_cons_zero, List.set_cons_succ]
      refine wpAnyH_take (i := 9) (oi := ⟨some 22, _, _, _, _, _⟩) (v := .pointer (some ⟨W.heap.size, 1, none⟩)) rfl (by kernel_rfl) (by kernel_rfl) (by kernel_rfl) (fun _ _ _ h => h) (.inl ⟨by kernel_rfl, fun X hX => by first | (go_simp; done) | kernel_rfl⟩) hSs ?_
      try simp only [Act.put, List.setIfInBounds_toArray, List.set_cons_zero, List.set_cons_succ]
      refine wpAnyH_take (i := 10) (oi := ⟨some 23, _, _, _, _, _⟩) (v := .string s) rfl (by kernel_rfl) (by kernel_rfl) (by kernel_rfl) (fun _ _ _ h => h) (.inl ⟨by kernel_rfl, fun X hX => by obtain ⟨f0, f1, f2, f3, f4, f5, f6⟩ := HF.out X hX; go_simp⟩) hSs ?_
      try simp only [Act.put, List.setIfInBounds_toArray, List.set_cons_zero, List.set_cons_succ]
      refine wpAnyH_take (i := 11) (oi := ⟨some 24, _, _, _, _, _⟩) (v := .int .i64 x) rfl (by kernel_rfl) (by kernel_rfl) (by kernel_rfl) (fun _ _ _ h => h) (.inl ⟨by kernel_rfl, fun X hX => by obtain ⟨f0, f1, f2, f3, f4, f5, f6⟩ := HF.out X hX; go_simp⟩) hSs ?_
      try simp only [Act.put, List.setIfInBounds_toArray, List.set_cons_zero, List.set_cons_succ]
      refine wpAnyH_take (i := 12) (oi := ⟨some 25, _, _, _, _, _⟩) (v := .bool fr) rfl (by kernel_rfl) (by kernel_rfl) (by kernel_rfl) (fun _ _ _ h => h) (.inl ⟨by kernel_rfl, fun X hX => by obtain ⟨f0, f1, f2, f3, f4, f5, f6⟩ := HF.out X hX; go_simp⟩) hSs ?_
      try simp only [Act.put, List.setIfInBounds_toArray, List.set_cons_zero, List.set_cons_succ]
      refine wpAnyH_take (i := 13) (oi := ⟨some 26, _, _, _, _, _⟩) (v := .bool fr) rfl (by kernel_rfl) (by kernel_rfl) (by kernel_rfl) (fun _ _ _ h => h) (.inl ⟨by kernel_rfl, fun X hX => by first | (go_simp; done) | kernel_rfl⟩) hSs ?_
      try simp only [Act.put, List.setIfInBounds_toArray, List.set_cons_zero, List.set_cons_succ]
      refine wpAnyH_take (i := 14) (oi := ⟨some 27, _, _, _, _, _⟩) (v := .bool tw) rfl (by kernel_rfl) (by kernel_rfl) (by kernel_rfl) (fun _ _ _ h => h) (.inl ⟨by kernel_rfl, fun X hX => by first | (go_simp; done) | kernel_rfl⟩) hSs ?_
      try simp only [Act.put, List.setIfInBounds_toArray, List.set_cons_zero, List.set_cons_succ]
      refine wpAnyH_take (i := 15) (oi := ⟨some 28, _, _, _, _, _⟩) (v := spotV 1 n a s A m ct fr tw) rfl (by kernel_rfl) (by kernel_rfl) (by kernel_rfl) (fun _ _ _ h => h) (.inl ⟨by kernel_rfl, fun X hX => by first | (go_simp; done) | kernel_rfl⟩) hSs ?_
      try simp only [Act.put, List.setIfInBounds_toArray, List.set_cons_zero, List.set_cons_succ]
      refine wpAnyH_ready (rs := [16]) (by kernel_rfl) (by simp) (AllReadyH.cons rfl (fun K hK => ?_) AllReadyH.nil)
      go_simp
      have lb : Lies (W1.drew.alloc (.cells #[.int .i64 0, .string ⟨#[]⟩, .int .i64 0, .int .i64 0, .slice none 0 0, .bool false, .bool false] 54)) W1.heap.size 54 #[.int .i64 0, .string ⟨#[]⟩, .int .i64 0, .int .i64 0, .slice none 0 0, .bool false, .bool false] := Lies.new W1.drew _ _
      refine hK.out _ _ (hSs.alloc hSs.size _) (fun hS1 => ?_)
      clear hK K
      try simp only [Act.put, List.setIfInBounds_toArray, List.set_cons_zero, List.set_cons_succ]
      refine wpAnyH_ready (rs := [17]) (by kernel_rfl) (by simp) (AllReadyH.cons rfl (fun K hK => ?_) AllReadyH.nil)
      obtain ⟨b0, b1, b2, b3, b4, b5, b6⟩ := seven_cells lb
      have fb0 := lb.frozen 0
      have fb1 := lb.frozen 1
      have fb2 := lb.frozen 2
      have fb3 := lb.frozen 3
      have fb4 := lb.frozen 4
      have fb5 := lb.frozen 5
      have fb6 := lb.frozen 6
      have lp : Lies (W1.drew.alloc (.cells (spotC 1 n a s A m ct fr tw) 54)) W1.heap.size 54 (spotC 1 n a s A m ct fr tw) := Lies.new W1.drew _ _
      go_simp
      refine hK.out _ _ (hSs.alloc hSs.size _) (fun hS2 => ?_)
      clear hK K
      try simp only [Act.put, List.setIfInBounds_toArray, List.set_cons_zero, List.set_cons_succ]
      refine wpAnyH_done (by kernel_rfl) ?_ _
      go_wp2_with fail
      go_meet
      exact ⟨_, rfl, Nat.le_refl _, lp, hS2⟩
    · have e1 : (k == 1) = false := by simpa using hk
      obtain rfl : fr = false := by rw [HFR.out]; simp [hk]
      refine wp_region_held_drew (S := fun V => Below W1.heap.size W1 V) rfl (Below.refl _ _).drew (fun hSs => ?_)
      change wpAnyH _ _ _ _ _ 18 (Array.replicate 18 false) _ _
      refine wpAnyH_take (i := 0) (oi := ⟨some 13, _, _, _, _, _⟩) (v := .agg #[.int .i64 k, .string s, .int .i64 n, .int .i64 a, .slice A m ct]) rfl (by kernel_rfl) (by kernel_rfl) (by kernel_rfl) (fun _ _ _ h => h) (.inl ⟨by kernel_rfl, fun X hX => by obtain ⟨f0, f1, f2, f3, f4, f5, f6⟩ := HF.out X hX; go_simp⟩) hSs ?_
      try simp only [Act.put, List.setIfInBounds_toArray, List.set_cons_zero, List.set_cons_succ]
      refine wpAnyH_take (i := 1) (oi := ⟨some 14, _, _, _, _, _⟩) (v := .pointer (some ⟨W.heap.size, 0, none⟩)) rfl (by kernel_rfl) (by kernel_rfl) (by kernel_rfl) (fun _ _ _ h => h) (.inl ⟨by kernel_rfl, fun X hX => by first | (go_simp; done) | kernel_rfl⟩) hSs ?_
      try simp only [Act.put, List.setIfInBounds_toArray, List.set_cons_zero, List.set_cons_succ]
      refine wpAnyH_take (i := 2) (oi := ⟨some 15, _, _, _, _, _⟩) (v := .int .i64 k) rfl (by kernel_rfl) (by kernel_rfl) (by kernel_rfl) (fun _ _ _ h => h) (.inl ⟨by kernel_rfl, fun X hX => by obtain ⟨f0, f1, f2, f3, f4, f5, f6⟩ := HF.out X hX; go_simp⟩) hSs ?_
      try simp only [Act.put, List.setIfInBounds_toArray, List.set_cons_zero, List.set_cons_succ]
      refine wpAnyH_take (i := 3) (oi := ⟨some 16, _, _, _, _, _⟩) (v := .bool false) rfl (by kernel_rfl) (by kernel_rfl) (by kernel_rfl) (fun _ _ _ h => h) (.inl ⟨by kernel_rfl, fun X hX => by first | (go_simp; done) | kernel_rfl⟩) hSs ?_
      try simp only [Act.put, List.setIfInBounds_toArray, List.set_cons_zero, List.set_cons_succ]
      refine wpAnyH_take (i := 4) (oi := ⟨some 17, _, _, _, _, _⟩) (v := .bool false) rfl (by kernel_rfl) (by kernel_rfl) (by kernel_rfl) (fun _ _ _ h => h) (.inl ⟨by kernel_rfl, fun X hX => by first | (go_simp; done) | kernel_rfl⟩) hSs ?_
      try simp only [Act.put, List.setIfInBounds_toArray, List.set_cons_zero, List.set_cons_succ]
      refine wpAnyH_take (i := 5) (oi := ⟨some 18, _, _, _, _, _⟩) (v := undef) rfl (by kernel_rfl) (by kernel_rfl) (by kernel_rfl) (fun _ _ _ h => h) (.inr ⟨by kernel_rfl, rfl⟩) hSs ?_
      try simp only [Act.put, List.setIfInBounds_toArray, List.set_cons_zero, List.set_cons_succ]
      refine wpAnyH_take (i := 6) (oi := ⟨some 19, _, _, _, _, _⟩) (v := undef) rfl (by kernel_rfl) (by kernel_rfl) (by kernel_rfl) (fun _ _ _ h => h) (.inr ⟨by kernel_rfl, rfl⟩) hSs ?_
      try simp only [Act.put, List.setIfInBounds_toArray, List.set_cons_zero, List.set_cons_succ]
      refine wpAnyH_take (i := 7) (oi := ⟨some 20, _, _, _, _, _⟩) (v := undef) rfl (by kernel_rfl) (by kernel_rfl) (by kernel_rfl) (fun _ _ _ h => h) (.inr ⟨by kernel_rfl, rfl⟩) hSs ?_
      try simp only [Act.put, List.setIfInBounds_toArray, List.set_cons_zero, List.set_cons_succ]
      refine wpAnyH_take (i := 8) (oi := ⟨some 21, _, _, _, _, _⟩) (v := undef) rfl (by kernel_rfl) (by kernel_rfl) (by kernel_rfl) (fun _ _ _ h => h) (.inr ⟨by kernel_rfl, rfl⟩) hSs ?_
      try simp only [Act.put, List.setIfInBounds_toArray, List.set_cons_zero, List.set_cons_succ]
      refine wpAnyH_take (i := 9) (oi := ⟨some 22, _, _, _, _, _⟩) (v := undef) rfl (by kernel_rfl) (by kernel_rfl) (by kernel_rfl) (fun _ _ _ h => h) (.inr ⟨by kernel_rfl, rfl⟩) hSs ?_
      try simp only [Act.put, List.setIfInBounds_toArray, List.set_cons_zero, List.set_cons_succ]
      refine wpAnyH_take (i := 10) (oi := ⟨some 23, _, _, _, _, _⟩) (v := undef) rfl (by kernel_rfl) (by kernel_rfl) (by kernel_rfl) (fun _ _ _ h => h) (.inr ⟨by kernel_rfl, rfl⟩) hSs ?_
      try simp only [Act.put, List.setIfInBounds_toArray, List.set_cons_zero, List.set_cons_succ]
      refine wpAnyH_take (i := 11) (oi := ⟨some 24, _, _, _, _, _⟩) (v := undef) rfl (by kernel_rfl) (by kernel_rfl) (by kernel_rfl) (fun _ _ _ h => h) (.inr ⟨by kernel_rfl, rfl⟩) hSs ?_
      try simp only [Act.put, List.setIfInBounds_toArray, List.set_cons_zero, List.set_cons_succ]
      refine wpAnyH_take (i := 12) (oi := ⟨some 25, _, _, _, _, _⟩) (v := undef) rfl (by kernel_rfl) (by kernel_rfl) (by kernel_rfl) (fun _ _ _ h => h) (.inr ⟨by kernel_rfl, rfl⟩) hSs ?_
      try simp only [Act.put, List.setIfInBounds_toArray, List.set_cons_zero, List.set_cons_succ]
      refine wpAnyH_take (i := 13) (oi := ⟨some 26, _, _, _, _, _⟩) (v := .bool false) rfl (by kernel_rfl) (by kernel_rfl) (by kernel_rfl) (fun _ _ _ h => h) (.inl ⟨by kernel_rfl, fun X hX => by first | (go_simp; done) | kernel_rfl⟩) hSs ?_
      try simp only [Act.put, List.setIfInBounds_toArray, List.set_cons_zero, List.set_cons_succ]
      refine wpAnyH_take (i := 14) (oi := ⟨some 27, _, _, _, _, _⟩) (v := .bool tw) rfl (by kernel_rfl) (by kernel_rfl) (by kernel_rfl) (fun _ _ _ h => h) (.inl ⟨by kernel_rfl, fun X hX => by first | (go_simp; done) | kernel_rfl⟩) hSs ?_
      try simp only [Act.put, List.setIfInBounds_toArray, List.set_cons_zero, List.set_cons_succ]
      refine wpAnyH_take (i := 15) (oi := ⟨some 28, _, _, _, _, _⟩) (v := spotV k n a s A m ct false tw) rfl (by kernel_rfl) (by kernel_rfl) (by kernel_rfl) (fun _ _ _ h => h) (.inl ⟨by kernel_rfl, fun X hX => by first | (go_simp; done) | kernel_rfl⟩) hSs ?_
      try simp only [Act.put, List.setIfInBounds_toArray, List.set_cons_zero, List.set_cons_succ]
      refine wpAnyH_ready (rs := [16]) (by kernel_rfl) (by simp) (AllReadyH.cons rfl (fun K hK => ?_) AllReadyH.nil)
      go_simp
      have lb : Lies (W1.drew.alloc (.cells #[.int .i64 0, .string ⟨#[]⟩, .int .i64 0, .int .i64 0, .slice none 0 0, .bool false, .bool false] 54)) W1.heap.size 54 #[.int .i64 0, .string ⟨#[]⟩, .int .i64 0, .int .i64 0, .slice none 0 0, .bool false, .bool false] := Lies.new W1.drew _ _
      refine hK.out _ _ (hSs.alloc hSs.size _) (fun hS1 => ?_)
      clear hK K
      try simp only [Act.put, List.setIfInBounds_toArray, List.set_cons_zero, List.set_cons_succ]
      refine wpAnyH_ready (rs := [17]) (by kernel_rfl) (by simp) (AllReadyH.cons rfl (fun K hK => ?_) AllReadyH.nil)
      obtain ⟨b0, b1, b2, b3, b4, b5, b6⟩ := seven_cells lb
      have fb0 := lb.frozen 0
      have fb1 := lb.frozen 1
      have fb2 := lb.frozen 2
      have fb3 := lb.frozen 3
      have fb4 := lb.frozen 4
      have fb5 := lb.frozen 5
      have fb6 := lb.frozen 6
      have lp : Lies (W1.drew.alloc (.cells (spotC k n a s A m ct false tw) 54)) W1.heap.size 54 (spotC k n a s A m ct false tw) := Lies.new W1.drew _ _
      go_simp
      refine hK.out _ _ (hSs.alloc hSs.size _) (fun hS2 => ?_)
      clear hK K
      try simp only [Act.put, List.setIfInBounds_toArray, List.set_cons_zero, List.set_cons_succ]
      refine wpAnyH_done (by kernel_rfl) ?_ _
      go_wp2_with fail
      go_meet
      exact ⟨_, rfl, Nat.le_refl _, lp, hS2⟩
  case rest =>
    obtain ⟨g7, rfl, hg7, L7, hb7⟩ := hcut
    rename World => V7
    have hG7 : Gz No No W No V7 := Gz.of_below (HB1.out.trans (hb7.mono HB1.out.size)) (Nat.le_refl _)
    have hJ7 := hA.own HJ.out hG7 fun _ _ h => h
    have hT7 := TIn.gz _ HT.out hG7 fun g _ => ⟨fun h => h, fun h => h⟩
    have hH7 := HHeld.out.gz hG7 ⟨fun h => h, fun h => h⟩
    have hM7 := HMap.out.heap (hG7.same bm HMap.out.lt (fun h => h) (fun h => h))
    obtain ⟨rest, hrest⟩ : ∃ q, q = spotsL k n s lst b 0 [] lst := ⟨_, rfl⟩
    have hsp : spotsT b tw (.node k s n a lst) = ⟨.node k s n a lst, fr, tw⟩ :: rest := by rw [spotsT, HFR.out, HFR0.out, hrest]
    have hpx : pre ++ [⟨.node k s n a lst, fr, tw⟩] <+: full := by
      have h := HPRE.out
      rw [hsp] at h
      exact (List.prefix_append_right_inj pre).2 (by simp : [(⟨.node k s n a lst, fr, tw⟩ : Spot)] <+: ⟨.node k s n a lst, fr, tw⟩ :: rest) |>.trans h
    have hsv : sv ⟨.node k s n a lst, fr, tw⟩ A c = spotV k n a s A m ct fr tw := by rw [HCT.out, HM.out]; rfl
    have hRD := hA.round pre ⟨.node k s n a lst, fr, tw⟩ A c Z V7.drew (hA.own hJ7 (Gz.refl No No V7).drew fun _ _ h => h) (TIn.keep _ hT7 fun _ _ hg _ => ⟨rfl, hg⟩) hpx
    rw [hsv] at hRD
    obtain ⟨fn3, tmps3, assign3, body3, hyy, hR⟩ := hRD
    obtain ⟨c0, c1, c2, c3, c4, c5, c6⟩ := seven_cells L7
    have y0 := hH7.m
    have y1 := hH7.y
    have HG7 := Lib.hid hG7
    have HT7 := Lib.hid hT7
    have HH7 := Lib.hid hH7
    have HM7 := Lib.hid hM7
    have HSP := Lib.hid hsp
    have HREST := Lib.hid hrest
    have HL7 := Lib.hid L7
    have HPX := Lib.hid hpx
    clear hG7 hJ7 hT7 hH7 hM7 hsp hrest hpx hsv L7
    go_upto_region 2 with fail
    go_cut [35] (fun v wx => ∃ (rr : Bool) (Z5 : Nat → Prop), v = .bool (!rr) ∧ Gz No Z V7 Z5 wx ∧ (rr = true → J (pre ++ [⟨.node k s n a lst, fr, tw⟩]) Z5 wx) ∧ (rr = false → Jx (pre ++ [⟨.node k s n a lst, fr, tw⟩]) Z5 wx))
    case first =>
      refine region_yields rfl ?_
      change wpAnyIn _ _ _ _ _ _ 7 (Array.replicate 7 false) _ _
      refine wpAnyIn_take (i := 0) (oi := ⟨some 29, _, _, _, _, _⟩) (v := .pointer (some ⟨G, 0, none⟩)) rfl rfl (by kernel_rfl) (by kernel_rfl) (by kernel_rfl) (fun _ _ _ h => h) ⟨Or.inl ⟨by rfl, fun W => by kernel_rfl⟩, fun _ => rfl⟩ ?_
      try simp only [Act.put, List.setIfInBounds_toArray, List.set_cons_zero, List.set_cons_succ]
      refine wpAnyIn_take (i := 1) (oi := ⟨some 30, _, _, _, _, _⟩) (v := .pointer (some ⟨G, 0, none⟩)) rfl rfl (by kernel_rfl) (by kernel_rfl) (by kernel_rfl) (fun _ _ _ h => h) ⟨Or.inl ⟨by rfl, fun W => by kernel_rfl⟩, fun _ => rfl⟩ ?_
      try simp only [Act.put, List.setIfInBounds_toArray, List.set_cons_zero, List.set_cons_succ]
      refine wpAnyIn_take (i := 2) (oi := ⟨some 31, _, _, _, _, _⟩) (v := .pointer (some ⟨G, 1, none⟩)) rfl rfl (by kernel_rfl) (by kernel_rfl) (by kernel_rfl) (fun _ _ _ h => h) ⟨Or.inl ⟨by rfl, fun W => by kernel_rfl⟩, fun _ => rfl⟩ ?_
      try simp only [Act.put, List.setIfInBounds_toArray, List.set_cons_zero, List.set_cons_succ]
      refine wpAnyIn_ready (rs := [3, 4]) (by kernel_rfl) (by simp) (AllReadyIn.cons rfl (fun K hK => ?_) (AllReadyIn.cons rfl (fun K hK => ?_) AllReadyIn.nil))
      · go_simp
        refine hK _ _ ?_
        clear hK K
        try simp only [Act.put, List.setIfInBounds_toArray, List.set_cons_zero, List.set_cons_succ]
        refine wpAnyIn_ready (rs := [4]) (by kernel_rfl) (by simp) (AllReadyIn.cons rfl (fun K hK => ?_) AllReadyIn.nil)
        go_simp
        refine hK _ _ ?_
        clear hK K
        try simp only [Act.put, List.setIfInBounds_toArray, List.set_cons_zero, List.set_cons_succ]
        refine wpAnyIn_ready (rs := [5]) (by kernel_rfl) (by simp) (AllReadyIn.cons rfl (fun K hK => ?_) AllReadyIn.nil)
        go_simp
        refine ⟨rfl, hR.mono ?_⟩
        rintro e w5 ⟨rr, Z5, rfl, hg5, ht5, hf5⟩
        refine hK _ _ ?_
        clear hK K
        try simp only [Act.put, List.setIfInBounds_toArray, List.set_cons_zero, List.set_cons_succ]
        refine wpAnyIn_take (i := 6) (oi := ⟨some 35, _, _, _, _, _⟩) (v := .bool (!rr)) rfl rfl (by kernel_rfl) (by kernel_rfl) (by kernel_rfl) (fun _ _ _ h => h) ⟨Or.inl ⟨by rfl, fun W => by kernel_rfl⟩, fun _ => rfl⟩ ?_
        try simp only [Act.put, List.setIfInBounds_toArray, List.set_cons_zero, List.set_cons_succ]
        refine wpAnyIn_done (by kernel_rfl) (calm_in ?_) _
        go_wp2_with fail
        go_meet
        exact ⟨rr, Z5, rfl, (Gz.refl _ _ _).drew.trans hg5, ht5, hf5⟩
      · go_simp
        refine hK _ _ ?_
        clear hK K
        try simp only [Act.put, List.setIfInBounds_toArray, List.set_cons_zero, List.set_cons_succ]
        refine wpAnyIn_ready (rs := [3]) (by kernel_rfl) (by simp) (AllReadyIn.cons rfl (fun K hK => ?_) AllReadyIn.nil)
        go_simp
        refine hK _ _ ?_
        clear hK K
        try simp only [Act.put, List.setIfInBounds_toArray, List.set_cons_zero, List.set_cons_succ]
        refine wpAnyIn_ready (rs := [5]) (by kernel_rfl) (by simp) (AllReadyIn.cons rfl (fun K hK => ?_) AllReadyIn.nil)
        go_simp
        refine ⟨rfl, hR.mono ?_⟩
        rintro e w5 ⟨rr, Z5, rfl, hg5, ht5, hf5⟩
        refine hK _ _ ?_
        clear hK K
        try simp only [Act.put, List.setIfInBounds_toArray, List.set_cons_zero, List.set_cons_succ]
        refine wpAnyIn_take (i := 6) (oi := ⟨some 35, _, _, _, _, _⟩) (v := .bool (!rr)) rfl rfl (by kernel_rfl) (by kernel_rfl) (by kernel_rfl) (fun _ _ _ h => h) ⟨Or.inl ⟨by rfl, fun W => by kernel_rfl⟩, fun _ => rfl⟩ ?_
        try simp only [Act.put, List.setIfInBounds_toArray, List.set_cons_zero, List.set_cons_succ]
        refine wpAnyIn_done (by kernel_rfl) (calm_in ?_) _
        go_wp2_with fail
        go_meet
        exact ⟨rr, Z5, rfl, (Gz.refl _ _ _).drew.trans hg5, ht5, hf5⟩
    case rest =>
      obtain ⟨rr, Z5, rfl, hg5, ht5, hf5⟩ := hcut
      rename World => V8
      clear hyy hR y0 y1 c0 c1 c2 c3 c4 c5 c6
      have hG8 : Gz No Z W Z5 V8 := HG7.out.any.trans hg5
      have hM8 := HM7.out.heap (hg5.same bm HM7.out.lt HOB.out (fun h => h))
      cases rr
      · have HJX := Lib.hid (hf5 rfl)
        have HG8 := Lib.hid hG8
        have HM8 := Lib.hid hM8
        clear ht5 hf5 hg5 hG8 hM8
        go_wp2_with fail
        go_ret
        exact ⟨false, Z5, rfl, HG8.out.more fun _ h => h.elim, HM8.out.mono (by omega), (fun h => by cases h), fun _ => ⟨_, HPX.out, HJX.out⟩⟩
      · have hJ8 := ht5 rfl
        have hZW : ∀ q, Z q → q < W.heap.size := fun q hq => hA.lt pre Z W HJ.out q hq
        have hT8 := TIn.gz _ HT7.out hg5 fun g hg => ⟨(HOX.out g hg).2.1, fun h => h⟩
        have hH8 := HH7.out.gz hg5 ⟨HOG.out.1, fun h => h⟩
        have hzg7 : ¬ Z g7 := fun h => by have := hZW _ h; have := HS1.out; omega
        have hg7w : W.heap.size + 1 ≤ g7 := by have := HS1.out; omega
        have L8 : Lies V8 g7 54 (spotC k n a s A m ct fr tw) := hg5.lies HL7.out hzg7 (fun h => h)
        have hZ8 : ∀ q, Z5 q → q < V8.heap.size := fun q hq => hA.lt _ Z5 V8 hJ8 q hq
        have hz5g7 : ¬ Z5 g7 := hg5.not HL7.out.lt hzg7
        have hz5G : ¬ Z5 G := hG8.not hGl HOG.out.1
        have hz5b : ¬ Z5 bm := hG8.not hbl9 HOB.out
        have hX5 : ∀ g, X g → g < V8.heap.size ∧ ¬ Z5 g ∧ g ≠ bm := fun g hg => ⟨by have := (HOX.out g hg).1; have := hG8.size; omega, hG8.not (HOX.out g hg).1 (HOX.out g hg).2.1, (HOX.out g hg).2.2⟩
        have HJ8 := Lib.hid hJ8
        have HT8 := Lib.hid hT8
        have HH8 := Lib.hid hH8
        have HL8 := Lib.hid L8
        have HZ8 := Lib.hid hZ8
        have HX5 := Lib.hid hX5
        have HG8 := Lib.hid hG8
        have HM8 := Lib.hid hM8
        clear hJ8 hT8 hH8 L8 hZ8 hX5 hG8 hM8 ht5 hf5 hg5 hZW HJ HT HMap HHeld HF HT7 HH7 HM7 HG7 HB1 HL1 HL7
        go_wp2_with fail
        refine (twins_any V8).mono ?_
        rintro e V9 ⟨B, bt, rfl, hB, hMt, hbt, hBl, hne, hBs, hb9⟩
        have hG9 : Gz No No V8 No V9 := Gz.of_below hb9 (Nat.le_refl _)
        have HJ9 := Lib.hid (hA.own HJ8.out hG9 fun _ _ h => h)
        have HT9 := Lib.hid (TIn.gz _ HT8.out hG9 fun g _ => ⟨fun h => h, fun h => h⟩)
        have HH9 := Lib.hid (HH8.out.gz hG9 ⟨fun h => h, fun h => h⟩)
        have HL9 : Hid (Lies V9 g7 54 (spotC k n a s A m ct fr tw)) := Lib.hid (hG9.lies HL8.out (fun h => h) (fun h => h))
        have HM9 := Lib.hid (HM8.out.heap (hG9.same bm HM8.out.lt (fun h => h) (fun h => h)))
        have HMT := Lib.hid hMt
        have HBC := Lib.hid hB
        have HG9 := Lib.hid (HG8.out.trans hG9.any)
        have hg78 := HL8.out.lt
        have hbm8 := HM8.out.lt
        have hG88 : G < V8.heap.size := World.block_lt_of_cell? V8 _ HH8.out.m
        have hs89 := hb9.size
        have hz5B : ¬ Z5 B := fun h => by have := HZ8.out _ h; omega
        have hz5t : ¬ Z5 bt := fun h => by have := HZ8.out _ h; omega
        have hne1 : bt ≠ bm := by omega
        have hne2 : B ≠ bm := by omega
        clear hB hMt hb9 hG9 HJ8 HT8 HH8 HL8 HM8 HG8
        obtain ⟨c0, c1, c2, c3, c4, c5, c6⟩ := seven_cells HL9.out
        go_wp2_with fail
        clear c0 c1 c2 c3 c4 c5 c6
        go_loopw [41] (fun y wr => ∃ (i : Nat) (Zi : Nat → Prop) (ah : List ByteArray) (S : List Spot), i ≤ m ∧ y = .int .i64 i ∧ Hid (Gz (fun q => q = bm ∨ q = bt) Z5 V9 Zi wr ∧ MapS wr bm (N + 200 * sizeL (lst.take i) + 18 * i) (countN b) ∧ MapS wr bt i (countN ah) ∧ ah.length ≤ i ∧ S ++ spotsL k n s lst b i ah (lst.drop i) = rest ∧ J (pre ++ [⟨.node k s n a lst, fr, tw⟩] ++ S) Zi wr)) (fun y _ => m - (intOf y).toNat)
        case atStart => exact ⟨0, Z5, [], [], by omega, rfl, Lib.hid ⟨Gz.refl _ _ _, by simpa [sizeL] using HM9.out, HMT.out, by simp, by rw [HREST.out]; simp, by simpa using HJ9.out⟩⟩
        case round =>
          obtain ⟨i, Zi, ah, S, hi, rfl, hH⟩ := hrel
          rename World => wr
          by_cases hlt : i < m
          · skip
            obtain ⟨hGi, hMi, hMti, hahl, hSi, hJi⟩ := hH.out
            have hil : i < lst.length := by have := HM.out; omega
            have hsz9 := hGi.size
            have hTi := TIn.gz _ HT9.out hGi fun g hg => ⟨(HX5.out g hg).2.1, fun h => by rcases h with h | h; exact (HX5.out g hg).2.2 h; have := (HX5.out g hg).1; omega⟩
            have hHi := HH9.out.gz hGi ⟨hz5G, fun h => by rcases h with h | h; exact HOG.out.2 h; omega⟩
            have hLi : Lies wr g7 54 (spotC k n a s A m ct fr tw) := hGi.lies HL9.out hz5g7 (fun h => by rcases h with h | h; omega; omega)
            have hBi := hGi.cell HBC.out hz5B (fun h => by rcases h with h | h; exact hne2 h; exact hne h)
            have hLIn := hTi
            rw [TIn] at hLIn
            obtain ⟨g, o, A', c', ⟨hAe, hXg⟩, d0, d1, d2, d3, d4, hTp⟩ := LIn.at_ lst hLIn.2.2 i hil
            simp only [Nat.zero_add] at d0 d1 d2 d3 d4
            obtain ⟨p, hp⟩ : ∃ q, q = lst[i]'hil := ⟨_, rfl⟩
            rw [← hp] at d0 d1 d2 d3 d4 hTp
            obtain ⟨pm, hpm⟩ : ∃ q, q = p.parts.length := ⟨_, rfl⟩
            obtain ⟨pc, hpc⟩ : ∃ q, q = capF pm c' := ⟨_, rfl⟩
            rw [← hpm, ← hpc] at d4
            have hdrop : lst.drop i = p :: lst.drop (i + 1) := by rw [List.drop_eq_getElem_cons hil, hp]
            have htake : sizeL (lst.take (i + 1)) = sizeL (lst.take i) + sizeT p := by rw [List.take_succ_eq_append_getElem hil, ← hp]; exact sizeL_snoc _ _
            have HGi := Lib.hid hGi
            have HMi := Lib.hid hMi
            have HMti := Lib.hid hMti
            have HSi := Lib.hid hSi
            have HJi := Lib.hid hJi
            have HTi := Lib.hid hTi
            have HHi := Lib.hid hHi
            have HLi := Lib.hid hLi
            have HBi := Lib.hid hBi
            have HTp := Lib.hid hTp
            have HP := Lib.hid hp
            have HPM := Lib.hid hpm
            have HPC := Lib.hid hpc
            have HDR := Lib.hid hdrop
            have HTK := Lib.hid htake
            have HXg := Lib.hid hXg
            have HAe := Lib.hid hAe
            clear hGi hMi hMti hSi hJi hTi hHi hLi hBi hLIn hTp hp hpm hpc hdrop htake hH hXg
            have hA0 := HAe.out
            subst hA0
            go_upto_region 8 with fail
            obtain ⟨W10, hW10⟩ : ∃ V, V = wr.alloc (.cells #[.int .i64 p.kind, .string p.name, .int .i64 p.n, .int .i64 p.place, .slice A' pm pc] 24) := ⟨_, rfl⟩
            obtain ⟨g10, hg10⟩ : ∃ g, g = wr.heap.size := ⟨_, rfl⟩
            have hb10 : Below wr.heap.size wr W10 := by rw [hW10]; exact (Below.refl _ _).alloc (Nat.le_refl _) _
            have L10 : Lies W10 g10 24 #[.int .i64 p.kind, .string p.name, .int .i64 p.n, .int .i64 p.place, .slice A' pm pc] := by rw [hW10, hg10]; exact Lies.new _ _ _
            rw [← hW10, ← hg10]
            have hs10 : g10 < W10.heap.size := by rw [hW10, hg10]; simp
            have hg10l : wr.heap.size ≤ g10 := by omega
            clear hW10 hg10 d0 d1 d2 d3 d4
            have hG10 : Gz No No wr No W10 := Gz.of_below hb10 (Nat.le_refl _)
            have hok8 : k = 8 → 0 ≤ n ∧ n + 1 = (m : Int) := fun hk => by
              have h9 := HOK.out
              rw [okT] at h9
              have := h9.1.1 hk
              have := HM.out
              omega
            obtain ⟨q, hq⟩ : ∃ q, q = fromN k n := ⟨_, rfl⟩
            have hq8 : k = 8 → n = q ∧ q < m := fun hk => by
              have h9 := hok8 hk
              rw [fromN, if_pos hk] at hq
              omega
            have hq0 : k ≠ 8 → q = 0 := fun hk => by rw [hq, fromN, if_neg hk]
            have hmct : m ≤ ct := by rw [HCT.out]; exact le_capF _ _
            have hVR : ∃ (B' : Option Addr) (cb : Nat), ∀ V, Calls Tryz.prog 65 #[spotV k n a s (some ⟨g, o, none⟩) m ct fr tw] V fun e w' => e = .returned (.slice B' q cb) ∧ Below V.heap.size V w' := by
              by_cases hk : k = 8
              · subst hk
                obtain ⟨rfl, hn⟩ := hq8 rfl
                exact ⟨_, ct, fun V => vars_alt q a s g o m ct fr tw V (by omega)⟩
              · obtain rfl := hq0 hk
                exact ⟨none, 0, fun V => vars_no k n a s _ m ct fr tw V hk⟩
            obtain ⟨B', cb, hVR⟩ := hVR
            have HVR := Lib.hid (hVR W10)
            have HQ := Lib.hid hq
            have HQ8 := Lib.hid hq8
            have HQ0 := Lib.hid hq0
            have HBX : Hid (∀ V, Below W10.heap.size W10 V → Lies V g7 54 (spotC k n a s (some ⟨g, o, none⟩) m ct fr tw) ∧ Lies V g10 24 #[.int .i64 p.kind, .string p.name, .int .i64 p.n, .int .i64 p.place, .slice A' pm pc]) := Lib.hid fun V hV => ⟨(HLi.out.below hb10 HLi.out.lt).below hV (by have := HLi.out.lt; have := hb10.size; omega), L10.below hV L10.lt⟩
            have hg7r := HLi.out.lt
            have HG10 := Lib.hid hG10
            have HB10 := Lib.hid hb10
            clear hVR hq hq8 hq0 hok8 hG10 hb10 L10
            obtain ⟨c0, c1, c2, c3, c4, c5, c6⟩ := seven_cells (HBX.out W10 (Below.refl _ _)).1
            go_wp2_with fail
            refine HVR.out.mono ?_
            rintro e W11 ⟨rfl, hb11⟩
            have HG11 := Lib.hid (HG10.out.trans (Gz.of_below hb11 (Nat.le_refl _)))
            have HB11 := Lib.hid hb11
            clear HVR c0 c1 c2 c3 c4 c5 c6 hb11
            by_cases hiq : i < q
            · have e9 : decide (i < q) = true := decide_eq_true hiq
              have e8 : decide ((i : Int) < (q : Int)) = true := decide_eq_true (by omega)
              go_wp2_with fail
              go_roundw
              case rel =>
                go_light
                refine ⟨i + 1, Zi, ah, S, by omega, by go_num, Lib.hid ⟨HGi.out.tail HG11.out.any (fun _ _ h => h.elim), (HMi.out.heap (HG11.out.same bm HMi.out.lt (fun h => h) (fun h => h))).mono (by rw [HTK.out]; omega), (HMti.out.heap (HG11.out.same bt HMti.out.lt (fun h => h) (fun h => h))).mono (by omega), by omega, ?_, hA.own HJi.out HG11.out fun _ _ h => h⟩⟩
                have h9 := HSi.out
                rw [HDR.out, spotsL, if_pos (by rw [← HQ.out]; exact hiq)] at h9
                exact h9
              case measure => simp [intOf]; omega
            · skip
              have e9 : decide (i < q) = false := decide_eq_false hiq
              have e8 : decide ((i : Int) < (q : Int)) = false := decide_eq_false (by omega)
              obtain ⟨nm, hnm⟩ : ∃ r, r = bindN k n s i lst := ⟨_, rfl⟩
              have hLIn : LIn wr X lst (some ⟨g, o, none⟩) 0 := by
                have h := HTi.out
                rw [TIn] at h
                exact h.2.2
              have hBN : ∀ V, Below wr.heap.size wr V → Calls Tryz.prog 66 #[spotV k n a s (some ⟨g, o, none⟩) m ct fr tw, .int .i64 i] V (GivesB nm V) := fun V hV => by
                by_cases h1 : k = 2 ∨ k = 5 ∨ (k = 4 ∧ i = 1)
                · have : nm = [s] := by
                    rw [hnm, bindN]
                    rcases h1 with rfl | rfl | ⟨rfl, rfl⟩ <;> simp
                  rw [this]
                  exact binds_one k n a s _ m ct fr tw i V h1
                · have h2 : k ≠ 2 := fun e => h1 (.inl e)
                  have h5 : k ≠ 5 := fun e => h1 (.inr (.inl e))
                  have h4 : ¬ (k = 4 ∧ i = 1) := fun e => h1 (.inr (.inr e))
                  have : nm = varsN q lst := by
                    rw [hnm, bindN, if_neg (by omega)]
                    by_cases h8 : k = 8
                    · rw [if_neg (by omega), if_pos h8, (HQ8.out h8).1]
                    · rw [HQ0.out h8]
                      have hv0 : varsN ((0 : Nat) : Int) lst = [] := by cases lst with
                        | nil => rfl
                        | cons t r => rw [varsN, if_pos (by omega)]
                      rw [hv0]
                      by_cases h44 : k = 4
                      · rw [if_pos h44, if_neg (fun e => h4 ⟨h44, e⟩)]
                      · rw [if_neg h44, if_neg h8]
                  rw [this]
                  exact binds_many k n a s lst _ m ct fr tw i V q HQ8.out HQ0.out h2 h5 h4 HM.out hm9 hmct (LIn.keep _ hLIn fun g j _ hlt => ⟨hV.cell (p := ⟨g, j, none⟩) hlt, trivial⟩)
              have hnl : nm.length ≤ 9 := by
                have h := HM.out
                rw [hnm, bindN]
                repeat' split
                all_goals first
                  | (simp; done)
                  | (rename_i h8; have h9 := (HQ8.out h8); have := varsN_len lst n (by omega) (by omega); omega)
              have hns : ∀ x ∈ nm, x.size ≤ 140737488351232 := fun x hx => by
                rw [hnm, bindN] at hx
                have hv : ∀ x ∈ varsN n lst, x.size ≤ 140737488351232 := fun x hx => by
                  by_cases hn : 0 ≤ n
                  · rw [varsN_eq lst n hn] at hx
                    obtain ⟨u, hu, rfl⟩ := List.mem_map.1 hx
                    obtain ⟨j, hj, rfl⟩ := List.mem_iff_getElem.1 (List.mem_of_mem_take hu)
                    obtain ⟨_, _, _, _, _, _, _, _, _, _, h9⟩ := LIn.at_ lst hLIn j hj
                    generalize lst[j] = v at h9
                    obtain ⟨k', s', n', a', l'⟩ := v
                    rw [TIn] at h9
                    exact h9.1
                  · cases lst with
                    | nil => simp [varsN] at hx
                    | cons t r => rw [varsN, if_pos (by omega)] at hx; simp at hx
                split at hx
                · simp at hx; rw [hx]; exact hss
                · split at hx
                  · split at hx
                    · simp at hx; rw [hx]; exact hss
                    · simp at hx
                  · split at hx
                    · exact hv x hx
                    · simp at hx
              obtain ⟨mm, hmm⟩ : ∃ r, r = nm.length := ⟨_, rfl⟩
              have hmm9 : mm ≤ 9 := by omega
              have HBN := Lib.hid (hBN W11 (HB10.out.trans (HB11.out.mono HB10.out.size)))
              have HNM := Lib.hid hnm
              have HMM := Lib.hid hmm
              have HNS := Lib.hid hns
              clear hnm hLIn hBN hnl hns hmm
              obtain ⟨c0, c1, c2, c3, c4, c5, c6⟩ := seven_cells (HBX.out W11 HB11.out).1
              go_wp2_with fail
              refine HBN.out.mono ?_
              rintro e W12 ⟨v, rfl, ho, hb12⟩
              clear c0 c1 c2 c3 c4 c5 c6 HBN
              rw [← HMM.out] at ho
              obtain ⟨A12, c12, rfl⟩ := own_sliceS ho
              have hSI : SIn W12 (fun g => W11.heap.size ≤ g) nm A12 := SIn.owned ho
              have hB12 : Below W10.heap.size W10 W12 := HB11.out.trans (hb12.mono HB11.out.size)
              have hG12 : Gz No No wr No W12 := HG11.out.trans (Gz.of_below hb12 (Nat.le_refl _))
              have hM12 := HMi.out.heap (hG12.same bm HMi.out.lt (fun h => h) (fun h => h))
              have hs1112 := hb12.size
              have hs11 : W10.heap.size ≤ W11.heap.size := HB11.out.size
              have hbmr := HMi.out.lt
              have hbtr := HMti.out.lt
              obtain ⟨N1, hN1⟩ : ∃ N1, N1 = N + 200 * sizeL (lst.take i) + 18 * i := ⟨_, rfl⟩
              rw [← hN1] at hM12
              have hN1b : N1 + 200 * sizeT p + 18 ≤ N + 200 * sizeT (.node k s n a lst) ∧ N1 + 200 * sizeT p + 18 ≤ N + 200 * sizeL (lst.take (i + 1)) + 18 * (i + 1) := by
                have h1 := sizeL_take_le lst (i + 1)
                rw [HTK.out] at h1 ⊢
                rw [sizeT]
                omega
              have HBD := Lib.hid (bind_any G bm N1 (countN b) nm A12 mm c12 1 W12 ((HHi.out.gz hG12 ⟨fun h => h, fun h => h⟩).m) HOG.out.2 hM12 (by omega) HMM.out (by omega) (hSI.keep fun g j hg _ => ⟨rfl, by have hg' : W11.heap.size ≤ g := hg; omega⟩) HNS.out (.inl rfl) (fun v => by have := countN_nn b v; omega))
              have HSI := Lib.hid hSI
              have HB12 := Lib.hid hB12
              have HG12 := Lib.hid hG12
              have HN1 := Lib.hid hN1
              have HN1B := Lib.hid hN1b
              clear ho hb12 hSI hB12 hG12 hM12 hN1 hN1b
              go_wp2_with fail
              refine HBD.out.mono ?_
              rintro e W13 ⟨rfl, hM13, hg13⟩
              have hM13' : MapS W13 bm (N1 + mm) (countN (b ++ nm)) := hM13.eq fun v => by rw [countN_app]; omega
              have hG13 : Gz (fun q => q = bm) No wr No W13 := (HG12.out.more fun _ h => h.elim).grown hg13 (fun k e => by injection e with e; exact .inr e.symm)
              have hL13 : Lies W13 g10 24 #[.int .i64 p.kind, .string p.name, .int .i64 p.n, .int .i64 p.place, .slice A' pm pc] := (hg13.block g10 (by have := (HBX.out W12 HB12.out).2.lt; exact this) (fun e => by injection e with e; omega)).trans (HBX.out W12 HB12.out).2
              have HM13 := Lib.hid hM13'
              have HG13 := Lib.hid hG13
              have HL13 := Lib.hid hL13
              have HGR13 := Lib.hid hg13
              clear hM13 hM13' hG13 hL13 HBD hg13
              go_upto_region 11 with fail
              obtain ⟨twp, htwp⟩ : ∃ r, r = (decide (p.kind = 8) && inN ah p.name) := ⟨_, rfl⟩
              obtain ⟨ah2, hah2⟩ : ∃ r, r = (if p.kind = 8 then ah ++ [p.name] else ah) := ⟨_, rfl⟩
              have hrest2 : S ++ (spotsT (b ++ nm) twp p ++ spotsL k n s lst b (i + 1) ah2 (lst.drop (i + 1))) = rest := by
                have h9 := HSi.out
                rw [HDR.out, spotsL, if_neg (by rw [← HQ.out]; exact hiq), inner_bind, ← HNM.out, ← htwp, ← hah2] at h9
                exact h9
              have hpn : p.name.size ≤ 140737488351232 := by
                have h := HTp.out
                obtain ⟨k', s', n', a', l'⟩ := p
                rw [TIn] at h
                exact h.1
              have hdp : depthT p ≤ d := by
                have h := HDEP.out
                rw [depthT] at h
                have := depthL_mem lst p (by rw [HP.out]; exact List.getElem_mem hil)
                omega
              have hokp : okT p := by
                have h := HOK.out
                rw [okT] at h
                exact okL_mem lst p (by rw [HP.out]; exact List.getElem_mem hil) h.2
              -- the part is gone through, from any world in which but the names told have turned
              have HTR : Hid (∀ V, Gz (fun q => q = bm ∨ q = bt) No wr No V → V.heap[bm]? = W13.heap[bm]? → Calls Tryz.prog 43 #[.pointer (some ⟨G, 0, none⟩), .agg #[.int .i64 p.kind, .string p.name, .int .i64 p.n, .int .i64 p.place, .slice A' pm pc], .bool twp] V (ThrPostS bm full J Jx p twp (b ++ nm) (N1 + mm) (pre ++ [⟨.node k s n a lst, fr, tw⟩] ++ S) Zi V)) := Lib.hid fun V hV hVb => by
                rw [HPC.out, HPM.out]
                refine HIH.out p A' c' twp (b ++ nm) (N1 + mm) (pre ++ [⟨.node k s n a lst, fr, tw⟩] ++ S) Zi V ⟨hdp, hokp, ?_, ?_, ?_, ?_, ?_, ?_, ?_, ?_, ?_, ?_⟩
                · have := HN1B.out; omega
                · rw [List.length_append, ← HMM.out]; omega
                · exact TIn.gz _ HTp.out hV fun g hg => ⟨fun h => h, fun h => by rcases h with h | h; exact (HX5.out g hg).2.2 h; have := (HX5.out g hg).1; omega⟩
                · exact HM13.out.heap hVb
                · exact HHi.out.gz hV ⟨fun h => h, fun h => by rcases h with h | h; exact HOG.out.2 h; omega⟩
                · exact hA.own HJi.out hV fun j hj h => by
                    rcases h with h | h
                    · subst h; exact (HGi.out.not (by have := HM9.out.lt; omega) hz5b) hj
                    · subst h; exact (HGi.out.not (by have := HMT.out.lt; omega) hz5t) hj
                · exact fun g hg => ⟨by have := (HX5.out g hg).1; have := hV.size; omega, HGi.out.not (by have := (HX5.out g hg).1; omega) (HX5.out g hg).2.1, (HX5.out g hg).2.2⟩
                · exact ⟨HGi.out.not (by omega) hz5G, HOG.out.2⟩
                · exact HGi.out.not (by have := HM9.out.lt; omega) hz5b
                · have h9 := HPRE.out
                  rw [HSP.out, ← hrest2] at h9
                  refine List.IsPrefix.trans ?_ h9
                  refine ⟨spotsL k n s lst b (i + 1) ah2 (lst.drop (i + 1)), ?_⟩
                  simp
              have HTW := Lib.hid htwp
              have HAH := Lib.hid hah2
              have HRS := Lib.hid hrest2
              have hcn := countN_nn ah p.name
              have hM13t : MapS W13 bt i (countN ah) := HMti.out.heap (HG13.out.same bt HMti.out.lt (fun h => h) (fun h => hne1 h))
              have hB13 : W13.cell? ⟨B, 0, none⟩ = some (.map (some bt)) := HG13.out.cell HBi.out (fun h => h) hne2
              have hs13 := HG13.out.size
              clear hrest2 hdp hokp htwp hah2
              obtain ⟨d0, d1, d2, d3, d4⟩ := HL13.out.five.1
              go_cut [12] (fun v wx => ∃ (on : Bool) (Z15 : Nat → Prop), v = .bool on ∧ Gz (fun q => q = bm ∨ q = bt) Zi W13 Z15 wx ∧ MapS wx bm (N1 + mm + 200 * sizeT p) (countN (b ++ nm)) ∧ MapS wx bt (i + 1) (countN ah2) ∧ (on = true → J ((pre ++ [⟨.node k s n a lst, fr, tw⟩] ++ S) ++ spotsT (b ++ nm) twp p) Z15 wx) ∧ (on = false → ∃ r, (pre ++ [⟨.node k s n a lst, fr, tw⟩] ++ S) ++ r <+: full ∧ Jx ((pre ++ [⟨.node k s n a lst, fr, tw⟩] ++ S) ++ r) Z15 wx))
              case first =>
                by_cases hk8 : p.kind = 8
                · have e8k : (p.kind == 8) = true := by simpa using hk8
                  have HK8 := Lib.hid hk8
                  clear hk8
                  refine wp_region_held_drew (S := (fun V : World => V.cell? ⟨g10, 0, none⟩ = some (.int .i64 p.kind) ∧ V.cell? ⟨g10, 1, none⟩ = some (.string p.name) ∧ V.cell? ⟨g10, 2, none⟩ = some (.int .i64 p.n) ∧ V.cell? ⟨g10, 3, none⟩ = some (.int .i64 p.place) ∧ V.cell? ⟨g10, 4, none⟩ = some (.slice A' pm pc))) rfl ⟨d0, d1, d2, d3, d4⟩ (fun hSs => ?_)
                  change wpAnyH _ _ _ _ _ 13 (Array.replicate 13 false) _ _
                  refine wpAnyH_take (i := 0) (oi := ⟨some 57, _, _, _, _, _⟩) (v := .pointer (some ⟨G, 0, none⟩)) rfl (by kernel_rfl) (by kernel_rfl) (by kernel_rfl) (fun _ _ _ h => h) (.inl ⟨by kernel_rfl, fun X hX => by first | (go_simp; done) | kernel_rfl⟩) hSs ?_
                  try simp only [Act.put, List.setIfInBounds_toArray, List.set_cons_zero, List.set_cons_succ]
                  refine wpAnyH_take (i := 1) (oi := ⟨some 58, _, _, _, _, _⟩) (v := .agg #[.int .i64 p.kind, .string p.name, .int .i64 p.n, .int .i64 p.place, .slice A' pm pc]) rfl (by kernel_rfl) (by kernel_rfl) (by kernel_rfl) (fun _ _ _ h => h) (.inl ⟨by kernel_rfl, fun X hX => by obtain ⟨f0, f1, f2, f3, f4⟩ := hX; go_simp⟩) hSs ?_
                  try simp only [Act.put, List.setIfInBounds_toArray, List.set_cons_zero, List.set_cons_succ]
                  refine wpAnyH_take (i := 2) (oi := ⟨some 59, _, _, _, _, _⟩) (v := .pointer (some ⟨g10, 0, none⟩)) rfl (by kernel_rfl) (by kernel_rfl) (by kernel_rfl) (fun _ _ _ h => h) (.inl ⟨by kernel_rfl, fun X hX => by first | (go_simp; done) | kernel_rfl⟩) hSs ?_
                  try simp only [Act.put, List.setIfInBounds_toArray, List.set_cons_zero, List.set_cons_succ]
                  refine wpAnyH_take (i := 3) (oi := ⟨some 60, _, _, _, _, _⟩) (v := .int .i64 p.kind) rfl (by kernel_rfl) (by kernel_rfl) (by kernel_rfl) (fun _ _ _ h => h) (.inl ⟨by kernel_rfl, fun X hX => by obtain ⟨f0, f1, f2, f3, f4⟩ := hX; go_simp⟩) hSs ?_
                  try simp only [Act.put, List.setIfInBounds_toArray, List.set_cons_zero, List.set_cons_succ]
                  refine wpAnyH_take (i := 4) (oi := ⟨some 61, _, _, _, _, _⟩) (v := .bool true) rfl (by kernel_rfl) (by kernel_rfl) (by kernel_rfl) (fun _ _ _ h => h) (.inl ⟨by kernel_rfl, fun X hX => by first | (go_simp; done) | kernel_rfl⟩) hSs ?_
                  try simp only [Act.put, List.setIfInBounds_toArray, List.set_cons_zero, List.set_cons_succ]
                  refine wpAnyH_take (i := 5) (oi := ⟨some 62, _, _, _, _, _⟩) (v := .bool true) rfl (by kernel_rfl) (by kernel_rfl) (by kernel_rfl) (fun _ _ _ h => h) (.inl ⟨by kernel_rfl, fun X hX => by first | (go_simp; done) | kernel_rfl⟩) hSs ?_
                  try simp only [Act.put, List.setIfInBounds_toArray, List.set_cons_zero, List.set_cons_succ]
                  refine wpAnyH_take (i := 6) (oi := ⟨some 63, _, _, _, _, _⟩) (v := twinF B) rfl (by kernel_rfl) (by kernel_rfl) (by kernel_rfl) (fun _ _ _ h => h) (.inl ⟨by kernel_rfl, fun X hX => by first | (go_simp; done) | kernel_rfl⟩) hSs ?_
                  try simp only [Act.put, List.setIfInBounds_toArray, List.set_cons_zero, List.set_cons_succ]
                  refine wpAnyH_take (i := 7) (oi := ⟨some 64, _, _, _, _, _⟩) (v := .pointer (some ⟨g10, 1, none⟩)) rfl (by kernel_rfl) (by kernel_rfl) (by kernel_rfl) (fun _ _ _ h => h) (.inl ⟨by kernel_rfl, fun X hX => by first | (go_simp; done) | kernel_rfl⟩) hSs ?_
                  try simp only [Act.put, List.setIfInBounds_toArray, List.set_cons_zero, List.set_cons_succ]
                  refine wpAnyH_take (i := 8) (oi := ⟨some 65, _, _, _, _, _⟩) (v := .string p.name) rfl (by kernel_rfl) (by kernel_rfl) (by kernel_rfl) (fun _ _ _ h => h) (.inl ⟨by kernel_rfl, fun X hX => by obtain ⟨f0, f1, f2, f3, f4⟩ := hX; go_simp⟩) hSs ?_
                  try simp only [Act.put, List.setIfInBounds_toArray, List.set_cons_zero, List.set_cons_succ]
                  refine wpAnyH_ready (rs := [9]) (by kernel_rfl) (by simp) (AllReadyH.cons rfl (fun K hK => ?_) AllReadyH.nil)
                  go_simp
                  refine (twins1_any B bt i (countN ah) p.name W13.drew hB13 hne hM13t (by omega) hpn (by omega)).mono ?_
                  rintro e w14 ⟨rfl, hM14, hg14⟩
                  have hS14 : (fun V : World => V.cell? ⟨g10, 0, none⟩ = some (.int .i64 p.kind) ∧ V.cell? ⟨g10, 1, none⟩ = some (.string p.name) ∧ V.cell? ⟨g10, 2, none⟩ = some (.int .i64 p.n) ∧ V.cell? ⟨g10, 3, none⟩ = some (.int .i64 p.place) ∧ V.cell? ⟨g10, 4, none⟩ = some (.slice A' pm pc)) w14 := by
                    have hc : ∀ j v, W13.cell? ⟨g10, j, none⟩ = some v → w14.cell? ⟨g10, j, none⟩ = some v := fun j v h => (World.cell?_of_block (hg14.block g10 HL13.out.lt (fun e => by injection e with e; omega))).trans h
                    exact ⟨hc _ _ d0, hc _ _ d1, hc _ _ d2, hc _ _ d3, hc _ _ d4⟩
                  refine hK.out _ _ hS14 (fun hS9 => ?_)
                  clear hK K
                  try simp only [Act.put, List.setIfInBounds_toArray, List.set_cons_zero, List.set_cons_succ]
                  have htb : decide (1 < countN ah p.name + 1) = twp := by
                    have h1 := countN_in ah p.name
                    rw [HTW.out, HK8.out]
                    simp only [decide_true, Bool.true_and]
                    cases h2 : inN ah p.name with
                    | true => rw [h2] at h1; simp at h1; exact decide_eq_true (by omega)
                    | false => rw [h2] at h1; simp at h1; exact decide_eq_false (by omega)
                  refine wpAnyH_take (i := 10) (oi := ⟨some 67, _, _, _, _, _⟩) (v := .bool twp) rfl (by kernel_rfl) (by kernel_rfl) (by kernel_rfl) (fun _ _ _ h => h) (.inl ⟨by kernel_rfl, fun X hX => by first | (go_simp; done) | kernel_rfl⟩) hS9 ?_
                  try simp only [Act.put, List.setIfInBounds_toArray, List.set_cons_zero, List.set_cons_succ]
                  refine wpAnyH_ready (rs := [11]) (by kernel_rfl) (by simp) (AllReadyH.cons rfl (fun K hK => ?_) AllReadyH.nil)
                  go_simp
                  refine (HTR.out _ (((HG13.out.more (E' := fun q => q = bm ∨ q = bt) fun _ h => .inl h).drew).grown hg14 (fun k e => by injection e with e; exact .inr (.inr e.symm))) (hg14.block bm (by have := HM13.out.lt; exact this) (fun e => by injection e with e; exact hne1 e.symm))).mono ?_
                  rintro e w15 ⟨on, Z15, rfl, hG15, hM15, hon, hoff⟩
                  have hzi : ∀ q, Zi q → q < wr.heap.size := fun q hq => hA.lt _ Zi wr HJi.out q hq
                  have hS15 : (fun V : World => V.cell? ⟨g10, 0, none⟩ = some (.int .i64 p.kind) ∧ V.cell? ⟨g10, 1, none⟩ = some (.string p.name) ∧ V.cell? ⟨g10, 2, none⟩ = some (.int .i64 p.n) ∧ V.cell? ⟨g10, 3, none⟩ = some (.int .i64 p.place) ∧ V.cell? ⟨g10, 4, none⟩ = some (.slice A' pm pc)) w15 := by
                    have hc : ∀ j v, w14.cell? ⟨g10, j, none⟩ = some v → w15.cell? ⟨g10, j, none⟩ = some v := fun j v h => hG15.cell h (fun h => by have := hzi _ h; omega) (fun h => by have h' : g10 = bm := h; omega)
                    obtain ⟨f0, f1, f2, f3, f4⟩ := hS9
                    exact ⟨hc _ _ f0, hc _ _ f1, hc _ _ f2, hc _ _ f3, hc _ _ f4⟩
                  refine hK.out _ _ hS15 (fun hS8 => ?_)
                  clear hK K
                  try simp only [Act.put, List.setIfInBounds_toArray, List.set_cons_zero, List.set_cons_succ]
                  refine wpAnyH_take (i := 12) (oi := ⟨some 12, _, _, _, _, _⟩) (v := .bool on) rfl (by kernel_rfl) (by kernel_rfl) (by kernel_rfl) (fun _ _ _ h => h) (.inl ⟨by kernel_rfl, fun X hX => by first | (go_simp; done) | kernel_rfl⟩) hS8 ?_
                  try simp only [Act.put, List.setIfInBounds_toArray, List.set_cons_zero, List.set_cons_succ]
                  refine wpAnyH_done (by kernel_rfl) ?_ _
                  go_wp2_with fail
                  go_meet
                  have hG14 : Gz (fun q => q = bm ∨ q = bt) No W13 No w14 := ((Gz.refl _ No W13).drew).grown hg14 (fun k e => by injection e with e; exact .inr (.inr e.symm))
                  refine ⟨on, Z15, rfl, hG14.any.tail (hG15.more (E' := fun q => q = bm ∨ q = bt) fun _ h => .inl h) (fun _ _ h => h), hM15, ?_, hon, hoff⟩
                  have hMe : MapS w14 bt (i + 1) (countN ah2) := hM14.eq fun v => by
                    rw [HAH.out, if_pos HK8.out, countN_snoc]
                    try (by_cases hv : v = p.name <;> simp [hv])
                  exact hMe.heap (hG15.same bt hMe.lt (fun h => HGi.out.not (by have := HMT.out.lt; omega) hz5t h) (fun h => hne1 h))
                · have e8k : (p.kind == 8) = false := by simpa using hk8
                  refine wp_region_held_drew (S := (fun V : World => V.cell? ⟨g10, 0, none⟩ = some (.int .i64 p.kind) ∧ V.cell? ⟨g10, 1, none⟩ = some (.string p.name) ∧ V.cell? ⟨g10, 2, none⟩ = some (.int .i64 p.n) ∧ V.cell? ⟨g10, 3, none⟩ = some (.int .i64 p.place) ∧ V.cell? ⟨g10, 4, none⟩ = some (.slice A' pm pc))) rfl ⟨d0, d1, d2, d3, d4⟩ (fun hSs => ?_)
                  change wpAnyH _ _ _ _ _ 13 (Array.replicate 13 false) _ _
                  refine wpAnyH_take (i := 0) (oi := ⟨some 57, _, _, _, _, _⟩) (v := .pointer (some ⟨G, 0, none⟩)) rfl (by kernel_rfl) (by kernel_rfl) (by kernel_rfl) (fun _ _ _ h => h) (.inl ⟨by kernel_rfl, fun X hX => by first | (go_simp; done) | kernel_rfl⟩) hSs ?_
                  try simp only [Act.put, List.setIfInBounds_toArray, List.set_cons_zero, List.set_cons_succ]
                  refine wpAnyH_take (i := 1) (oi := ⟨some 58, _, _, _, _, _⟩) (v := .agg #[.int .i64 p.kind, .string p.name, .int .i64 p.n, .int .i64 p.place, .slice A' pm pc]) rfl (by kernel_rfl) (by kernel_rfl) (by kernel_rfl) (fun _ _ _ h => h) (.inl ⟨by kernel_rfl, fun X hX => by obtain ⟨f0, f1, f2, f3, f4⟩ := hX; go_simp⟩) hSs ?_
                  try simp only [Act.put, List.setIfInBounds_toArray, List.set_cons_zero, List.set_cons_succ]
                  refine wpAnyH_take (i := 2) (oi := ⟨some 59, _, _, _, _, _⟩) (v := .pointer (some ⟨g10, 0, none⟩)) rfl (by kernel_rfl) (by kernel_rfl) (by kernel_rfl) (fun _ _ _ h => h) (.inl ⟨by kernel_rfl, fun X hX => by first | (go_simp; done) | kernel_rfl⟩) hSs ?_
                  try simp only [Act.put, List.setIfInBounds_toArray, List.set_cons_zero, List.set_cons_succ]
                  refine wpAnyH_take (i := 3) (oi := ⟨some 60, _, _, _, _, _⟩) (v := .int .i64 p.kind) rfl (by kernel_rfl) (by kernel_rfl) (by kernel_rfl) (fun _ _ _ h => h) (.inl ⟨by kernel_rfl, fun X hX => by obtain ⟨f0, f1, f2, f3, f4⟩ := hX; go_simp⟩) hSs ?_
                  try simp only [Act.put, List.setIfInBounds_toArray, List.set_cons_zero, List.set_cons_succ]
                  refine wpAnyH_take (i := 4) (oi := ⟨some 61, _, _, _, _, _⟩) (v := .bool false) rfl (by kernel_rfl) (by kernel_rfl) (by kernel_rfl) (fun _ _ _ h => h) (.inl ⟨by kernel_rfl, fun X hX => by first | (go_simp; done) | kernel_rfl⟩) hSs ?_
                  try simp only [Act.put, List.setIfInBounds_toArray, List.set_cons_zero, List.set_cons_succ]
                  refine wpAnyH_take (i := 5) (oi := ⟨some 62, _, _, _, _, _⟩) (v := .bool false) rfl (by kernel_rfl) (by kernel_rfl) (by kernel_rfl) (fun _ _ _ h => h) (.inl ⟨by kernel_rfl, fun X hX => by first | (go_simp; done) | kernel_rfl⟩) hSs ?_
                  try simp only [Act.put, List.setIfInBounds_toArray, List.set_cons_zero, List.set_cons_succ]
                  refine wpAnyH_take (i := 6) (oi := ⟨some 63, _, _, _, _, _⟩) (v := undef) rfl (by kernel_rfl) (by kernel_rfl) (by kernel_rfl) (fun _ _ _ h => h) (.inr ⟨by kernel_rfl, rfl⟩) hSs ?_
                  try simp only [Act.put, List.setIfInBounds_toArray, List.set_cons_zero, List.set_cons_succ]
                  refine wpAnyH_take (i := 7) (oi := ⟨some 64, _, _, _, _, _⟩) (v := undef) rfl (by kernel_rfl) (by kernel_rfl) (by kernel_rfl) (fun _ _ _ h => h) (.inr ⟨by kernel_rfl, rfl⟩) hSs ?_
                  try simp only [Act.put, List.setIfInBounds_toArray, List.set_cons_zero, List.set_cons_succ]
                  refine wpAnyH_take (i := 8) (oi := ⟨some 65, _, _, _, _, _⟩) (v := undef) rfl (by kernel_rfl) (by kernel_rfl) (by kernel_rfl) (fun _ _ _ h => h) (.inr ⟨by kernel_rfl, rfl⟩) hSs ?_
                  try simp only [Act.put, List.setIfInBounds_toArray, List.set_cons_zero, List.set_cons_succ]
                  refine wpAnyH_take (i := 9) (oi := ⟨some 66, _, _, _, _, _⟩) (v := undef) rfl (by kernel_rfl) (by kernel_rfl) (by kernel_rfl) (fun _ _ _ h => h) (.inr ⟨by kernel_rfl, rfl⟩) hSs ?_
                  try simp only [Act.put, List.setIfInBounds_toArray, List.set_cons_zero, List.set_cons_succ]
                  refine wpAnyH_take (i := 10) (oi := ⟨some 67, _, _, _, _, _⟩) (v := .bool false) rfl (by kernel_rfl) (by kernel_rfl) (by kernel_rfl) (fun _ _ _ h => h) (.inl ⟨by kernel_rfl, fun X hX => by first | (go_simp; done) | kernel_rfl⟩) hSs ?_
                  try simp only [Act.put, List.setIfInBounds_toArray, List.set_cons_zero, List.set_cons_succ]
                  refine wpAnyH_ready (rs := [11]) (by kernel_rfl) (by simp) (AllReadyH.cons rfl (fun K hK => ?_) AllReadyH.nil)
                  go_simp
                  have HTR2 := HTR.out
                  rw [show twp = false by rw [HTW.out]; simp [hk8]] at HTR2
                  refine (HTR2 _ ((HG13.out.more (E' := fun q => q = bm ∨ q = bt) fun _ h => .inl h).drew) rfl).mono ?_
                  rintro e w15 ⟨on, Z15, rfl, hG15, hM15, hon, hoff⟩
                  have hzi : ∀ q, Zi q → q < wr.heap.size := fun q hq => hA.lt _ Zi wr HJi.out q hq
                  have hS15 : (fun V : World => V.cell? ⟨g10, 0, none⟩ = some (.int .i64 p.kind) ∧ V.cell? ⟨g10, 1, none⟩ = some (.string p.name) ∧ V.cell? ⟨g10, 2, none⟩ = some (.int .i64 p.n) ∧ V.cell? ⟨g10, 3, none⟩ = some (.int .i64 p.place) ∧ V.cell? ⟨g10, 4, none⟩ = some (.slice A' pm pc)) w15 := by
                    have hc : ∀ j v, W13.drew.cell? ⟨g10, j, none⟩ = some v → w15.cell? ⟨g10, j, none⟩ = some v := fun j v h => hG15.cell h (fun h => by have := hzi _ h; omega) (fun h => by have h' : g10 = bm := h; omega)
                    obtain ⟨f0, f1, f2, f3, f4⟩ := hSs
                    exact ⟨hc _ _ f0, hc _ _ f1, hc _ _ f2, hc _ _ f3, hc _ _ f4⟩
                  refine hK.out _ _ hS15 (fun hS8 => ?_)
                  clear hK K
                  try simp only [Act.put, List.setIfInBounds_toArray, List.set_cons_zero, List.set_cons_succ]
                  refine wpAnyH_take (i := 12) (oi := ⟨some 12, _, _, _, _, _⟩) (v := .bool on) rfl (by kernel_rfl) (by kernel_rfl) (by kernel_rfl) (fun _ _ _ h => h) (.inl ⟨by kernel_rfl, fun X hX => by first | (go_simp; done) | kernel_rfl⟩) hS8 ?_
                  try simp only [Act.put, List.setIfInBounds_toArray, List.set_cons_zero, List.set_cons_succ]
                  refine wpAnyH_done (by kernel_rfl) ?_ _
                  go_wp2_with fail
                  go_meet
                  rw [show twp = false by rw [HTW.out]; simp [hk8]]
                  refine ⟨on, Z15, rfl, ((Gz.refl _ Zi W13).drew).trans (hG15.more (E' := fun q => q = bm ∨ q = bt) fun _ h => .inl h), hM15, ?_, hon, hoff⟩
                  have hMe : MapS W13 bt (i + 1) (countN ah2) := by rw [HAH.out, if_neg hk8]; exact hM13t.mono (by omega)
                  exact hMe.heap (hG15.same bt hMe.lt (fun h => HGi.out.not (by have := HMT.out.lt; omega) hz5t h) (fun h => hne1 h))
              case rest =>
                obtain ⟨on, Z15, rfl, hG15, hM15, hM15t, hon, hoff⟩ := hcut
                rename World => V15
                have hzi : ∀ q, Zi q → q < wr.heap.size := fun q hq => hA.lt _ Zi wr HJi.out q hq
                have hzib : ¬ Zi bm := HGi.out.not (by have := HM9.out.lt; omega) hz5b
                have hziG : ¬ Zi G := HGi.out.not (by omega) hz5G
                have hH15 := (HHi.out.gz HG13.out ⟨fun h => h, HOG.out.2⟩).gz hG15 ⟨hziG, fun h => by rcases h with h | h; exact HOG.out.2 h; omega⟩
                have hSI15 : SIn V15 (fun g => g ≠ bm) nm A12 := HSI.out.keep fun g j hg hlt => by
                  have hg' : W11.heap.size ≤ g := hg
                  have h1 := HGR13.out.block g hlt (fun e => by injection e with e; omega)
                  have h2 := hG15.same g (by have := HGR13.out.size; omega) (fun h => by have := hzi _ h; omega) (fun h => by rcases h with h | h <;> omega)
                  exact ⟨World.cell?_of_block (h2.trans h1), by omega⟩
                have HBE := Lib.hid (bind_any G bm (N1 + mm + 200 * sizeT p) (countN (b ++ nm)) nm A12 mm c12 (-1) V15 hH15.m HOG.out.2 hM15 (by have := HN1B.out; omega) HMM.out (by omega) hSI15 HNS.out (.inr rfl) (fun v => by have h1 := countN_nn (b ++ nm) v; have h2 := HMM.out; rw [List.length_append] at h1; omega))
                have hz15b : ¬ Z15 bm := hG15.not HM13.out.lt hzib
                have HG15 := Lib.hid hG15
                have HM15T := Lib.hid hM15t
                have HON := Lib.hid hon
                have HOFF := Lib.hid hoff
                clear hSI15 hH15 hM15 hG15 hM15t hon hoff d0 d1 d2 d3 d4 hM13t hB13 HTR
                go_wp2_with fail
                refine HBE.out.mono ?_
                rintro e V17 ⟨rfl, hM17, hg17⟩
                have HM17 : Hid (MapS V17 bm (N1 + mm + 200 * sizeT p + mm) (countN b)) := Lib.hid (hM17.eq fun v => by rw [countN_app]; omega)
                have HG17 : Hid (Gz (fun q => q = bm) No V15 No V17) := Lib.hid ((Gz.refl _ _ _).grown hg17 (fun k e => by injection e with e; exact .inr e.symm))
                clear HBE hM17 hg17
                cases on
                · obtain ⟨r, hr, hJX⟩ := HOFF.out rfl
                  have HR := Lib.hid hr
                  have HJX := Lib.hid hJX
                  clear hr hJX
                  go_wp2_with fail
                  go_ret
                  have hGA : Gz (fun q => q = bm) Z W Z15 V17 := by
                    have h1 := (HG9.out.more (E' := fun q => q = bm) fun _ h => h.elim).tail HGi.out (fun q hq he => by rcases he with he | he; exact he; (have := HG9.out.size; omega))
                    have h2 := h1.tail HG13.out.any (fun q _ h => h)
                    have h3 := h2.tail HG15.out (fun q hq he => by rcases he with he | he; exact he; (have := HG9.out.size; omega))
                    exact h3.tail HG17.out.any (fun q _ h => h)
                  refine ⟨false, Z15, rfl, hGA, HM17.out.mono (by have := HN1B.out.1; omega), (fun h => by cases h), fun _ => ⟨⟨.node k s n a lst, fr, tw⟩ :: (S ++ r), ?_, ?_⟩⟩
                  · have h9 := HR.out
                    simpa using h9
                  · have h9 := hA.ownX HJX.out HG17.out fun j hj e => hz15b (e ▸ hj)
                    simpa using h9
                · have HJ15 := Lib.hid (hA.own (HON.out rfl) HG17.out fun j hj e => hz15b (e ▸ hj))
                  go_wp2_with fail
                  go_roundw
                  case rel =>
                    go_light
                    refine ⟨i + 1, Z15, ah2, S ++ spotsT (b ++ nm) twp p, by omega, by go_num, Lib.hid ⟨?_, HM17.out.mono (by have := HN1B.out.2; omega), HM15T.out.heap (HG17.out.same bt HM15T.out.lt (fun h => h) (fun h => hne1 h)), ?_, ?_, ?_⟩⟩
                    · have h2 := HGi.out.tail HG13.out.any (fun q _ h => .inl h)
                      have h3 := h2.tail HG15.out (fun q _ h => h)
                      exact h3.tail HG17.out.any (fun q _ h => .inl h)
                    · rw [HAH.out]
                      split
                      · rw [List.length_append]; simp; omega
                      · omega
                    · rw [List.append_assoc]; exact HRS.out
                    · have h9 := HJ15.out
                      simpa using h9
                  case measure => simp [intOf]; omega
          · skip
            have him : i = m := by omega
            subst him
            go_wp2_with fail
            go_ret
            obtain ⟨h1, h2, h3, h4, h5, h6⟩ := hH.out
            rw [List.drop_of_length_le (by have := HM.out; omega), spotsL, List.append_nil] at h5
            rw [List.take_of_length_le (by have := HM.out; omega)] at h2
            refine ⟨true, Zi, rfl, ?_, ?_, fun _ => ?_, fun h => by cases h⟩
            · refine (HG9.out.more (E' := fun q => q = bm) fun _ h => h.elim).tail h1 fun q hq he => ?_
              rcases he with he | he
              · exact he
              · have := HG9.out.size; omega
            · refine h2.mono ?_
              rw [sizeT]
              have := HM.out
              omega
            · rw [HSP.out, ← h5]
              have h7 : pre ++ [⟨.node k s n a lst, fr, tw⟩] ++ S = pre ++ (⟨.node k s n a lst, fr, tw⟩ :: S) := by simp
              rw [← h7]
              exact h6
end
end Lx
end Go.Proofs.YtobdoahdjbmflaaGreatDoor
