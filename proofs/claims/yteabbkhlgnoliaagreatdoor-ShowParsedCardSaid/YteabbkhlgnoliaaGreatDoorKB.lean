/-
  Texts that lie one behind the other: MayInv TreeAll TreeAll2 TextW TextS ShowK Fix4 ShowLen ParensT.
-/
import Derived.Test.YteabbkhlgnoliaaGreatDoorK3
import Derived.Test.YteabbkhlgnoliaaGreatDoorKA
import Derived.Test.YteabbkhlgnoliaaGreatDoorK6
import Derived.Test.YteabbkhlgnoliaaGreatDoorK8
import Derived.Deep.Cut
import Derived.Lib.ItoaLen
namespace Go.Proofs.YteabbkhlgnoliaaGreatDoor
namespace Lx
set_option maxRecDepth 100000
theorem may_inv {k n a : Int} {s : ByteArray} {l : List Tr} (h : mayT (.node k s n a l) = true) : nameOkV k s.data.toList = true ∧ partsV k n l.length = true ∧ 0 ≤ a ∧ mayL k n 0 l = true := by
  rw [mayT] at h
  have hf := fits_eq k s.data.toList n a l.length
  cases hs : shapeV k with
  | none => rw [hs] at h; cases h
  | some g =>
    rw [hs] at h hf
    simp only at h hf
    rw [Bool.and_eq_true] at h
    rw [hf] at h
    simp only [Bool.and_eq_true, decide_eq_true_eq] at h
    exact ⟨h.1.1, h.1.2.1, h.1.2.2, h.2⟩
theorem mayL_memT (k n : Int) : ∀ (l : List Tr) (i : Nat), mayL k n i l = true → ∀ t ∈ l, mayT t = true
  | [], _, _, t, h => by simp at h
  | u :: r, i, h, t, ht => by
    rw [mayL, Bool.and_eq_true, Bool.and_eq_true] at h
    rcases List.mem_cons.1 ht with rfl | ht
    · exact h.2.1
    · exact mayL_memT k n r (i + 1) h.2.2 t ht
theorem mayL_stands (k n : Int) : ∀ (l : List Tr) (i j : Nat) (t : Tr), mayL k n i l = true → l[j]? = some t → standsV k n (i + j) t.kind = true
  | [], _, _, _, _, h => by simp at h
  | u :: r, i, 0, t, h, ht => by
    rw [mayL, Bool.and_eq_true, Bool.and_eq_true] at h
    simp only [List.getElem?_cons_zero, Option.some.injEq] at ht
    subst ht
    exact h.1
  | u :: r, i, j + 1, t, h, ht => by
    rw [mayL, Bool.and_eq_true, Bool.and_eq_true] at h
    have := mayL_stands k n r (i + 1) j t h.2.2 (by simpa using ht)
    rwa [show i + 1 + j = i + (j + 1) from by omega] at this
end Lx
end Go.Proofs.YteabbkhlgnoliaaGreatDoor
namespace Go.Proofs.YteabbkhlgnoliaaGreatDoor
open Go.RowKit Go.Sort
namespace Lx
set_option maxRecDepth 100000
/-- The call of words with a row that was just made, in a fixed order. -/
theorem words_row' (W0 : World) (b : Nat) (htab : Lib.TabIs Tryz.prog W0 "internal/strconv.uint64pow10" .u64 Lib.pow10Tab) (vs : List Value) (xs : List (List UInt8)) (vn : Nat) (hn : vn = vs.length) (hn2 : vs.length = xs.length) (hns : vn ≤ 1000)
    (hws : WdsAre W0.heap.size b (Below W0.heap.size W0) vs xs) (l : List UInt8) (W1 : World) (G : Nat) (hG : W1.heap.size = G) (hI : Below W0.heap.size W0 W1) (hB : WB W0.heap.size b l W1) (hlen : l.length + (joinS xs).length ≤ 1000000) :
    Calls Tryz.prog 53 #[.pointer (some ⟨b, 0, none⟩), .slice (some ⟨G, 0, none⟩) vn vn] (W1.alloc (.cells vs.toArray 20)) fun e w' => WPo W0.heap.size b l (joinS xs) W1 e w' := by
  subst hG
  have hs := hI.size
  have hbW := wb_lt hB
  have hb1 : Below W0.heap.size W1 (W1.alloc (.cells vs.toArray 20)) := (Below.refl _ W1).alloc (by omega) _
  refine (words_any W0.heap.size b W1.heap.size (Below W0.heap.size W0) vs xs vn vn l _ hn hn2 hns (hI.trans hb1) (fun _ _ h1 h2 => h1.trans h2) (wb_alloc hB _) (Nat.le_trans hs hb1.size) (any_new W1 vs) (by omega) hlen (tabs_iv htab) hws).mono ?_
  rintro e w' ⟨rfl, h1, h2, h3⟩
  exact ⟨rfl, h1, hb1.trans h2, ((Lib.OthersKept.refl _ _ W1).alloc _).trans h3⟩
theorem showL_false (l : List Tr) : showL false l = lt l := by
  induction l with
  | nil => rfl
  | cons t r ih => rw [showL, ih]; rfl
/-- What is known behind the box. -/
theorem box_post {W0 W w' : World} {b : Nat} {l x : List UInt8} {e : Ending} (O : Obj) (hB : W0.heap.size ≤ W.heap.size) (h : WPo W0.heap.size b l x (W.alloc O) e w') : WPo W0.heap.size b l x W e w' := by
  obtain ⟨h1, h2, h3, h4⟩ := h
  exact ⟨h1, h2, ((Below.refl _ W).alloc (by omega) _).trans h3, ((Lib.OthersKept.refl _ _ W).alloc O).trans h4⟩
section
variable (W0 : World) (b : Nat) (htab : Lib.TabIs Tryz.prog W0 "internal/strconv.uint64pow10" .u64 Lib.pow10Tab) (l : List UInt8) (W : World) (hI : Below W0.heap.size W0 W) (hW : WB W0.heap.size b l W) (hBw : W0.heap.size ≤ W.heap.size)
include htab hI hW hBw
set_option maxHeartbeats 4000000 in
theorem tree1 (n a : Int) (s : ByteArray) (A : Option Addr) (m c : Nat) (hlen : l.length + (joinS [s.data.toList]).length ≤ 1000000) :
    Calls Tryz.prog 32 #[.pointer (some ⟨b, 0, none⟩), .agg #[.int .i64 1, .string s, .int .i64 n, .int .i64 a, .slice A m c]] W fun e w' => WPo W0.heap.size b l (joinS [s.data.toList]) W e w' := by
  obtain ⟨Y, hY⟩ : ∃ Y, Y = joinS [s.data.toList] := ⟨_, rfl⟩
  rw [← hY] at hlen ⊢
  have HC := words_row' W0 b htab [.iface 9 (.string s)] [s.data.toList] 1 rfl rfl (by decide) (wds_cons (wd_name _ _ _ _) wds_nil) l (W.alloc (.cells #[.int .i64 1, .string s, .int .i64 n, .int .i64 a, .slice A m c] 24)) (W.heap.size + 1) (by simp) (hI.trans ((Below.refl _ W).alloc (by omega) _)) (wb_alloc hW _) (by rw [← hY]; exact hlen)
  rw [← hY] at HC
  have HC := Lib.hid HC
  clear hY htab hW hI
  go_enter Tryz.func32, Tryz.ntmps32
  go_wp2_with fail
  refine HC.out.mono ?_
  rintro e w2 ⟨rfl, hB2, hb2, hk2⟩
  go_wp2_with fail
  go_end0
  exact box_post _ hBw ⟨rfl, hB2, hb2, hk2⟩
set_option maxHeartbeats 4000000 in
theorem tree9 (n a : Int) (s : ByteArray) (A : Option Addr) (m c : Nat) (hn0 : -9223372036854775808 ≤ n) (hn1 : n ≤ 9223372036854775807) (hlen : l.length + (joinS [Lib.itoa n]).length ≤ 1000000) :
    Calls Tryz.prog 32 #[.pointer (some ⟨b, 0, none⟩), .agg #[.int .i64 9, .string s, .int .i64 n, .int .i64 a, .slice A m c]] W fun e w' => WPo W0.heap.size b l (joinS [Lib.itoa n]) W e w' := by
  obtain ⟨Y, hY⟩ : ∃ Y, Y = joinS [Lib.itoa n] := ⟨_, rfl⟩
  rw [← hY] at hlen ⊢
  have HC := words_row' W0 b htab [.iface 3 (.int .i64 n)] [Lib.itoa n] 1 rfl rfl (by decide) (wds_cons (.inr (.inl ⟨n, rfl, rfl, hn0, hn1⟩)) wds_nil) l (W.alloc (.cells #[.int .i64 9, .string s, .int .i64 n, .int .i64 a, .slice A m c] 24)) (W.heap.size + 1) (by simp) (hI.trans ((Below.refl _ W).alloc (by omega) _)) (wb_alloc hW _) (by rw [← hY]; exact hlen)
  rw [← hY] at HC
  have HC := Lib.hid HC
  clear hY htab hW hI hn0 hn1
  go_enter Tryz.func32, Tryz.ntmps32
  go_wp2_with fail
  refine HC.out.mono ?_
  rintro e w2 ⟨rfl, hB2, hb2, hk2⟩
  go_wp2_with fail
  go_end0
  exact box_post _ hBw ⟨rfl, hB2, hb2, hk2⟩
set_option maxHeartbeats 4000000 in
/-- Where a method has the tree. -/
theorem tree_let (k n a : Int) (wdd : List UInt8) (s : ByteArray) (p0 p1 : Tr) (A : Option Addr) (c : Nat) (hk : (k = 4 ∧ wdd = [108, 101, 116]) ∨ (k = 5 ∧ wdd = [108, 101, 116, 114, 101, 99])) (hT : TIn W0 Any (.node k s n a [p0, p1]) A)
    (hC0 : ∀ A' c', TIn W0 Any p0 A' → TreeC W0 b p0 A' c') (hC1 : ∀ A' c', TIn W0 Any p1 A' → TreeC W0 b p1 A' c') (hlen : l.length + (joinS [wdd, s.data.toList, [61], parS 0 (levelT p0, showT p0), [105, 110], parS 0 (levelT p1, showT p1)]).length ≤ 1000000) :
    Calls Tryz.prog 32 #[.pointer (some ⟨b, 0, none⟩), .agg #[.int .i64 k, .string s, .int .i64 n, .int .i64 a, .slice A 2 c]] W fun e w' => WPo W0.heap.size b l (joinS [wdd, s.data.toList, [61], parS 0 (levelT p0, showT p0), [105, 110], parS 0 (levelT p1, showT p1)]) W e w' := by
  have HC := wlet_any W0 b wdd k n a s p0 p1 A c htab hT hC0 hC1 l (W.alloc (.cells #[.int .i64 k, .string s, .int .i64 n, .int .i64 a, .slice A 2 c] 24)) (hI.trans ((Below.refl _ W).alloc (by omega) _)) (wb_alloc hW _) (by simp; omega) hlen
  have HC := Lib.hid HC
  clear htab hT hC0 hC1 hlen hW hI
  rcases hk with ⟨rfl, rfl⟩ | ⟨rfl, rfl⟩
  all_goals
    go_enter Tryz.func32, Tryz.ntmps32
    go_wp2_with fail
    refine HC.out.mono ?_
    rintro e w2 ⟨rfl, hB2, hb2, hk2⟩
    go_wp2_with fail
    go_end0
    exact box_post _ hBw ⟨rfl, hB2, hb2, hk2⟩
end
end Lx
end Go.Proofs.YteabbkhlgnoliaaGreatDoor
namespace Go.Proofs.YteabbkhlgnoliaaGreatDoor
open Go.RowKit Go.Sort
namespace Lx
set_option maxRecDepth 100000
section
variable (W0 : World) (b : Nat) (htab : Lib.TabIs Tryz.prog W0 "internal/strconv.uint64pow10" .u64 Lib.pow10Tab) (l : List UInt8) (W : World) (hI : Below W0.heap.size W0 W) (hW : WB W0.heap.size b l W) (hBw : W0.heap.size ≤ W.heap.size)
include htab hI hW hBw
set_option maxHeartbeats 8000000 in
theorem tree2 (n a : Int) (s : ByteArray) (p0 : Tr) (A : Option Addr) (c : Nat) (hs : s.size ≤ 1000) (hT : TIn W0 Any (.node 2 s n a [p0]) A)
    (hC0 : ∀ A' c', TIn W0 Any p0 A' → TreeC W0 b p0 A' c') (hlen : l.length + (joinS [92 :: s.data.toList ++ [46], parS 0 (levelT p0, showT p0)]).length ≤ 1000000) :
    Calls Tryz.prog 32 #[.pointer (some ⟨b, 0, none⟩), .agg #[.int .i64 2, .string s, .int .i64 n, .int .i64 a, .slice A 1 c]] W fun e w' => WPo W0.heap.size b l (joinS [92 :: s.data.toList ++ [46], parS 0 (levelT p0, showT p0)]) W e w' := by
  obtain ⟨g, o, A0, c0, ⟨rfl, _⟩, h0, h1, h2, h3, h4, hT0⟩ := LIn.at_ [p0] (tin_lin hT) 0 (by simp)
  simp only [List.getElem_cons_zero, Nat.zero_mul, Nat.add_zero] at h0 h1 h2 h3 h4 hT0
  have hg : g < W0.heap.size := cell_lt h0
  obtain ⟨S, hS0⟩ : ∃ S : ByteArray, S = (⟨#[92]⟩ : ByteArray) ++ s ++ (⟨#[46]⟩ : ByteArray) := ⟨_, rfl⟩
  have hSl : S.data.toList = 92 :: s.data.toList ++ [46] := by rw [hS0]; simp
  have wd0 := wd_part W0 b p0 A0 c0 0 (hC0 _ _ hT0)
  have wdS := wd_name W0.heap.size b (Below W0.heap.size W0) S
  rw [hSl] at wdS
  obtain ⟨Y, hY⟩ : ∃ Y, Y = joinS [92 :: s.data.toList ++ [46], parS 0 (levelT p0, showT p0)] := ⟨_, rfl⟩
  rw [← hY] at hlen ⊢
  have hws : WdsAre W0.heap.size b (Below W0.heap.size W0) [.iface 9 (.string S), .iface 90 (.agg #[.int .i64 p0.kind, .string p0.name, .int .i64 p0.n, .int .i64 p0.place, .slice A0 p0.parts.length (capF p0.parts.length c0), .int .i64 0])] [92 :: s.data.toList ++ [46], parS 0 (levelT p0, showT p0)] := wds_cons wdS (wds_cons wd0 wds_nil)
  rw [hS0] at hws
  obtain ⟨O, hO⟩ : ∃ O, O = Obj.cells #[.int .i64 2, .string s, .int .i64 n, .int .i64 a, .slice (some ⟨g, o, none⟩) 1 c] 24 := ⟨_, rfl⟩
  have hba : Below W0.heap.size W (W.alloc O) := (Below.refl _ W).alloc (by omega) _
  have hBa := wb_alloc hW O
  have hIa := hI.trans hba
  have hka : Lib.OthersKept 5 (some b) W (W.alloc O) := (Lib.OthersKept.refl _ _ W).alloc O
  have hsa := hba.size
  have hL : Lies (W.alloc O) W.heap.size 24 #[.int .i64 2, .string s, .int .i64 n, .int .i64 a, .slice (some ⟨g, o, none⟩) 1 c] := by
    subst hO
    exact Lies.new _ _ _
  have hsz : (W.alloc O).heap.size = W.heap.size + 1 := by simp
  have hbW := wb_lt hW
  have HC := words_row W0 b htab _ _ 2 rfl rfl (by decide) hws l (W.alloc O) (W.heap.size + 1) hsz hIa hBa (by rw [← hY]; exact hlen)
  rw [← hY] at HC
  obtain ⟨kk, hk⟩ : ∃ kk, kk = p0.kind := ⟨_, rfl⟩
  obtain ⟨ss, hss⟩ : ∃ ss, ss = p0.name := ⟨_, rfl⟩
  obtain ⟨nn, hn⟩ : ∃ nn, nn = p0.n := ⟨_, rfl⟩
  obtain ⟨aa, ha⟩ : ∃ aa, aa = p0.place := ⟨_, rfl⟩
  obtain ⟨mm, hmm⟩ : ∃ mm, mm = p0.parts.length := ⟨_, rfl⟩
  rw [← hk, ← hss, ← hn, ← ha, ← hmm] at HC
  rw [← hk] at h0
  rw [← hss] at h1
  rw [← hn] at h2
  rw [← ha] at h3
  rw [← hmm] at h4
  have hS : ∀ V, Below (W.heap.size + 1) (W.alloc O) V → V.cell? ⟨W.heap.size, 1, none⟩ = some (.string s) ∧ V.cell? ⟨W.heap.size, 4, none⟩ = some (.slice (some ⟨g, o, none⟩) 1 c) ∧ V.cell? ⟨g, o, none⟩ = some (.int .i64 kk) ∧ V.cell? ⟨g, o + 1, none⟩ = some (.string ss) ∧ V.cell? ⟨g, o + 2, none⟩ = some (.int .i64 nn) ∧ V.cell? ⟨g, o + 3, none⟩ = some (.int .i64 aa) ∧ V.cell? ⟨g, o + 4, none⟩ = some (.slice A0 mm (capF mm c0)) := by
    intro V hb
    have h := hL.below hb (by omega)
    have hb2 := hIa.trans (hb.mono (by omega))
    have hc : ∀ j, V.cell? ⟨g, j, none⟩ = W0.cell? ⟨g, j, none⟩ := fun j => hb2.cell (p := ⟨g, j, none⟩) hg
    exact ⟨h.cell 1, h.cell 4, (hc _).trans h0, (hc _).trans h1, (hc _).trans h2, (hc _).trans h3, (hc _).trans h4⟩
  have HS := Lib.hid hS
  have hS2 : ∀ V V', Below (W.heap.size + 1) (W.alloc O) V → Below W0.heap.size V V' → Lib.OthersKept 5 (some b) V V' → V'.cell? ⟨W.heap.size, 1, none⟩ = some (.string s) ∧ V'.cell? ⟨W.heap.size, 4, none⟩ = some (.slice (some ⟨g, o, none⟩) 1 c) ∧ V'.cell? ⟨g, o, none⟩ = some (.int .i64 kk) ∧ V'.cell? ⟨g, o + 1, none⟩ = some (.string ss) ∧ V'.cell? ⟨g, o + 2, none⟩ = some (.int .i64 nn) ∧ V'.cell? ⟨g, o + 3, none⟩ = some (.int .i64 aa) ∧ V'.cell? ⟨g, o + 4, none⟩ = some (.slice A0 mm (capF mm c0)) := by
    intro V V' hb hb2 hk
    have h := (hL.below hb (by omega)).others hk (by omega) (by decide)
    have hb3 := (hIa.trans (hb.mono (by omega))).trans hb2
    have hc : ∀ j, V'.cell? ⟨g, j, none⟩ = W0.cell? ⟨g, j, none⟩ := fun j => hb3.cell (p := ⟨g, j, none⟩) hg
    exact ⟨h.cell 1, h.cell 4, (hc _).trans h0, (hc _).trans h1, (hc _).trans h2, (hc _).trans h3, (hc _).trans h4⟩
  have HS2 := Lib.hid hS2
  obtain ⟨W1, hW1⟩ : ∃ W1, W1 = W.alloc O := ⟨_, rfl⟩
  have hd1 : Below (W.heap.size + 1) W1 W1.drew := (Below.refl _ W1).drew
  clear hg hY hws wd0 wdS htab hT hC0 hT0 h0 h1 h2 h3 h4 hk hss hn ha hmm hS0 hSl
  have hs3 : ¬ 9223372036854775807 < 1 + s.size := by omega
  have hs4 : ¬ 9223372036854775807 < 1 + s.size + 1 := by omega
  have hs5 : ¬ 9223372036854775807 < s.size + 1 := by omega
  have hs6 : ¬ 9223372036854775807 < s.size + 1 + 1 := by omega
  go_enter Tryz.func32, Tryz.ntmps32
  go_wp2_with fail
  rw [← hO]
  rw [← hW1] at hba hBa hIa hka hsa hsz HC HS HS2 ⊢
  have HC := Lib.hid HC
  clear hS hS2 hL hW1 hO
  go_region_held3 (fun V => V.cell? ⟨W.heap.size, 1, none⟩ = some (.string s) ∧ V.cell? ⟨W.heap.size, 4, none⟩ = some (.slice (some ⟨g, o, none⟩) 1 c) ∧ V.cell? ⟨g, o, none⟩ = some (.int .i64 kk) ∧ V.cell? ⟨g, o + 1, none⟩ = some (.string ss) ∧ V.cell? ⟨g, o + 2, none⟩ = some (.int .i64 nn) ∧ V.cell? ⟨g, o + 3, none⟩ = some (.int .i64 aa) ∧ V.cell? ⟨g, o + 4, none⟩ = some (.slice A0 mm (capF mm c0)))
    (first | exact HS.out _ hd1 | exact HS.out _ ((Below.refl _ W1).alloc (by omega) _).drew | exact HS2.out _ _ (Below.refl _ W1) hb2 hk2)
    ((first
      | (go_at_call 53
         refine HC.out.mono ?_
         rintro e w2 ⟨rfl, hB2, hb2, hk2⟩)))
  go_wp2_with fail
  go_end0
  exact ⟨rfl, hB2, hba.trans hb2, hka.trans hk2⟩
set_option maxHeartbeats 4000000 in
theorem tree3 (n a : Int) (s : ByteArray) (p0 p1 : Tr) (A : Option Addr) (c : Nat) (hT : TIn W0 Any (.node 3 s n a [p0, p1]) A)
    (hC0 : ∀ A' c', TIn W0 Any p0 A' → TreeC W0 b p0 A' c') (hC1 : ∀ A' c', TIn W0 Any p1 A' → TreeC W0 b p1 A' c')
    (x : List (List UInt8)) (hx : x = [parS 4 (if p0.kind = 6 then -1 else levelT p0, showT p0), parS 5 (levelT p1, showT p1)]) (hlen : l.length + (joinS x).length ≤ 1000000) :
    Calls Tryz.prog 32 #[.pointer (some ⟨b, 0, none⟩), .agg #[.int .i64 3, .string s, .int .i64 n, .int .i64 a, .slice A 2 c]] W fun e w' => WPo W0.heap.size b l (joinS x) W e w' := by
  have HC : ∀ W1, Below W0.heap.size W0 W1 → WB W0.heap.size b l W1 → W0.heap.size ≤ W1.heap.size → Calls Tryz.prog 59 #[.pointer (some ⟨b, 0, none⟩), .agg #[.int .i64 3, .string s, .int .i64 n, .int .i64 a, .slice A 2 c]] W1 fun e w' => WPo W0.heap.size b l (joinS x) W1 e w' := fun W1 h1 h2 h3 => by
    by_cases hk : p0.kind = 6
    · rw [if_pos hk, ← par_in] at hx
      subst hx
      exact wapp_anyC W0 b n a s p0 p1 A c hk htab hT hC0 hC1 l W1 h1 h2 h3 hlen
    · rw [if_neg hk] at hx
      subst hx
      exact wapp_anyN W0 b n a s p0 p1 A c hk htab hT hC0 hC1 l W1 h1 h2 h3 hlen
  have HC := Lib.hid (HC (W.alloc (.cells #[.int .i64 3, .string s, .int .i64 n, .int .i64 a, .slice A 2 c] 24)) (hI.trans ((Below.refl _ W).alloc (by omega) _)) (wb_alloc hW _) (by simp; omega))
  clear htab hT hC0 hC1 hlen hW hI hx
  go_enter Tryz.func32, Tryz.ntmps32
  go_wp2_with fail
  refine HC.out.mono ?_
  rintro e w2 ⟨rfl, hB2, hb2, hk2⟩
  go_wp2_with fail
  go_end0
  exact box_post _ hBw ⟨rfl, hB2, hb2, hk2⟩
set_option maxHeartbeats 4000000 in
theorem tree10 (n a : Int) (s : ByteArray) (p0 p1 : Tr) (A : Option Addr) (c : Nat) (hT : TIn W0 Any (.node 10 s n a [p0, p1]) A)
    (hC0 : ∀ A' c', TIn W0 Any p0 A' → TreeC W0 b p0 A' c') (hC1 : ∀ A' c', TIn W0 Any p1 A' → TreeC W0 b p1 A' c')
    (x : List (List UInt8)) (hx : x = [parS (if levelS s.data.toList = 1 then 2 else levelS s.data.toList) (levelT p0, showT p0), s.data.toList, parS (levelS s.data.toList + 1) (levelT p1, showT p1)]) (hlen : l.length + (joinS x).length ≤ 1000000) :
    Calls Tryz.prog 32 #[.pointer (some ⟨b, 0, none⟩), .agg #[.int .i64 10, .string s, .int .i64 n, .int .i64 a, .slice A 2 c]] W fun e w' => WPo W0.heap.size b l (joinS x) W e w' := by
  have HC : ∀ W1, Below W0.heap.size W0 W1 → WB W0.heap.size b l W1 → W0.heap.size ≤ W1.heap.size → Calls Tryz.prog 57 #[.pointer (some ⟨b, 0, none⟩), .agg #[.int .i64 10, .string s, .int .i64 n, .int .i64 a, .slice A 2 c]] W1 fun e w' => WPo W0.heap.size b l (joinS x) W1 e w' := fun W1 h1 h2 h3 => by
    have hq : levelS s.data.toList = 1 ∨ levelS s.data.toList = 2 ∨ levelS s.data.toList = 3 := by
      unfold levelS; repeat' split
      all_goals simp
    rcases hq with hq | hq | hq
    · rw [hq] at hx
      subst hx
      exact wop_any1 W0 b n a s p0 p1 A c hq htab hT hC0 hC1 l W1 h1 h2 h3 hlen
    · rw [hq] at hx
      subst hx
      exact wop_any2 W0 b n a s p0 p1 A c hq htab hT hC0 hC1 l W1 h1 h2 h3 hlen
    · rw [hq] at hx
      subst hx
      exact wop_any3 W0 b n a s p0 p1 A c hq htab hT hC0 hC1 l W1 h1 h2 h3 hlen
  have HC := Lib.hid (HC (W.alloc (.cells #[.int .i64 10, .string s, .int .i64 n, .int .i64 a, .slice A 2 c] 24)) (hI.trans ((Below.refl _ W).alloc (by omega) _)) (wb_alloc hW _) (by simp; omega))
  clear htab hT hC0 hC1 hlen hW hI hx
  go_enter Tryz.func32, Tryz.ntmps32
  go_wp2_with fail
  refine HC.out.mono ?_
  rintro e w2 ⟨rfl, hB2, hb2, hk2⟩
  go_wp2_with fail
  go_end0
  exact box_post _ hBw ⟨rfl, hB2, hb2, hk2⟩
set_option maxHeartbeats 4000000 in
theorem tree7 (n a : Int) (s : ByteArray) (p0 : Tr) (ls : List Tr) (A : Option Addr) (c M : Nat) (hM : M = ls.length) (hM1 : 1 ≤ M) (hM9 : M ≤ 50) (hmc : M + 1 ≤ c)
    (hT : LIn W0 Any (p0 :: ls) A 0) (hC : ∀ t ∈ p0 :: ls, ∀ A' c', TIn W0 Any t A' → TreeC W0 b t A' c')
    (x : List (List UInt8)) (hx : x = [[99, 97, 115, 101], parS 0 (levelT p0, showT p0), [111, 102]] ++ altW [123] (lt ls) ++ [[125]]) (hlen : l.length + (joinS x).length ≤ 1000000) :
    Calls Tryz.prog 32 #[.pointer (some ⟨b, 0, none⟩), .agg #[.int .i64 7, .string s, .int .i64 n, .int .i64 a, .slice A (M + 1) c]] W fun e w' => WPo W0.heap.size b l (joinS x) W e w' := by
  subst hx
  have HC := wchoice_any W0 b n a s p0 ls A c M htab hM hM1 hM9 hmc hT hC l (W.alloc (.cells #[.int .i64 7, .string s, .int .i64 n, .int .i64 a, .slice A (M + 1) c] 24)) (hI.trans ((Below.refl _ W).alloc (by omega) _)) (wb_alloc hW _) (by simp; omega) hlen
  have HC := Lib.hid HC
  clear htab hT hC hlen hW hI hM
  go_enter Tryz.func32, Tryz.ntmps32
  go_wp2_with fail
  refine HC.out.mono ?_
  rintro e w2 ⟨rfl, hB2, hb2, hk2⟩
  go_wp2_with fail
  go_end0
  exact box_post _ hBw ⟨rfl, hB2, hb2, hk2⟩
set_option maxHeartbeats 4000000 in
theorem tree8 (a : Int) (s : ByteArray) (ls : List Tr) (A : Option Addr) (m c N : Nat) (bd : Tr) (hbd : ls[N]? = some bd) (hm : m = ls.length) (hmc : m ≤ c) (hN9 : N ≤ 50)
    (hT : LIn W0 Any ls A 0) (hC : ∀ t ∈ ls, ∀ A' c', TIn W0 Any t A' → TreeC W0 b t A' c')
    (x : List (List UInt8)) (hx : x = s.data.toList :: (ls.take N).map (fun t => parS 5 (levelT t, showT t)) ++ [[45, 62], parS 0 (levelT bd, showT bd)]) (hlen : l.length + (joinS x).length ≤ 1000000) :
    Calls Tryz.prog 32 #[.pointer (some ⟨b, 0, none⟩), .agg #[.int .i64 8, .string s, .int .i64 N, .int .i64 a, .slice A m c]] W fun e w' => WPo W0.heap.size b l (joinS x) W e w' := by
  subst hx
  have HC := walt_any W0 b a s ls A m c N htab bd hbd hm hmc hN9 hT hC l (W.alloc (.cells #[.int .i64 8, .string s, .int .i64 N, .int .i64 a, .slice A m c] 24)) (hI.trans ((Below.refl _ W).alloc (by omega) _)) (wb_alloc hW _) (by simp; omega) hlen
  have HC := Lib.hid HC
  clear htab hT hC hlen hW hI hm hbd
  go_enter Tryz.func32, Tryz.ntmps32
  go_wp2_with fail
  refine HC.out.mono ?_
  rintro e w2 ⟨rfl, hB2, hb2, hk2⟩
  go_wp2_with fail
  go_end0
  exact box_post _ hBw ⟨rfl, hB2, hb2, hk2⟩
set_option maxHeartbeats 4000000 in
theorem tree6 (n a : Int) (s : ByteArray) (ls : List Tr) (A : Option Addr) (m c : Nat) (hm : m = ls.length) (hN9 : m ≤ 50)
    (hT : LIn W0 Any ls A 0) (hC : ∀ t ∈ ls, ∀ A' c', TIn W0 Any t A' → TreeC W0 b t A' c')
    (x : List (List UInt8)) (hx : x = s.data.toList :: ls.map (fun t => parS 5 (levelT t, showT t))) (hlen : l.length + (joinS x).length ≤ 1000000) :
    Calls Tryz.prog 32 #[.pointer (some ⟨b, 0, none⟩), .agg #[.int .i64 6, .string s, .int .i64 n, .int .i64 a, .slice A m c]] W fun e w' => WPo W0.heap.size b l (joinS x) W e w' := by
  have hbW := wb_lt hW
  have HA := atoms_any W0 s ls A m c hm (by omega) hT (W.alloc (.cells #[.int .i64 6, .string s, .int .i64 n, .int .i64 a, .slice A m c] 24)) (hI.trans ((Below.refl _ W).alloc (by omega) _))
  have HWO := fun (vs : List Value) (v : Value) (W1 : World) (hvs : PartVs W0 5 ls vs) (hown : W1.ownsRow (W.heap.size + 1) 20 1 v (m + 1) (.iface 9 (.string s) :: vs)) (h1 : Below W0.heap.size W0 W1) (h2 : WB W0.heap.size b l W1) =>
    words_own W0 b htab (.iface 9 (.string s) :: vs) x (m + 1) (W.heap.size + 1) v
      (by have := partVs_len hvs; simp; omega) (by have := partVs_len hvs; rw [hx]; simp; omega) (by omega) (by omega)
      (by rw [hx]; exact wds_cons (wd_name _ _ _ _) (partVs_wds hvs hC)) l W1 hown (by omega) h1 h2 hlen
  have HWO := Lib.hid HWO
  have HA := Lib.hid HA
  have hml : ls.length + 1 = m + 1 := by omega
  have HML := Lib.hid hml
  clear htab hT hC hlen hx hm hml
  go_enter Tryz.func32, Tryz.ntmps32
  go_wp2_with fail
  refine HA.out.mono ?_
  rintro e w1 ⟨v, vs, rfl, hvs, hown, hb1⟩
  rw [HML.out, show (W.alloc (.cells #[.int .i64 6, .string s, .int .i64 n, .int .i64 a, .slice A m c] 24)).heap.size = W.heap.size + 1 from by simp] at hown
  have hzz : Below W.heap.size W w1 := ((Below.refl _ W).alloc (Nat.le_refl _) _).trans (hb1.mono (by simp))
  have HW3 := Lib.hid (HWO.out vs v w1 hvs hown (hI.trans (hzz.mono hBw)) (wb_below hW hzz))
  clear hvs hown hb1 HA HWO
  go_wp2_with fail
  refine HW3.out.mono ?_
  rintro e w2 ⟨rfl, hB2, hb2, hk2⟩
  go_wp2_with fail
  go_end0
  exact ⟨rfl, hB2, (hzz.mono hBw).trans hb2, (kept_below hzz).trans hk2⟩
end
end Lx
end Go.Proofs.YteabbkhlgnoliaaGreatDoor
namespace Go.Proofs.YteabbkhlgnoliaaGreatDoor
open Go.RowKit Go.Sort
namespace Lx
set_option maxRecDepth 100000
theorem TreeC.of {W0 : World} {b : Nat} {k n a : Int} {s : ByteArray} {ls : List Tr} {A : Option Addr} {c : Nat} {x : List (List UInt8)} (hx : showT (.node k s n a ls) = joinS x)
    (h : ∀ (l : List UInt8) (W : World), Below W0.heap.size W0 W → WB W0.heap.size b l W → W0.heap.size ≤ W.heap.size → l.length + (joinS x).length ≤ 1000000 → Calls Tryz.prog 32 #[.pointer (some ⟨b, 0, none⟩), .agg #[.int .i64 k, .string s, .int .i64 n, .int .i64 a, .slice A ls.length (capF ls.length c)]] W fun e w' => WPo W0.heap.size b l (joinS x) W e w') :
    TreeC W0 b (.node k s n a ls) A c := fun l W h1 h2 h3 h4 => by
  rw [hx] at h4 ⊢
  exact h l W h1 h2 h3 h4
theorem name_small {l : List UInt8} (h : nameV l = true) : l.length ≤ 16 := by
  simp only [nameV, Bool.and_eq_true, decide_eq_true_eq] at h
  exact h.2.2.1
theorem lt_map (l : List Tr) (lv : Int) : (lt l).map (parS lv) = l.map fun t => parS lv (levelT t, showT t) := by simp [lt]
theorem tree_all (W0 : World) (b : Nat) (htab : Lib.TabIs Tryz.prog W0 "internal/strconv.uint64pow10" .u64 Lib.pow10Tab) : ∀ (d : Nat) (t : Tr), depthT t ≤ d → mayT t = true → ∀ A c, TIn W0 Any t A → TreeC W0 b t A c := by
  intro d
  induction d with
  | zero => intro t h; have := depth_pos t; omega
  | succ d ih =>
    intro t hd hm A c hT
    obtain ⟨k, s, n, a, ls⟩ := t
    obtain ⟨hnm, hpt, ha, hml⟩ := may_inv hm
    have hdL : depthL ls ≤ d := by rw [depthT] at hd; omega
    have hC : ∀ t ∈ ls, ∀ A' c', TIn W0 Any t A' → TreeC W0 b t A' c' := fun t ht A' c' h => ih t (by have := depthL_mem ls t ht; omega) (mayL_memT k n ls 0 hml t ht) A' c' h
    have hL := tin_lin hT
    have two : ls.length = 2 → ∃ p0 p1, ls = [p0, p1] := fun h => by
      match ls, h with
      | [p0, p1], _ => exact ⟨p0, p1, rfl⟩
    rcases (by
      by_cases h : k = 1 ∨ k = 2 ∨ k = 3 ∨ k = 4 ∨ k = 5 ∨ k = 6 ∨ k = 7 ∨ k = 8 ∨ k = 9 ∨ k = 10
      · exact h
      · exfalso
        simp only [not_or] at h
        obtain ⟨e1, e2, e3, e4, e5, e6, e7, e8, e9, e10⟩ := h
        simp [partsV, e1, e2, e3, e4, e5, e6, e7, e8, e9, e10] at hpt : k = 1 ∨ k = 2 ∨ k = 3 ∨ k = 4 ∨ k = 5 ∨ k = 6 ∨ k = 7 ∨ k = 8 ∨ k = 9 ∨ k = 10) with rfl | rfl | rfl | rfl | rfl | rfl | rfl | rfl | rfl | rfl
    · refine TreeC.of (x := [s.data.toList]) (by simp [showT, wordsN]) fun l W h1 h2 h3 h4 => tree1 W0 b htab l W h1 h2 h3 n a s A _ _ h4
    · simp [partsV] at hpt
      obtain ⟨p0, rfl⟩ : ∃ p0, ls = [p0] := by
        match ls, hpt.1 with
        | [p0], _ => exact ⟨p0, rfl⟩
      have hsz : s.size ≤ 1000 := by
        have := name_small (by simpa [nameOkV] using hnm)
        simp at this; omega
      exact TreeC.of (x := [92 :: s.data.toList ++ [46], parS 0 (levelT p0, showT p0)]) (by simp [showT, wordsN, showL, atD]) fun l W h1 h2 h3 h4 => tree2 W0 b htab l W h1 h2 h3 n a s p0 A _ hsz hT (hC p0 (by simp)) h4
    · simp [partsV] at hpt
      obtain ⟨p0, p1, rfl⟩ := two hpt.1
      exact TreeC.of (x := [parS 4 (if p0.kind = 6 then -1 else levelT p0, showT p0), parS 5 (levelT p1, showT p1)]) (by by_cases h6 : p0.kind = 6 <;> simp [showT, wordsN, showL, atD, h6]) fun l W h1 h2 h3 h4 => tree3 W0 b htab l W h1 h2 h3 n a s p0 p1 A _ hT (hC p0 (by simp)) (hC p1 (by simp)) _ rfl h4
    · simp [partsV] at hpt
      obtain ⟨p0, p1, rfl⟩ := two hpt.1
      exact TreeC.of (x := [[108, 101, 116], s.data.toList, [61], parS 0 (levelT p0, showT p0), [105, 110], parS 0 (levelT p1, showT p1)]) (by simp [showT, wordsN, showL, atD]) fun l W h1 h2 h3 h4 => tree_let W0 b htab l W h1 h2 h3 4 n a _ s p0 p1 A _ (.inl ⟨rfl, rfl⟩) hT (hC p0 (by simp)) (hC p1 (by simp)) h4
    · simp [partsV] at hpt
      obtain ⟨p0, p1, rfl⟩ := two hpt.1
      exact TreeC.of (x := [[108, 101, 116, 114, 101, 99], s.data.toList, [61], parS 0 (levelT p0, showT p0), [105, 110], parS 0 (levelT p1, showT p1)]) (by simp [showT, wordsN, showL, atD]) fun l W h1 h2 h3 h4 => tree_let W0 b htab l W h1 h2 h3 5 n a _ s p0 p1 A _ (.inr ⟨rfl, rfl⟩) hT (hC p0 (by simp)) (hC p1 (by simp)) h4
    · simp [partsV] at hpt
      exact TreeC.of (x := s.data.toList :: ls.map (fun t => parS 5 (levelT t, showT t))) (by simp [showT, wordsN, showL_false, lt_map]) fun l W h1 h2 h3 h4 => tree6 W0 b htab l W h1 h2 h3 n a s ls A _ _ rfl (by omega) hL hC _ rfl h4
    · simp [partsV] at hpt
      obtain ⟨p0, ls, rfl⟩ : ∃ p0 r, ls = p0 :: r := by
        match ls, hpt.1 with
        | p0 :: r, _ => exact ⟨p0, r, rfl⟩
      simp only [List.length_cons] at hpt
      exact TreeC.of (x := [[99, 97, 115, 101], parS 0 (levelT p0, showT p0), [111, 102]] ++ altW [123] (lt ls) ++ [[125]]) (by simp [showT, wordsN, showL, showL_false, atD]) fun l W h1 h2 h3 h4 => tree7 W0 b htab l W h1 h2 h3 n a s p0 ls A _ ls.length rfl (by omega) (by omega) (le_capF _ _) hL hC _ rfl h4
    · simp [partsV] at hpt
      obtain ⟨N, rfl⟩ : ∃ N : Nat, n = N := ⟨n.toNat, by omega⟩
      have hN : N < ls.length := by omega
      exact TreeC.of (x := s.data.toList :: (ls.take N).map (fun t => parS 5 (levelT t, showT t)) ++ [[45, 62], parS 0 (levelT (ls[N]'hN), showT (ls[N]'hN))]) (by
        have e : atD (lt ls) N = (levelT (ls[N]'hN), showT (ls[N]'hN)) := by simp [atD, lt, List.getD, hN]
        have e2 : lt (ls.take N) = (lt ls).take N := by simp [lt, List.map_take]
        rw [← lt_map, e2]
        simp [showT, wordsN, showL_false, e]) fun l W h1 h2 h3 h4 => tree8 W0 b htab l W h1 h2 h3 a s ls A _ _ N _ (List.getElem?_eq_getElem hN) rfl (le_capF _ _) (by omega) hL hC _ rfl h4
    · simp [partsV] at hpt
      exact TreeC.of (x := [Lib.itoa n]) (by simp [showT, wordsN]) fun l W h1 h2 h3 h4 => tree9 W0 b htab l W h1 h2 h3 n a s A _ _ (by omega) (by omega) h4
    · simp [partsV] at hpt
      obtain ⟨p0, p1, rfl⟩ := two hpt.1
      exact TreeC.of (x := [parS (if levelS s.data.toList = 1 then 2 else levelS s.data.toList) (levelT p0, showT p0), s.data.toList, parS (levelS s.data.toList + 1) (levelT p1, showT p1)]) (by simp [showT, wordsN, showL, atD]) fun l W h1 h2 h3 h4 => tree10 W0 b htab l W h1 h2 h3 n a s p0 p1 A _ hT (hC p0 (by simp)) (hC p1 (by simp)) _ rfl h4
end Lx
end Go.Proofs.YteabbkhlgnoliaaGreatDoor
namespace Go.Proofs.YteabbkhlgnoliaaGreatDoor
open Go.RowKit Go.Sort
namespace Lx
set_option maxRecDepth 100000
theorem itoa_ne (n : Int) : Lib.itoa n ≠ [] := by
  unfold Lib.itoa
  split
  · simp
  · rw [Lib.decDigits]; split <;> simp
theorem show_ne {t : Tr} (h : mayT t = true) : showT t ≠ [] := by
  obtain ⟨k, s, n, a, ls⟩ := t
  obtain ⟨hnm, hpt, ha, hml⟩ := may_inv h
  have hn1 : nameV s.data.toList = true → s.data.toList ≠ [] := fun h e => by rw [e] at h; exact absurd h (by decide)
  have hc1 : conV s.data.toList = true → s.data.toList ≠ [] := fun h e => by rw [e] at h; exact absurd h (by decide)
  rcases (by
      by_cases h : k = 1 ∨ k = 2 ∨ k = 3 ∨ k = 4 ∨ k = 5 ∨ k = 6 ∨ k = 7 ∨ k = 8 ∨ k = 9 ∨ k = 10
      · exact h
      · exfalso
        simp only [not_or] at h
        obtain ⟨e1, e2, e3, e4, e5, e6, e7, e8, e9, e10⟩ := h
        simp [partsV, e1, e2, e3, e4, e5, e6, e7, e8, e9, e10] at hpt : k = 1 ∨ k = 2 ∨ k = 3 ∨ k = 4 ∨ k = 5 ∨ k = 6 ∨ k = 7 ∨ k = 8 ∨ k = 9 ∨ k = 10) with rfl | rfl | rfl | rfl | rfl | rfl | rfl | rfl | rfl | rfl
  · simp only [showT, wordsN]
    exact joinS_ne (hn1 (by simpa [nameOkV] using hnm))
  · simp [showT, wordsN, joinS]
  · simp [showT, wordsN, joinS]
  · simp [showT, wordsN, joinS]
  · simp [showT, wordsN, joinS]
  · simp only [showT, wordsN]
    exact joinS_ne (hc1 (by simpa [nameOkV] using hnm))
  · simp [showT, wordsN, joinS]
  · simp only [showT, wordsN]
    exact joinS_ne (hc1 (by simpa [nameOkV] using hnm))
  · simp only [showT, wordsN]
    exact joinS_ne (itoa_ne n)
  · simp [showT, wordsN, joinS]
/-- What Text tells. -/
def textT (t : Tr) : List UInt8 := if mayV t then showT t else []
theorem wb_new (B : Nat) (w : World) (h : B ≤ w.heap.size) : WB B w.heap.size [] (w.alloc (.cells #[.pointer none, .slice none 0 0] 55)) := by
  rcases Lib.fresh_isBuilder 55 5 w with h1 | h1
  · obtain ⟨hB, v, hbk, hown, hne⟩ := h1
    exact .inl ⟨Nat.le_trans h hB, v, hbk, Joins.ownsRow_le hown h, hne⟩
  · obtain ⟨hB, v, hbk, hown, hne⟩ := h1
    exact .inr ⟨Nat.le_trans h hB, v, hbk, Joins.ownsRow_le hown h, hne⟩
set_option maxHeartbeats 4000000 in
theorem stext_any (t : Tr) (A : Option Addr) (c : Nat) (w : World) (hI : TIn w Any t A) (hg : Signs w) (htab : Lib.TabIs Tryz.prog w "internal/strconv.uint64pow10" .u64 Lib.pow10Tab) (hlen : (showT t).length ≤ 1000000) :
    Calls Tryz.prog 11 #[tv t A c] w fun e w' => e = .returned (.string ⟨(textT t).toArray⟩) ∧ Below w.heap.size w w' := by
  have HM := fun (W : World) (h : Below w.heap.size w W) => tmay_any t A c W (TIn.below _ hI h (Nat.le_refl _)) (hg.below h hg.pos)
  have HTC : ∀ b, mayV t = true → TreeC w b t A c := fun b h => by
    simp only [mayV, Bool.and_eq_true] at h
    exact tree_all w b htab (depthT t) t (Nat.le_refl _) h.2 A c hI
  have HNE : mayV t = true → showT t ≠ [] := fun h => by
    simp only [mayV, Bool.and_eq_true] at h
    exact show_ne h.2
  have HTX : Hid (∀ b : Bool, mayV t = b → textT t = if b then showT t else []) := Lib.hid fun b h => by rw [← h]; rfl
  obtain ⟨k, s, n, a, l⟩ := t
  show Calls Tryz.prog 11 #[.agg #[.int .i64 k, .string s, .int .i64 n, .int .i64 a, .slice A l.length (capF l.length c)]] w _
  have HM := Lib.hid (show ∀ W, Below w.heap.size w W → Calls Tryz.prog 31 #[.agg #[.int .i64 k, .string s, .int .i64 n, .int .i64 a, .slice A l.length (capF l.length c)]] W fun e w' => e = .returned (.bool (mayV (.node k s n a l))) ∧ Below W.heap.size W w' from HM)
  have HTC := Lib.hid (show ∀ b, mayV (.node k s n a l) = true → ∀ (lx : List UInt8) (W : World), Below w.heap.size w W → WB w.heap.size b lx W → w.heap.size ≤ W.heap.size → lx.length + (showT (.node k s n a l)).length ≤ 1000000 → Calls Tryz.prog 32 #[.pointer (some ⟨b, 0, none⟩), .agg #[.int .i64 k, .string s, .int .i64 n, .int .i64 a, .slice A l.length (capF l.length c)]] W fun e w' => WPo w.heap.size b lx (showT (.node k s n a l)) W e w' from fun b h lx W h1 h2 h3 h4 => HTC b h lx W h1 h2 h3 h4)
  have HNE := Lib.hid HNE
  obtain ⟨X, hX⟩ : ∃ X, X = showT (.node k s n a l) := ⟨_, rfl⟩
  obtain ⟨Z, hZ⟩ : ∃ Z, Z = textT (.node k s n a l) := ⟨_, rfl⟩
  rw [← hX] at hlen HTC HNE HTX
  rw [← hZ] at HTX ⊢
  obtain ⟨bb, hbb⟩ : ∃ bb, bb = mayV (.node k s n a l) := ⟨_, rfl⟩
  rw [← hbb] at HM HTC HNE HTX
  clear hX hZ hbb hI hg htab
  have hb1 : Below w.heap.size w (w.alloc (.cells #[.int .i64 k, .string s, .int .i64 n, .int .i64 a, .slice A l.length (capF l.length c)] 24)) := (Below.refl _ w).alloc (Nat.le_refl _) _
  go_enter Tryz.func11, Tryz.ntmps11
  go_wp2_with fail
  refine (HM.out _ hb1).mono ?_
  rintro e w2 ⟨rfl, hb2⟩
  have hL := (Lies.new w 24 #[.int .i64 k, .string s, .int .i64 n, .int .i64 a, .slice A l.length (capF l.length c)]).below hb2 (by simp)
  have hs2 := hb2.size
  rw [show (w.alloc (.cells #[.int .i64 k, .string s, .int .i64 n, .int .i64 a, .slice A l.length (capF l.length c)] 24)).heap.size = w.heap.size + 1 from by simp] at hs2
  have hb3 : Below w.heap.size w w2 := hb1.trans (hb2.mono (by simp))
  cases bb with
  | false =>
    have hz := HTX.out false rfl
    simp only [Bool.false_eq_true, if_false] at hz
    subst hz
    go_wp2_with fail
    go_ret
    exact ⟨rfl, hb3⟩
  | true =>
    have hz := HTX.out true rfl
    simp only [if_true] at hz
    subst hz
    have hB := wb_new w.heap.size w2 (by omega)
    have hI4 : Below w.heap.size w (w2.alloc (.cells #[.pointer none, .slice none 0 0] 55)) := hb3.alloc (by omega) _
    have hl4 := hL.old (.cells #[.pointer none, .slice none 0 0] 55)
    have d0 := hl4.cell 0
    have d1 := hl4.cell 1
    have d2 := hl4.cell 2
    have d3 := hl4.cell 3
    have d4 := hl4.cell 4
    have HC := Lib.hid (HTC.out w2.heap.size rfl [] _ hI4 hB (by simp; omega) (by simp; omega))
    simp at d0 d1 d2 d3 d4
    clear HTC HM hb2 hl4 hB
    go_wp2_with fail
    refine HC.out.mono ?_
    rintro e w5 ⟨rfl, hB5, hb5, hk5⟩
    rw [List.nil_append] at hB5
    have HW := Lib.hid (wtext_any w.heap.size w2.heap.size _ w5 hB5 (HNE.out (by first | trivial | rfl)))
    clear hB5 hk5 HC
    go_wp2_with fail
    refine HW.out.mono ?_
    rintro e w6 ⟨rfl, hb6⟩
    go_wp2_with fail
    go_ret
    exact ⟨rfl, (hI4.trans hb5).trans hb6⟩
end Lx
end Go.Proofs.YteabbkhlgnoliaaGreatDoor
namespace Go.Proofs.YteabbkhlgnoliaaGreatDoor
namespace Lx
set_option maxRecDepth 100000
/-- Read, and written again. -/
def backS (s : List UInt8) (deep : Int) : Bool := match parseV s deep with | .ok t => showT t == s | .error _ => false
theorem s4a : backS [120] 9 = true := by kernel_rfl
theorem s4b : backS [50, 32, 42, 32, 40, 120, 32, 43, 32, 49, 41] 99 = true := by kernel_rfl
theorem s4c : backS [92, 120, 46, 32, 120, 32, 120] 99 = true := by kernel_rfl
theorem s4d : backS [40, 65, 32, 98, 41, 32, 99] 99 = true := by kernel_rfl
theorem s4e : backS [65, 32, 40, 66, 32, 99, 41, 32, 68] 99 = true := by kernel_rfl
theorem s4f : backS [99, 97, 115, 101, 32, 120, 32, 111, 102, 32, 123, 32, 65, 32, 45, 62, 32, 49, 32, 124, 32, 66, 32, 121, 32, 122, 32, 45, 62, 32, 121, 32, 45, 32, 122, 32, 125] 99 = true := by kernel_rfl
theorem s4g : backS [108, 101, 116, 114, 101, 99, 32, 102, 32, 61, 32, 92, 120, 46, 32, 102, 32, 40, 102, 32, 120, 41, 32, 105, 110, 32, 102, 32, 49, 32, 60, 32, 50] 99 = true := by kernel_rfl
theorem s4h : backS [49, 32, 45, 32, 50, 32, 45, 32, 40, 51, 32, 45, 32, 52, 41] 99 = true := by kernel_rfl
theorem s4i : backS [40, 49, 32, 60, 32, 50, 41, 32, 61, 61, 32, 40, 92, 120, 46, 32, 120, 41] 99 = true := by kernel_rfl
theorem s4j : backS [40, 65, 41, 32, 98] 99 = true := by kernel_rfl
end Lx
end Go.Proofs.YteabbkhlgnoliaaGreatDoor
namespace Go.Proofs.YteabbkhlgnoliaaGreatDoor
open Go.RowKit Go.Sort
namespace Lx
set_option maxRecDepth 100000
theorem back_of {s : List UInt8} {deep : Int} (h : backS s deep = true) : ∃ t, parseV s deep = .ok t ∧ textT t = s := by
  unfold backS at h
  cases hp : parseV s deep with
  | error e => rw [hp] at h; cases h
  | ok t =>
    rw [hp] at h
    obtain ⟨_, _, ts, hk, hw, _, hi⟩ := parseV_ok hp
    refine ⟨t, rfl, ?_⟩
    have hm : mayV t = true := by
      unfold mayV
      rw [hi.may, decide_eq_true hi.kind]; rfl
    unfold textT
    rw [hm]
    exact eq_of_beq h
def texts4 : List (List UInt8) := [[50, 32, 42, 32, 40, 120, 32, 43, 32, 49, 41], [92, 120, 46, 32, 120, 32, 120], [40, 65, 32, 98, 41, 32, 99], [65, 32, 40, 66, 32, 99, 41, 32, 68],
  [99, 97, 115, 101, 32, 120, 32, 111, 102, 32, 123, 32, 65, 32, 45, 62, 32, 49, 32, 124, 32, 66, 32, 121, 32, 122, 32, 45, 62, 32, 121, 32, 45, 32, 122, 32, 125],
  [108, 101, 116, 114, 101, 99, 32, 102, 32, 61, 32, 92, 120, 46, 32, 102, 32, 40, 102, 32, 120, 41, 32, 105, 110, 32, 102, 32, 49, 32, 60, 32, 50], [49, 32, 45, 32, 50, 32, 45, 32, 40, 51, 32, 45, 32, 52, 41], [40, 49, 32, 60, 32, 50, 41, 32, 61, 61, 32, 40, 92, 120, 46, 32, 120, 41], [40, 65, 41, 32, 98]]
theorem texts4_all : ∀ s ∈ texts4, backS s 99 = true ∧ s.length ≤ 100 := by
  intro s hs
  simp only [texts4, List.mem_cons, List.not_mem_nil, or_false] at hs
  rcases hs with rfl | rfl | rfl | rfl | rfl | rfl | rfl | rfl | rfl
  · exact ⟨s4b, by decide⟩
  · exact ⟨s4c, by decide⟩
  · exact ⟨s4d, by decide⟩
  · exact ⟨s4e, by decide⟩
  · exact ⟨s4f, by decide⟩
  · exact ⟨s4g, by decide⟩
  · exact ⟨s4h, by decide⟩
  · exact ⟨s4i, by decide⟩
  · exact ⟨s4j, by decide⟩
/-- The two tables. -/
structure Tabs (w : World) : Prop where
  sg : Signs w
  pw : Lib.TabIs Tryz.prog w "internal/strconv.uint64pow10" .u64 Lib.pow10Tab
theorem Tabs.below {w w' : World} (h : Tabs w) (hb : Below w.heap.size w w') : Tabs w' := ⟨h.sg.below hb h.sg.pos, tabs_iv h.pw w' hb⟩
theorem parse_back (s : List UInt8) (deep : Int) (w : World) (h : backS s deep = true) (hd : -1000000 ≤ deep ∧ deep ≤ 1000000) (hs : s.length ≤ 19000) (hg : Signs w) :
    Calls Tryz.prog 13 #[.string ⟨s.toArray⟩, .int .i64 deep] w fun e w' => ∃ k n a nm A m c, e = .returned (.tuple #[.agg #[.int .i64 k, .string nm, .int .i64 n, .int .i64 a, .slice A m c], .int .i64 0, .int .i64 0]) ∧ Below w.heap.size w w' ∧
      ∀ W, Below w'.heap.size w' W → Tabs W → Calls Tryz.prog 11 #[.agg #[.int .i64 k, .string nm, .int .i64 n, .int .i64 a, .slice A m c]] W fun e W' => e = .returned (.string ⟨s.toArray⟩) ∧ Below W.heap.size W W' := by
  obtain ⟨t, hp, ht⟩ := back_of h
  have hp' : parseV (⟨s.toArray⟩ : ByteArray).data.toList deep = .ok t := by rw [data_mk]; exact hp
  have hpt := parse_text ⟨s.toArray⟩ deep w hd (by rw [Lib.size_eq, data_mk]; exact hs) hg
  rw [hp'] at hpt
  refine hpt.mono ?_
  rintro e w' ⟨hb, hgd, _⟩
  obtain ⟨A, c, rfl, hT⟩ := hgd t rfl
  refine ⟨t.kind, t.n, t.place, t.name, A, t.parts.length, capF t.parts.length c, rfl, hb, fun W hW hT4 => ?_⟩
  have hl : (showT t).length ≤ 1000000 := by
    obtain ⟨_, _, ts, hk, hw, _, hi⟩ := parseV_ok hp
    have hm : mayV t = true := by
      unfold mayV
      rw [hi.may, decide_eq_true hi.kind]; rfl
    have : showT t = s := by rw [← ht]; unfold textT; rw [hm]; rfl
    rw [this]; omega
  have := stext_any t A c W (TIn.any _ (TIn.below _ hT hW (Nat.le_refl _))) hT4.sg hT4.pw hl
  rw [ht] at this
  exact this
theorem text_zero (w : World) (h : Tabs w) : Calls Tryz.prog 11 #[.agg #[.int .i64 0, .string ⟨#[]⟩, .int .i64 0, .int .i64 0, .slice none 0 0]] w fun e W' => e = .returned (.string ⟨#[]⟩) ∧ Below w.heap.size w W' :=
  stext_any (.node 0 ⟨#[]⟩ 0 0 []) none 0 w (TIn.leaf (by decide)) h.sg h.pw (by decide)
theorem below_alloc1 (W : World) (o : Obj) : Below W.heap.size W (W.alloc o) := (Below.refl _ W).alloc (Nat.le_refl _) o
def Vs4 : Array Value := (texts4.map fun s => Value.string ⟨s.toArray⟩).toArray
set_option maxHeartbeats 8000000 in
theorem fix4_any (w : World) (hg : Tabs w) : Calls Tryz.prog 10 #[] w fun e w' => e = .returned (.bool true) ∧ Below w.heap.size w w' := by
  have HPB := Lib.hid parse_back
  have HTZ := Lib.hid text_zero
  go_enter Tryz.func10, Tryz.ntmps10
  go_wp2_with fail
  refine (HPB.out [120] 9 _ s4a (by decide) (by decide) hg.sg).mono ?_
  rintro e w1 ⟨k, n, a, nm, A, m, c, rfl, hb1, HT1⟩
  have hb2 := hb1.trans ((below_alloc1 w1 (.cells #[.int .i64 k, .string nm, .int .i64 n, .int .i64 a, .slice A m c] 24)).mono hb1.size)
  have HC := Lib.hid (HT1 (w1.alloc (.cells #[.int .i64 k, .string nm, .int .i64 n, .int .i64 a, .slice A m c] 24)) (below_alloc1 w1 _) (hg.below hb2))
  clear HT1 hb1
  go_wp2_with fail
  refine HC.out.mono ?_
  rintro e w3 ⟨rfl, hb3⟩
  have hb03 := hb2.trans (hb3.mono hb2.size)
  clear hb3 hb2 HC
  go_wp2_with fail
  have hL0 : Lies (w3.alloc (.cells Vs4 9)) w3.heap.size 9 Vs4 := Lies.new w3 9 Vs4
  have hb04 := hb03.trans ((below_alloc1 w3 (.cells Vs4 9)).mono hb03.size)
  obtain ⟨G, hG⟩ : ∃ G, G = w3.heap.size := ⟨_, rfl⟩
  rw [← hG] at hL0 ⊢
  have HL0 := Lib.hid hL0
  have HB4 := Lib.hid hb04
  clear hL0 hb04 hG
  go_loopw [5] (fun x wr => ∃ i : Nat, i ≤ 9 ∧ x = .int .i64 i ∧ Lies wr G 9 Vs4 ∧ Below w.heap.size w wr) (fun x _ => 9 - (intOf x).toNat)
  case atStart => exact ⟨0, by omega, rfl, HL0.out, HB4.out⟩
  case round =>
    obtain ⟨i, hi, rfl, hL, hb⟩ := hrel
    have hgr := hg.below hb
    by_cases hlt : i < 9
    · obtain ⟨X, hX⟩ : ∃ X, X = texts4[i]'(by simpa [texts4] using hlt) := ⟨_, rfl⟩
      have hmem : X ∈ texts4 := by rw [hX]; exact List.getElem_mem _
      obtain ⟨hbk, hxl⟩ := texts4_all X hmem
      have hcl : wr.cell? ⟨G, i, none⟩ = some (.string ⟨X.toArray⟩) := by
        rw [hL.cell i, hX]
        show (texts4.map (fun s => Value.string ⟨s.toArray⟩)).toArray[i]? = _
        rw [List.getElem?_toArray, List.getElem?_map, List.getElem?_eq_getElem (by simpa [texts4] using hlt)]; rfl
      have HBK := Lib.hid hbk
      clear hbk hmem hX
      go_wp2_with fail
      refine (HPB.out X 99 _ HBK.out (by decide) (by omega) hgr.sg).mono ?_
      rintro e w5 ⟨k5, n5, a5, nm5, A5, m5, c5, rfl, hb5, HT5⟩
      have hb6 := hb.trans (hb5.mono hb.size)
      obtain ⟨O, hO⟩ : ∃ O, O = Obj.cells #[.int .i64 k5, .string nm5, .int .i64 n5, .int .i64 a5, .slice A5 m5 c5] 24 := ⟨_, rfl⟩
      have hb7 := hb6.trans ((below_alloc1 w5 O).mono hb6.size)
      have hT7 := hg.below hb7
      have hLx : Lies (w5.alloc O) G 9 Vs4 := (hL.below hb5 hL.lt).old O
      have hcx : (w5.alloc O).cell? ⟨G, i, none⟩ = some (.string ⟨X.toArray⟩) := by rw [hLx.cell i, ← hL.cell i]; exact hcl
      have hBx : Lies (w5.alloc O) w5.heap.size 24 #[.int .i64 k5, .string nm5, .int .i64 n5, .int .i64 a5, .slice A5 m5 c5] := by rw [hO]; exact Lies.new w5 _ _
      have hGs : G < (w5.alloc O).heap.size := hLx.lt
      have hBs : w5.heap.size < (w5.alloc O).heap.size := hBx.lt
      have hS : ∀ V, Below (w5.alloc O).heap.size (w5.alloc O) V → V.cell? ⟨G, i, none⟩ = some (.string ⟨X.toArray⟩) ∧ V.cell? ⟨w5.heap.size, 0, none⟩ = some (.int .i64 k5) ∧ V.cell? ⟨w5.heap.size, 1, none⟩ = some (.string nm5) ∧ V.cell? ⟨w5.heap.size, 2, none⟩ = some (.int .i64 n5) ∧ V.cell? ⟨w5.heap.size, 3, none⟩ = some (.int .i64 a5) ∧ V.cell? ⟨w5.heap.size, 4, none⟩ = some (.slice A5 m5 c5) := fun V h => by
        have h2 := hBx.below h hBs
        exact ⟨(h.cell (p := ⟨G, i, none⟩) hGs).trans hcx, h2.cell 0, h2.cell 1, h2.cell 2, h2.cell 3, h2.cell 4⟩
      have HS := Lib.hid hS
      have HT5 := Lib.hid HT5
      clear hS hcx hcl hBx hL
      go_upto_region 9 with fail
      rw [← hO]
      obtain ⟨W5, hW5⟩ : ∃ W, W = w5.alloc O := ⟨_, rfl⟩
      rw [← hW5] at hb7 hT7 hLx hGs hBs HS ⊢
      have HC := Lib.hid (fun W (h : Below w5.heap.size w5 W) h2 => HT5.out W h h2)
      have hz : Below w5.heap.size w5 W5 := by rw [hW5]; exact below_alloc1 _ _
      have hd1 : Below W5.heap.size W5 W5.drew := (Below.refl _ W5).drew
      have HC1 := Lib.hid (HC.out W5.drew (hz.trans (hd1.mono hz.size)) (hT7.below hd1))
      clear hW5 hO HT5 HC
      go_region_held3 (fun V => V.cell? ⟨G, i, none⟩ = some (.string ⟨X.toArray⟩) ∧ V.cell? ⟨w5.heap.size, 0, none⟩ = some (.int .i64 k5) ∧ V.cell? ⟨w5.heap.size, 1, none⟩ = some (.string nm5) ∧ V.cell? ⟨w5.heap.size, 2, none⟩ = some (.int .i64 n5) ∧ V.cell? ⟨w5.heap.size, 3, none⟩ = some (.int .i64 a5) ∧ V.cell? ⟨w5.heap.size, 4, none⟩ = some (.slice A5 m5 c5))
        (first | exact HS.out _ hd1 | exact HS.out _ hd2)
        ((first
          | (go_at_call 11
             refine HC1.out.mono ?_
             rintro e w7 ⟨rfl, hb8⟩
             have hd2 : Below W5.heap.size W5 w7 := hd1.trans hb8)))
      go_wp2_with fail
      go_roundw
      case rel => exact ⟨i + 1, by omega, by go_num, hLx.below hd2 hGs, hb7.trans (hd2.mono hb7.size)⟩
      case measure => simp [intOf]; omega
    · obtain rfl : i = 9 := by omega
      go_wp2_with fail
      refine (HTZ.out _ hgr).mono ?_
      rintro e w6 ⟨rfl, hb6⟩
      go_wp2_with fail
      go_ret
      exact ⟨rfl, hb.trans (hb6.mono hb.size)⟩
end Lx
end Go.Proofs.YteabbkhlgnoliaaGreatDoor
namespace Go.Proofs.YteabbkhlgnoliaaGreatDoor
namespace Lx
set_option maxRecDepth 100000
def sumW : List (List UInt8) → Nat
  | [] => 0
  | a :: r => a.length + 1 + sumW r
theorem joinS_len : ∀ ws : List (List UInt8), (joinS ws).length ≤ sumW ws
  | [] => by simp [joinS, sumW]
  | [a] => by simp [joinS, sumW]
  | a :: b :: r => by
    have := joinS_len (b :: r)
    simp only [joinS, sumW, List.length_append, List.length_cons] at this ⊢
    omega
theorem sumW_app : ∀ a b : List (List UInt8), sumW (a ++ b) = sumW a + sumW b
  | [], b => by simp [sumW]
  | x :: a, b => by simp only [List.cons_append, sumW, sumW_app a b]; omega
def sumX : List (Int × List UInt8) → Nat
  | [] => 0
  | x :: r => x.2.length + 6 + sumX r
theorem par_len (lv : Int) (x : Int × List UInt8) : (parS lv x).length ≤ x.2.length + 2 := by
  unfold parS; split <;> simp
theorem sumW_alt (s : List UInt8) (hs : s.length ≤ 1) : ∀ X : List (Int × List UInt8), sumW (altW s X) ≤ sumX X
  | [] => by simp [altW, sumW, sumX]
  | x :: r => by
    have h1 := sumW_alt [124] (by simp) r
    have h2 := par_len 0 x
    simp only [altW, sumW, sumX]; omega
theorem sumW_par (lv : Int) : ∀ X : List (Int × List UInt8), sumW (X.map (parS lv)) ≤ sumX X
  | [] => by simp [sumW, sumX]
  | x :: r => by
    have h1 := sumW_par lv r
    have h2 := par_len lv x
    simp only [List.map_cons, sumW, sumX]; omega
theorem sumX_take : ∀ (X : List (Int × List UInt8)) (n : Nat), sumX (X.take n) + (atD X n).2.length ≤ sumX X
  | [], n => by simp [sumX, atD]
  | x :: r, 0 => by simp only [List.take_zero, sumX, atD, List.getD_cons_zero]; omega
  | x :: r, n + 1 => by
    have h := sumX_take r n
    simp only [List.take_succ_cons, sumX, atD, List.getD_cons_succ] at h ⊢; omega
theorem words_len (k n : Int) (s : List UInt8) (X : List (Int × List UInt8)) (hs : s.length ≤ 16) (hn0 : -9223372036854775808 ≤ n) (hn1 : n ≤ 9223372036854775807) : (joinS (wordsN k s n X)).length ≤ 40 + sumX X := by
  refine Nat.le_trans (joinS_len _) ?_
  have p1 := par_len
  have x0 : (atD X 0).2.length ≤ sumX X := by have := sumX_take X 0; omega
  have x1 : (atD X 0).2.length + (atD X 1).2.length ≤ sumX X := by
    have h := sumX_take X 1
    cases X with
    | nil => simp [atD]
    | cons x r => simp only [List.take_succ_cons, List.take_zero, sumX, atD, List.getD_cons_zero, List.getD_cons_succ] at h ⊢; omega
  unfold wordsN
  generalize (if levelS s = 1 then 2 else levelS s) = q
  repeat' split
  · simp only [sumW]; omega
  · have := Lib.itoa_length_le n hn0 hn1
    simp only [sumW]; omega
  · have := p1 0 (atD X 0)
    simp only [sumW, List.length_append, List.length_cons, List.length_nil]; omega
  · have := p1 0 (atD X 0)
    have := p1 0 (atD X 1)
    simp only [sumW, List.length_cons, List.length_nil]; omega
  · have := p1 0 (atD X 0)
    have := p1 0 (atD X 1)
    simp only [sumW, List.length_cons, List.length_nil]; omega
  · have h1 := p1 0 (atD X 0)
    have h2 := sumW_alt [123] (by simp) (X.drop 1)
    have h3 : (atD X 0).2.length + sumX (X.drop 1) ≤ sumX X := by
      cases X with
      | nil => simp [atD, sumX]
      | cons x r => simp only [atD, List.getD_cons_zero, List.drop_succ_cons, List.drop_zero, sumX]; omega
    simp only [sumW_app, sumW, List.length_cons, List.length_nil]; omega
  · have h1 := p1 0 (atD X n.toNat)
    have h2 := sumW_par 5 (X.take n.toNat)
    have h3 := sumX_take X n.toNat
    simp only [List.cons_append, sumW_app, sumW, List.length_cons, List.length_nil]; omega
  · have h1 := p1 q (atD X 0)
    have h2 := p1 (levelS s + 1) (atD X 1)
    simp only [sumW]; omega
  · have h2 := sumW_par 5 X
    simp only [sumW]; omega
  · have h1 := p1 4 (atD X 0)
    have h2 := p1 5 (atD X 1)
    simp only [sumW]; omega
  · simp [sumW]
theorem may_small {k n a : Int} {s : ByteArray} {l : List Tr} (h : mayT (.node k s n a l) = true) : s.data.toList.length ≤ 16 ∧ 0 ≤ n ∧ n < 1000000000000000000 ∧ l.length ≤ 9 := by
  obtain ⟨h1, h2, _, _⟩ := may_inv h
  have hn : nameV s.data.toList = true → s.data.toList.length ≤ 16 := fun h => by
    simp only [nameV, Bool.and_eq_true, decide_eq_true_eq] at h
    exact h.2.2.1
  have hc : conV s.data.toList = true → s.data.toList.length ≤ 16 := fun h => by
    simp only [conV, Bool.and_eq_true, decide_eq_true_eq] at h
    exact h.2.2
  have ho : opV s.data.toList = true → s.data.toList.length ≤ 16 := fun h => by
    simp only [opV, Bool.or_eq_true, beq_iff_eq] at h
    rcases h with h | h | h | h | h | h <;> rw [h] <;> decide
  refine ⟨?_, ?_⟩
  · unfold nameOkV at h1
    split at h1
    · exact hn h1
    · split at h1
      · exact hc h1
      · split at h1
        · exact ho h1
        · rw [eq_of_beq h1]; decide
  · unfold partsV at h2
    repeat' split at h2
    all_goals (try simp only [Bool.and_eq_true, decide_eq_true_eq] at h2)
    all_goals first | omega | simp at h2
mutual
theorem show_len : ∀ t : Tr, mayT t = true → (showT t).length + 6 ≤ 50 * sizeT t
  | .node k s n a l, h => by
    obtain ⟨h1, h2, h3, _⟩ := may_small h
    obtain ⟨_, _, _, hl⟩ := may_inv h
    have hw := words_len k n s.data.toList (showL (decide (k = 3)) l) h1 (by omega) (by omega)
    have hx := show_lenL l (decide (k = 3)) (mayL_memT k n l 0 hl)
    rw [showT, sizeT]
    omega
theorem show_lenL : ∀ (l : List Tr) (b : Bool), (∀ t ∈ l, mayT t = true) → sumX (showL b l) ≤ 50 * sizeL l
  | [], b, _ => by simp [showL, sumX]
  | t :: r, b, h => by
    have h1 := show_len t (h t (by simp))
    have h2 := show_lenL r false (fun u hu => h u (by simp [hu]))
    rw [showL, sumX, sizeL]
    simp only
    omega
end
end Lx
end Go.Proofs.YteabbkhlgnoliaaGreatDoor
namespace Go.Proofs.YteabbkhlgnoliaaGreatDoor
namespace Lx
set_option maxRecDepth 100000
theorem ok_may {s : List UInt8} {deep : Int} {t : Tr} (h : parseV s deep = .ok t) : mayV t = true ∧ (showT t).length ≤ 1000000 ∧ textT t = showT t ∧ textT t ≠ [] := by
  obtain ⟨_, hs, ts, hk, hw, _, hi⟩ := parseV_ok h
  have hm : mayV t = true := by
    unfold mayV
    rw [hi.may, decide_eq_true hi.kind]; rfl
  have he : textT t = showT t := by unfold textT; rw [hm]; rfl
  have h1 := show_len t hi.may
  have h2 := hi.sz
  have h3 := (allK_GL hk).2.1
  exact ⟨hm, by omega, he, by rw [he]; exact show_ne hi.may⟩
theorem parseV_code0 {s : List UInt8} {deep p k : Int} (h : parseV s deep = .error (p, k)) : k ≠ 0 := by
  unfold parseV at h
  split at h
  · simp at h; omega
  · split at h
    · simp at h; omega
    · split at h
      · rename_i p' x hk
        simp only [Except.error.injEq, Prod.mk.injEq] at h
        have := err_code hk
        omega
      · split at h
        · simp at h; omega
        · split at h
          · simp at h; omega
          · cases h
theorem parens_ok {s : List UInt8} {t : Tr} (hs : s.length ≤ 1000) (hp : parseV s 200 = .ok t) : ∃ u, parseV (40 :: 40 :: (s ++ [41, 41])) 200 = .ok u ∧ textT u = textT t := by
  obtain ⟨_, _, ts, hk, hw, hd, _⟩ := parseV_ok hp
  obtain ⟨ms, t1, h1, h2, h3⟩ := wrap_text (by omega) hk hw
  obtain ⟨ms2, t2, h4, h5, h6⟩ := wrap_text (l := 40 :: (s ++ [41])) (by simp; omega) h1 h2
  have h7 := same_trans _ _ _ h3 h6
  have e : (40 :: (40 :: (s ++ [41]) ++ [41]) : List UInt8) = 40 :: 40 :: (s ++ [41, 41]) := by simp
  rw [e] at h4
  have hpu : parseV (40 :: 40 :: (s ++ [41, 41])) 200 = .ok t2 := by
    rw [parseV_tok (by omega) (by simp; omega) h4, h5]
    simp only
    rw [if_neg (by have := same_depth t t2 h7; omega)]
  refine ⟨t2, hpu, ?_⟩
  rw [(ok_may hp).2.2.1, (ok_may hpu).2.2.1]
  exact (show_same t t2 h7).1.symm
end Lx
end Go.Proofs.YteabbkhlgnoliaaGreatDoor
