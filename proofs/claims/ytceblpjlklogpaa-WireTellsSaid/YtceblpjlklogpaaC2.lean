/-
  Texts that lie one behind the other: NlL NlM NlO NlP NdP.
-/
import Derived.Test.YtceblpjlklogpaaC1
import Derived.Laws.AppendOwn
import Derived.Laws.MakeOwn
namespace Go.Proofs.Ytceblpjlklogpaa
open Go.RowKit
namespace Lx
set_option maxRecDepth 100000
set_option maxHeartbeats 8000000 in
theorem one_any (x : Nd) (B C B' C' : Option Addr) (b c b' c' : Nat) (w : World) (hI : NdIn w AnyB x B C) (hJ : NdIn w AnyB x B' C') : Calls Try.prog 31 #[ndv x B b C c, ndv x B' b' C' c'] w fun e w' => e = .returned (.bool true) ∧ Below w.heap.size w w' := by
  obtain ⟨k, lv, n, s, al, tp⟩ := x
  obtain ⟨⟨_, hal, htl⟩, hA, hT⟩ := hI
  obtain ⟨_, hA', hT'⟩ := hJ
  simp only at hal htl hA hT hA' hT'
  obtain ⟨w1, hw1⟩ : ∃ w1, w1 = ((w.alloc (.cells #[.int .i64 k, .int .i64 lv, .int .i64 n, .string s, .slice B al.length (capN al.length b), .slice C tp.length (capN tp.length c)] 43)).alloc (.cells #[.int .i64 k, .int .i64 lv, .int .i64 n, .string s, .slice B' al.length (capN al.length b'), .slice C' tp.length (capN tp.length c')] 43)) := ⟨_, rfl⟩
  have hb : Below w.heap.size w w1 := by rw [hw1]; exact ((Below.refl _ w).alloc (Nat.le_refl _) _).alloc (by simp) _
  have L : Lies w1 w.heap.size 43 #[.int .i64 k, .int .i64 lv, .int .i64 n, .string s, .slice B al.length (capN al.length b), .slice C tp.length (capN tp.length c)] := by rw [hw1]; exact (Lies.new _ _ _).old _
  have L' : Lies w1 (w.heap.size + 1) 43 #[.int .i64 k, .int .i64 lv, .int .i64 n, .string s, .slice B' al.length (capN al.length b'), .slice C' tp.length (capN tp.length c')] := by rw [hw1]; simpa using Lies.new (w.alloc (.cells #[.int .i64 k, .int .i64 lv, .int .i64 n, .string s, .slice B al.length (capN al.length b), .slice C tp.length (capN tp.length c)] 43)) 43 #[.int .i64 k, .int .i64 lv, .int .i64 n, .string s, .slice B' al.length (capN al.length b'), .slice C' tp.length (capN tp.length c')]
  obtain ⟨ma, hma⟩ : ∃ ma, ma = al.length := ⟨_, rfl⟩
  obtain ⟨mt, hmt⟩ : ∃ mt, mt = tp.length := ⟨_, rfl⟩
  unfold ndv
  simp only
  rw [← hma, ← hmt] at L L' hw1 ⊢
  rw [← hma] at hal
  rw [← hmt] at htl
  obtain ⟨x0, x1, x2, x3, x4, x5⟩ := six_cells L
  obtain ⟨y0, y1, y2, y3, y4, y5⟩ := six_cells L'
  have HA := Lib.hid (hA.below hb (Nat.le_refl _))
  have HA' := Lib.hid (hA'.below hb (Nat.le_refl _))
  have HT := Lib.hid (hT.below hb (Nat.le_refl _))
  have HT' := Lib.hid (hT'.below hb (Nat.le_refl _))
  have HMA := Lib.hid hma
  have HMT := Lib.hid hmt
  clear hA hA' hT hT' hma hmt
  go_enter Try.func31, Try.ntmps31
  go_upto_region 1 with fail
  rw [← hw1]
  clear hw1 L L'
  have hx4 := ncell_lt x4
  have hy4 := ncell_lt y4
  go_upto_region 3 with fail
  clear x0 x1 x2 x3 y0 y1 y2 y3
  go_wp2_with fail
  go_loopw [5] (fun y wr => ∃ i : Nat, i ≤ ma ∧ y = .int .i64 i ∧ Below w1.heap.size w1 wr) (fun y _ => ma - (intOf y).toNat)
  case atStart => exact ⟨0, Nat.zero_le _, rfl, Below.refl _ _⟩
  case round =>
    obtain ⟨i, hi, rfl, hbr⟩ := hrel
    have u4 := (hbr.cell (p := ⟨w.heap.size, 4, none⟩) hx4).trans x4
    have v4 := (hbr.cell (p := ⟨w.heap.size + 1, 4, none⟩) hy4).trans y4
    by_cases hlt : i < ma
    · have hil : i < al.length := by have := HMA.out; omega
      obtain ⟨g, o, ⟨rfl, _⟩, d0, d1, _⟩ := HA.out i hil
      obtain ⟨g', o', ⟨rfl, _⟩, d0', d1', _⟩ := HA'.out i hil
      replace d0 := (hbr.cell (p := ⟨g, o + i * 2, none⟩) (ncell_lt d0)).trans d0
      replace d1 := (hbr.cell (p := ⟨g, o + i * 2 + 1, none⟩) (ncell_lt d1)).trans d1
      replace d0' := (hbr.cell (p := ⟨g', o' + i * 2, none⟩) (ncell_lt d0')).trans d0'
      replace d1' := (hbr.cell (p := ⟨g', o' + i * 2 + 1, none⟩) (ncell_lt d1')).trans d1'
      obtain ⟨an, han⟩ : ∃ an, an = (al[i]'hil).1 := ⟨_, rfl⟩
      obtain ⟨aN, haN⟩ : ∃ aN, aN = (al[i]'hil).2 := ⟨_, rfl⟩
      rw [← han] at d0 d0'
      rw [← haN] at d1 d1'
      clear han haN
      have z0 := Abv.cell d0
      have z1 := Abv.cell d1
      have z0' := Abv.cell d0'
      have z1' := Abv.cell d1'
      have z4 := Abv.cell u4
      have z4' := Abv.cell v4
      go_upto_region 6 with fail
      refine region_calm (by kernel_rfl) (by kernel_rfl) ?_
      repeat (go_big_quiet_step (fail))
      refine wpQuiet_nil ?_
      rintro _ ⟨V, rfl⟩
      go_wp2_with fail
      go_roundw
      case rel =>
        go_light
        exact ⟨i + 1, by omega, by go_num, hbr.trans (V.2.mono hbr.size)⟩
      case measure => simp [intOf]; omega
    · have hx5 := ncell_lt x5
      have hy5 := ncell_lt y5
      obtain ⟨w2, hw2⟩ : ∃ w2, w2 = wr := ⟨_, rfl⟩
      have r5 := (hbr.cell (p := ⟨w.heap.size, 5, none⟩) hx5).trans x5
      have s5 := (hbr.cell (p := ⟨w.heap.size + 1, 5, none⟩) hy5).trans y5
      rw [← hw2] at hbr u4 v4 r5 s5 ⊢
      clear hw2
      have hr5 := ncell_lt r5
      have hs5 := ncell_lt s5
      go_wp2_with fail
      go_loopw [6] (fun y wr => ∃ i : Nat, i ≤ mt ∧ y = .int .i64 i ∧ Below w2.heap.size w2 wr) (fun y _ => mt - (intOf y).toNat)
      case atStart => exact ⟨0, Nat.zero_le _, rfl, Below.refl _ _⟩
      case round =>
        obtain ⟨j, hj, rfl, hb2⟩ := hrel
        have p5 := (hb2.cell (p := ⟨w.heap.size, 5, none⟩) hr5).trans r5
        have q5 := (hb2.cell (p := ⟨w.heap.size + 1, 5, none⟩) hs5).trans s5
        have hbt := hbr.trans (hb2.mono hbr.size)
        by_cases hlt2 : j < mt
        · have hjl : j < tp.length := by have := HMT.out; omega
          obtain ⟨g, o, ⟨rfl, _⟩, d0, d1⟩ := HT.out j hjl
          obtain ⟨g', o', ⟨rfl, _⟩, d0', d1'⟩ := HT'.out j hjl
          replace d0 := (hbt.cell (p := ⟨g, o + j * 2, none⟩) (ncell_lt d0)).trans d0
          replace d1 := (hbt.cell (p := ⟨g, o + j * 2 + 1, none⟩) (ncell_lt d1)).trans d1
          replace d0' := (hbt.cell (p := ⟨g', o' + j * 2, none⟩) (ncell_lt d0')).trans d0'
          replace d1' := (hbt.cell (p := ⟨g', o' + j * 2 + 1, none⟩) (ncell_lt d1')).trans d1'
          obtain ⟨an, han⟩ : ∃ an, an = (tp[j]'hjl).1 := ⟨_, rfl⟩
          obtain ⟨aN, haN⟩ : ∃ aN, aN = (tp[j]'hjl).2 := ⟨_, rfl⟩
          rw [← han] at d0 d0'
          rw [← haN] at d1 d1'
          clear han haN
          have z0 := Abv.cell d0
          have z1 := Abv.cell d1
          have z0' := Abv.cell d0'
          have z1' := Abv.cell d1'
          have z5 := Abv.cell p5
          have z5' := Abv.cell q5
          go_upto_region 11 with fail
          refine region_calm (by kernel_rfl) (by kernel_rfl) ?_
          repeat (go_big_quiet_step (fail))
          refine wpQuiet_nil ?_
          rintro _ ⟨V, rfl⟩
          go_wp2_with fail
          go_roundw
          case rel =>
            go_light
            exact ⟨j + 1, by omega, by go_num, hb2.trans (V.2.mono hb2.size)⟩
          case measure => simp [intOf]; omega
        · go_wp2_with fail
          go_ret
          exact ⟨rfl, hb.trans (hbt.mono hb.size)⟩
set_option maxHeartbeats 8000000 in
theorem same_any (l : List Nd) (A A' : Option Addr) (m c c' : Nat) (cap : Int) (w : World) (hm : m = l.length) (hl : m ≤ 140737488351232) (hN : NdsIn w AnyB l A) (hN' : NdsIn w AnyB l A') : Calls Try.prog 18 #[.agg #[.slice A m c, .int .i64 cap], .agg #[.slice A' m c', .int .i64 cap]] w fun e w' => e = .returned (.bool true) ∧ Below w.heap.size w w' := by
  obtain ⟨w1, hw1⟩ : ∃ w1, w1 = ((w.alloc (.cells #[.slice A m c, .int .i64 cap] 24)).alloc (.cells #[.slice A' m c', .int .i64 cap] 24)) := ⟨_, rfl⟩
  have hb : Below w.heap.size w w1 := by rw [hw1]; exact ((Below.refl _ w).alloc (Nat.le_refl _) _).alloc (by simp) _
  have L : Lies w1 w.heap.size 24 #[.slice A m c, .int .i64 cap] := by rw [hw1]; exact (Lies.new _ _ _).old _
  have L' : Lies w1 (w.heap.size + 1) 24 #[.slice A' m c', .int .i64 cap] := by rw [hw1]; simpa using Lies.new (w.alloc (.cells #[.slice A m c, .int .i64 cap] 24)) 24 #[.slice A' m c', .int .i64 cap]
  have c0 := L.cell 0
  have c1 := L.cell 1
  have e0 := L'.cell 0
  have e1 := L'.cell 1
  simp at c0 c1 e0 e1
  have hg := ncell_lt c0
  have hg' := ncell_lt e0
  have HN := Lib.hid (hN.below hb (Nat.le_refl _))
  have HN' := Lib.hid (hN'.below hb (Nat.le_refl _))
  have HM := Lib.hid hm
  clear hN hN' hm L L'
  go_enter Try.func18, Try.ntmps18
  go_upto_region 1 with fail
  rw [← hw1]
  clear hw1
  go_wp2_with fail
  go_loopw [5] (fun y wr => ∃ i : Nat, i ≤ m ∧ y = .int .i64 i ∧ Below w1.heap.size w1 wr) (fun y _ => m - (intOf y).toNat)
  case atStart => exact ⟨0, Nat.zero_le _, rfl, Below.refl _ _⟩
  case round =>
    obtain ⟨i, hi, rfl, hbr⟩ := hrel
    have d0 := (hbr.cell (p := ⟨w.heap.size, 0, none⟩) hg).trans c0
    have f0 := (hbr.cell (p := ⟨w.heap.size + 1, 0, none⟩) hg').trans e0
    by_cases hlt : i < m
    · have hil : i < l.length := by have := HM.out; omega
      obtain ⟨g, o, x, B, bb, C, cc, hx, rfl, _, ⟨x0, x1, x2, x3, x4, x5⟩, hI⟩ := NdsIn.get (HN.out.below hbr (Nat.le_refl _)) i hil
      obtain ⟨g', o', x', B', bb', C', cc', hx', rfl, _, ⟨y0, y1, y2, y3, y4, y5⟩, hI'⟩ := NdsIn.get (HN'.out.below hbr (Nat.le_refl _)) i hil
      obtain rfl : x' = x := by rw [hx, hx']
      have z0 := Abv.cell x0
      have z1 := Abv.cell x1
      have z2 := Abv.cell x2
      have z3 := Abv.cell x3
      have z4 := Abv.cell x4
      have z5 := Abv.cell x5
      have t0 := Abv.cell y0
      have t1 := Abv.cell y1
      have t2 := Abv.cell y2
      have t3 := Abv.cell y3
      have t4 := Abv.cell y4
      have t5 := Abv.cell y5
      have s0 := Abv.cell d0
      have s1 := Abv.cell f0
      have HO : ∀ V : Abv wr, Calls Try.prog 31 #[.agg #[.int .i64 x'.kind, .int .i64 x'.level, .int .i64 x'.n, .string x'.name, .slice B x'.alts.length (capN x'.alts.length bb), .slice C x'.to.length (capN x'.to.length cc)], .agg #[.int .i64 x'.kind, .int .i64 x'.level, .int .i64 x'.n, .string x'.name, .slice B' x'.alts.length (capN x'.alts.length bb'), .slice C' x'.to.length (capN x'.to.length cc')]] V.1 fun e w' => e = .returned (.bool true) ∧ Below V.1.heap.size V.1 w' :=
        fun V => one_any x' B C B' C' bb cc bb' cc' V.1 (hI.below V.2 (Nat.le_refl _)) (hI'.below V.2 (Nat.le_refl _))
      clear hx hx' hI hI' x0 x1 x2 x3 x4 x5 y0 y1 y2 y3 y4 y5
      go_upto_region 6 with fail
      refine region_calm (by kernel_rfl) (by kernel_rfl) ?_
      repeat (go_big_quiet_step (exact calm_of (HO _)))
      refine wpQuiet_nil ?_
      rintro _ ⟨V, rfl⟩
      go_wp2_with fail
      go_roundw
      case rel =>
        go_light
        exact ⟨i + 1, by omega, by go_num, hbr.trans (V.2.mono hbr.size)⟩
      case measure => simp [intOf]; omega
    · go_wp2_with fail
      go_ret
      exact ⟨rfl, hb.trans (hbr.mono hb.size)⟩
end Lx
end Go.Proofs.Ytceblpjlklogpaa
namespace Go.Proofs.Ytceblpjlklogpaa
open Go Go.RowKit
namespace Lx
set_option maxRecDepth 100000
theorem info_partsN {P : Program} {e : TypeId} {z : Value} {s b : Nat} (h : (P.info? e).map (fun i => (i.zero, i.size, i.bytes)) = some (some z, s, b)) : ∃ i, P.info? e = some i ∧ i.zero = some z ∧ i.size = s ∧ i.bytes = b := by
  cases hq : P.info? e with
  | none => rw [hq] at h; cases h
  | some i => rw [hq] at h; simp only [Option.map_some, Option.some.injEq, Prod.mk.injEq] at h; exact ⟨i, rfl, h.1, h.2.1, h.2.2⟩
theorem infoNd : (Try.prog.info? 43).map (fun i => (i.zero, i.size, i.bytes)) = some (some (.agg #[.int .i64 0, .int .i64 0, .int .i64 0, .string ⟨#[]⟩, .slice none 0 0, .slice none 0 0]), 6, 88) := by kernel_rfl
theorem infoAr : (Try.prog.info? 67).map (fun i => (i.zero, i.size, i.bytes)) = some (some (.agg #[.string ⟨#[]⟩, .int .i64 0]), 2, 24) := by kernel_rfl
theorem infoPo : (Try.prog.info? 26).map (fun i => (i.zero, i.size, i.bytes)) = some (some (.agg #[.int .i64 0, .int .i64 0]), 2, 16) := by kernel_rfl
/-- The cells of alternatives. -/
def cellsAl : List (ByteArray × Int) → List Value
  | [] => []
  | a :: r => .string a.1 :: .int .i64 a.2 :: cellsAl r
def cellsTo : List (Int × Int) → List Value
  | [] => []
  | a :: r => .int .i64 a.1 :: .int .i64 a.2 :: cellsTo r
theorem cellsAl_len : ∀ l, (cellsAl l).length = l.length * 2
  | [] => rfl
  | a :: r => by simp only [cellsAl, List.length_cons, cellsAl_len r]; omega
theorem cellsTo_len : ∀ l, (cellsTo l).length = l.length * 2
  | [] => rfl
  | a :: r => by simp only [cellsTo, List.length_cons, cellsTo_len r]; omega
theorem cellsAl_at : ∀ (l : List (ByteArray × Int)) (j : Nat) (h : j < l.length), (cellsAl l)[j * 2]? = some (.string (l[j]'h).1) ∧ (cellsAl l)[j * 2 + 1]? = some (.int .i64 (l[j]'h).2)
  | [], j, h => by simp at h
  | a :: r, 0, _ => by simp [cellsAl]
  | a :: r, j + 1, h => by
    have := cellsAl_at r j (by simpa using h)
    rw [show (j + 1) * 2 = j * 2 + 1 + 1 by omega]
    simpa [cellsAl] using this
theorem cellsTo_at : ∀ (l : List (Int × Int)) (j : Nat) (h : j < l.length), (cellsTo l)[j * 2]? = some (.int .i64 (l[j]'h).1) ∧ (cellsTo l)[j * 2 + 1]? = some (.int .i64 (l[j]'h).2)
  | [], j, h => by simp at h
  | a :: r, 0, _ => by simp [cellsTo]
  | a :: r, j + 1, h => by
    have := cellsTo_at r j (by simpa using h)
    rw [show (j + 1) * 2 = j * 2 + 1 + 1 by omega]
    simpa [cellsTo] using this
theorem cellsAl_one : ∀ l, ∀ u ∈ cellsAl l, u.oneCell' = true
  | [], u, h => by simp [cellsAl] at h
  | a :: r, u, h => by
    simp only [cellsAl, List.mem_cons] at h
    rcases h with rfl | rfl | h
    · rfl
    · rfl
    · exact cellsAl_one r u h
theorem cellsTo_one : ∀ l, ∀ u ∈ cellsTo l, u.oneCell' = true
  | [], u, h => by simp [cellsTo] at h
  | a :: r, u, h => by
    simp only [cellsTo, List.mem_cons] at h
    rcases h with rfl | rfl | h
    · rfl
    · rfl
    · exact cellsTo_one r u h
section
variable {w : World} {X : Nat → Prop}
theorem AltIn.cells {l : List (ByteArray × Int)} {g o : Nat} (h : AltIn w X l (some ⟨g, o, none⟩)) (i : Nat) (u : Value) (hu : (cellsAl l)[i]? = some u) : w.cell? ⟨g, o + i, none⟩ = some u := by
  have hi : i < l.length * 2 := by
    rcases Nat.lt_or_ge i (l.length * 2) with h1 | h1
    · exact h1
    · rw [List.getElem?_eq_none (by rw [cellsAl_len]; exact h1)] at hu; cases hu
  obtain ⟨j, hj | hj⟩ : ∃ j, i = j * 2 ∨ i = j * 2 + 1 := ⟨i / 2, by omega⟩
  all_goals
    subst hj
    have hjl : j < l.length := by omega
    obtain ⟨g', o', ⟨e, _⟩, h0, h1, _⟩ := h j hjl
    cases e
    have hc := cellsAl_at l j hjl
  · rw [hc.1] at hu; rw [← hu]; exact h0
  · rw [hc.2] at hu; rw [← hu, ← Nat.add_assoc]; exact h1
theorem AltIn.of {l : List (ByteArray × Int)} {g o : Nat} (hX : X g) (hc : ∀ i u, (cellsAl l)[i]? = some u → w.cell? ⟨g, o + i, none⟩ = some u) (hs : ∀ a ∈ l, a.1.size ≤ 140737488351232) : AltIn w X l (some ⟨g, o, none⟩) := fun j hj =>
  ⟨g, o, ⟨rfl, hX⟩, hc _ _ (cellsAl_at l j hj).1, by have := hc _ _ (cellsAl_at l j hj).2; rwa [← Nat.add_assoc] at this, hs _ (List.getElem_mem hj)⟩
theorem ToIn.cells {l : List (Int × Int)} {g o : Nat} (h : ToIn w X l (some ⟨g, o, none⟩)) (i : Nat) (u : Value) (hu : (cellsTo l)[i]? = some u) : w.cell? ⟨g, o + i, none⟩ = some u := by
  have hi : i < l.length * 2 := by
    rcases Nat.lt_or_ge i (l.length * 2) with h1 | h1
    · exact h1
    · rw [List.getElem?_eq_none (by rw [cellsTo_len]; exact h1)] at hu; cases hu
  obtain ⟨j, hj | hj⟩ : ∃ j, i = j * 2 ∨ i = j * 2 + 1 := ⟨i / 2, by omega⟩
  all_goals
    subst hj
    have hjl : j < l.length := by omega
    obtain ⟨g', o', ⟨e, _⟩, h0, h1⟩ := h j hjl
    cases e
    have hc := cellsTo_at l j hjl
  · rw [hc.1] at hu; rw [← hu]; exact h0
  · rw [hc.2] at hu; rw [← hu, ← Nat.add_assoc]; exact h1
theorem ToIn.of {l : List (Int × Int)} {g o : Nat} (hX : X g) (hc : ∀ i u, (cellsTo l)[i]? = some u → w.cell? ⟨g, o + i, none⟩ = some u) : ToIn w X l (some ⟨g, o, none⟩) := fun j hj =>
  ⟨g, o, ⟨rfl, hX⟩, hc _ _ (cellsTo_at l j hj).1, by have := hc _ _ (cellsTo_at l j hj).2; rwa [← Nat.add_assoc] at this⟩
theorem AltIn.size {l : List (ByteArray × Int)} {A : Option Addr} (h : AltIn w X l A) : ∀ a ∈ l, a.1.size ≤ 140737488351232 := fun a ha => by
  obtain ⟨j, hj, rfl⟩ := List.mem_iff_getElem.1 ha
  obtain ⟨_, _, _, _, _, hs⟩ := h j hj
  exact hs
/-- The block of a row that the call owns. -/
theorem own_curN {base g : Nat} {e : TypeId} {size n c : Nat} {xs : List Value} (h : w.ownsRow base e size (.slice (some ⟨g, 0, none⟩) n c) n xs) : ∃ cur, n ≤ c ∧ Lies w g e cur ∧ n * size ≤ cur.size ∧ cur.toList.take (n * size) = xs ∧ base ≤ g := by
  rcases h.2 with ⟨h1, _⟩ | ⟨g', cap, cur, h1, h2, h3, h4, h5, h6, h7⟩
  · cases h1
  · injection h1 with h1 _ h8
    injection h1 with h1
    injection h1 with h1
    subst h1 h8
    exact ⟨cur, h4, h3, Nat.le_trans (Nat.mul_le_mul_right size h4) (by omega), h7, h2⟩
end
theorem own_sliceN {w : World} {base : Nat} {e : TypeId} {size : Nat} {v : Value} {n : Nat} {xs : List Value} (h : w.ownsRow base e size v n xs) (hv : v ≠ .slice none 0 0) : ∃ g c, v = .slice (some ⟨g, 0, none⟩) n c := by
  rcases h.2 with ⟨h1, _⟩ | ⟨g, cap, cur, h1, _⟩
  · exact absurd h1 hv
  · exact ⟨g, cap, h1⟩
set_option maxHeartbeats 2000000 in
/-- slices.Clone of alternatives that are not nil. -/
theorem cloneA_any (l : List (ByteArray × Int)) (ad : Addr) (m c : Nat) (w : World) (hm : m = l.length) (hm2 : m ≤ 1000000000) (hc : ∀ j u, (cellsAl l)[j]? = some u → w.cell? (ad.add j) = some u) :
    Calls Try.prog 41 #[.slice (some ad) m c] w fun e w' => ∃ g' c' cs, e = .returned (.slice (some ⟨g', 0, none⟩) m c') ∧ m ≤ c' ∧ w.heap.size ≤ g' ∧ Lies w' g' 67 cs ∧ m * 2 ≤ cs.size ∧ cs.toList.take (m * 2) = cellsAl l ∧ Below w.heap.size w w' := by
  have hxl : (cellsAl l).length = m * 2 := by rw [cellsAl_len, hm]
  have hcb : ∀ j u, (cellsAl l)[j]? = some u → (w.alloc (.cells #[] 67)).cell? (ad.add j) = some u := fun j u hu => by
    have h1 := hc j u hu
    rw [World.cell?_alloc_lt _ _ _ (World.block_lt_of_cell? w _ h1)]
    exact h1
  obtain ⟨i0, hi, hz0, hz1, hz2⟩ := info_partsN infoAr
  have hown0 : (w.alloc (.cells #[] 67)).ownsRow w.heap.size 67 2 (.slice (some ⟨w.heap.size, 0, none⟩) 0 0) 0 [] := World.ownsRow_made w #[] 0 (Nat.le_refl _) (by simp [maxLen]) rfl
  have hb0 : Below w.heap.size w (w.alloc (.cells #[] 67)) := (Below.refl _ w).alloc (Nat.le_refl _) _
  have heq : ∀ W, (binOp .eql 40 (.slice (some ad) m c) (.slice none 0 0)).run Try.prog W = .ok (.bool false) W := fun W => by kernel_rfl
  clear hm hc
  go_enter Try.func41, Try.ntmps41
  go_wp2_with (at_builtin; refine wpList_append_own _ rfl (.tmp 5) (.tmp 6) 40 rfl w.heap.size 67 i0 (.agg #[.string ⟨#[]⟩, .int .i64 0]) 2 24 Try.underlying40 hi hz0 hz1 hz2 rfl (by decide) _ _ _ rfl hown0 ad m c (cellsAl l) rfl hxl hcb (cellsAl_one l) ?c3 ?c4 ?c5 ?_)
  case c3 => unfold maxLen; omega
  case c4 => omega
  case c5 => simp
  intro v1 w1 hown1 hg1 hv1
  obtain ⟨g1, c1, rfl⟩ := own_sliceN hown1 hv1
  try simp only [Nat.zero_add, List.nil_append] at hown1
  have hb1 : Below w.heap.size w w1 := hb0.grown hg1 (by simp) (fun k hk => (hown0.lt k hk).1)
  clear hown0 hb0 hg1 hi hz0 hz1 hz2 hcb hv1
  have HO := Lib.hid hown1
  have HB := Lib.hid hb1
  clear hown1 hb1
  go_wp2_with fail
  go_ret
  obtain ⟨cur, h1, h2, h3, h4, h5⟩ := own_curN HO.out
  exact ⟨g1, c1, cur, rfl, h1, h5, h2, h3, h4, HB.out⟩
theorem lies_same {w : World} {g i : Nat} {t : TypeId} {cs : Array Value} {u : Value} (h : Lies w g t cs) (hu : cs[i]? = some u) : Lies (w.setCell ⟨g, i, none⟩ u) g t cs := by
  have h1 := h.put i u
  have h2 : cs.setIfInBounds i u = cs := by
    apply Array.ext
    · simp
    · intro j h3 h4
      rw [Array.getElem_setIfInBounds]
      split
      · rename_i e
        subst e
        rw [Array.getElem?_eq_getElem h4] at hu
        exact (Option.some.inj hu).symm
      · rfl
  rwa [h2] at h1
set_option maxHeartbeats 4000000 in
theorem copiedAlts_any (l : List (ByteArray × Int)) (A : Option Addr) (m c : Nat) (w : World) (hm : m = l.length) (hm2 : m ≤ 1000000000) (hA : AltIn w AnyB l A) :
    Calls Try.prog 39 #[.slice A m c] w fun e w' => ∃ A' c', e = .returned (.slice A' m (capN m c')) ∧ AltIn w' (fun g => w.heap.size ≤ g) l A' ∧ Below w.heap.size w w' := by
  cases A with
  | none =>
    have hl : l = [] := by
      cases l with
      | nil => rfl
      | cons a r => obtain ⟨_, _, ⟨e, _⟩, _⟩ := hA 0 (by simp); cases e
    subst hl
    subst hm
    have heq : ∀ W, (binOp .eql 40 (.slice none 0 c) (.slice none 0 0)).run Try.prog W = .ok (.bool true) W := fun W => by kernel_rfl
    have HC : Calls Try.prog 41 #[.slice none 0 c] w fun e w' => e = .returned (.slice none 0 0) ∧ w = w' := by
      go_enter Try.func41, Try.ntmps41
      go_wp2_with fail
      go_ret
      exact ⟨rfl, rfl⟩
    have HC := Lib.hid HC
    clear heq
    go_enter Try.func39, Try.ntmps39
    go_wp2_with fail
    refine HC.out.mono ?_
    rintro e w2 ⟨rfl, rfl⟩
    go_wp2_with fail
    go_loopw [9] (fun y wr => y = .int .i64 0 ∧ wr = w) (fun _ _ => 0)
    case atStart => exact ⟨rfl, rfl⟩
    case round =>
      obtain ⟨rfl, rfl⟩ := hrel
      go_wp2_with fail
      go_ret
      exact ⟨none, 0, rfl, AltIn.nil, Below.refl _ _⟩
  | some ad =>
    have hcA : ∀ j u, (cellsAl l)[j]? = some u → w.cell? (ad.add j) = some u := fun j u hu => by
      have hl : 0 < l.length := by
        cases l with
        | nil => simp [cellsAl] at hu
        | cons a r => simp
      obtain ⟨g, o, ⟨e, _⟩, _⟩ := hA 0 hl
      cases e
      rw [nadd]
      exact hA.cells j u hu
    have hsz := hA.size
    have HC := Lib.hid (cloneA_any l ad m c w hm hm2 hcA)
    have HM := Lib.hid hm
    clear hA hcA hm
    go_enter Try.func39, Try.ntmps39
    go_wp2_with fail
    refine HC.out.mono ?_
    rintro e w2 ⟨g', c', cs, rfl, hmc, hgb, hL, hcs, htk, hb2⟩
    clear HC
    have hcell : Hid (∀ j u, (cellsAl l)[j]? = some u → cs[j]? = some u) := Lib.hid fun j u hu => by
      rw [← htk] at hu
      have hj : j < m * 2 := by
        rcases Nat.lt_or_ge j (m * 2) with h | h
        · exact h
        · rw [List.getElem?_eq_none (by simp; omega)] at hu; cases hu
      rw [List.getElem?_take_of_lt hj] at hu
      simpa using hu
    have HL := Lib.hid hL
    have HB2 := Lib.hid hb2
    have hsz2 := hb2.size
    have hg2 := hL.lt
    clear htk hL hb2
    go_wp2_with fail
    go_loopw [9] (fun y wr => ∃ i : Nat, i ≤ m ∧ y = .int .i64 i ∧ Hid (Lies wr g' 67 cs) ∧ Hid (Below w.heap.size w wr)) (fun y _ => m - (intOf y).toNat)
    case atStart => exact ⟨0, Nat.zero_le _, rfl, HL, HB2⟩
    case round =>
      obtain ⟨i, hi, rfl, hLr, hbr⟩ := hrel
      by_cases hlt : i < m
      · have hil : i < l.length := by have := HM.out; omega
        have h0 := hcell.out _ _ (cellsAl_at l i hil).1
        have h1 := hcell.out _ _ (cellsAl_at l i hil).2
        have d0 := (hLr.out.cell (i * 2)).trans h0
        have d1 := (hLr.out.cell (i * 2 + 1)).trans h1
        have hsn := hsz _ (List.getElem_mem hil)
        obtain ⟨an, han⟩ : ∃ an, an = (l[i]'hil).1 := ⟨_, rfl⟩
        obtain ⟨aN, haN⟩ : ∃ aN, aN = (l[i]'hil).2 := ⟨_, rfl⟩
        rw [← han] at d0 hsn h0
        rw [← haN] at d1 h1
        have H0 := Lib.hid h0
        have hb1 : Below wr.heap.size wr (wr.alloc (.cells #[.string an, .int .i64 aN] 67)) := (Below.refl _ wr).alloc (Nat.le_refl _) _
        have HB1 := Lib.hid hb1
        have HS := Lib.hid (strClone_any an (wr.alloc (.cells #[.string an, .int .i64 aN] 67)) (by omega))
        have hglt := hLr.out.lt
        clear han haN h0 h1 hb1
        go_wp2_with fail
        refine HS.out.mono ?_
        rintro e w3 ⟨rfl, hb3⟩
        have hL3 := (hLr.out.below HB1.out hglt).below hb3 (by simp; omega)
        have e0 := hL3.cell (i * 2)
        rw [H0.out] at e0
        have e1 := hL3.frozen (i * 2)
        have HL3 := Lib.hid hL3
        have HB3 := Lib.hid (hbr.out.trans ((HB1.out.trans (hb3.mono HB1.out.size)).mono hbr.out.size))
        clear hL3 hb3
        go_wp2_with fail
        go_roundw
        case rel =>
          refine ⟨i + 1, by omega, by go_num, Lib.hid (lies_same HL3.out H0.out), Lib.hid (HB3.out.setCell (p := ⟨g', i * 2, none⟩) hgb _)⟩
        case measure => simp [intOf]; omega
      · go_wp2_with fail
        go_ret
        refine ⟨some ⟨g', 0, none⟩, c', by rw [capN_of hmc]; rfl, AltIn.of hgb (fun j u hu => ?_) hsz, hbr.out⟩
        rw [Nat.zero_add, hLr.out.cell j]
        exact hcell.out j u hu
end Lx
end Go.Proofs.Ytceblpjlklogpaa
namespace Go.Proofs.Ytceblpjlklogpaa
open Go Go.RowKit
namespace Lx
set_option maxRecDepth 100000
/-- The ports of all nodes. -/
def portsOf : List Nd → List (Int × Int)
  | [] => []
  | x :: r => x.to ++ portsOf r
theorem portsOf_snoc (l : List Nd) (x : Nd) : portsOf (l ++ [x]) = portsOf l ++ x.to := by
  induction l with
  | nil => simp [portsOf]
  | cons a r ih => simp only [List.cons_append, portsOf, ih, List.append_assoc]
theorem portsOf_take (l : List Nd) (i : Nat) (h : i < l.length) : portsOf (l.take (i + 1)) = portsOf (l.take i) ++ (ndAt l i).to := by
  rw [List.take_succ_eq_append_getElem h, portsOf_snoc, ndAt_lt h]
theorem portsOf_drop (l : List Nd) (i : Nat) (h : i < l.length) : portsOf (l.drop i) = (ndAt l i).to ++ portsOf (l.drop (i + 1)) := by
  rw [List.drop_eq_getElem_cons h, portsOf, ndAt_lt h]
theorem portsOf_le (l : List Nd) (K : Nat) (h : ∀ i, i < l.length → (ndAt l i).to.length ≤ K) : ∀ i, i ≤ l.length → (portsOf (l.take i)).length ≤ i * K
  | 0, _ => by simp [portsOf]
  | i + 1, hi => by
    have h1 := portsOf_le l K h i (by omega)
    have h2 := h i (by omega)
    rw [portsOf_take l i (by omega), List.length_append, Nat.succ_mul]
    omega
theorem cellsTo_app (l m : List (Int × Int)) : cellsTo (l ++ m) = cellsTo l ++ cellsTo m := by
  induction l with
  | nil => rfl
  | cons a r ih => simp only [List.cons_append, cellsTo, ih]
theorem run_append_noneN {P : Program} {t e ty : TypeId} {i : TypeInfo} (ht : P.underlying t = some (.slice e)) (hi : P.info? e = some i) (g n cap k : Nat) (hc : n ≤ cap) (w : World) :
    (Builtin.append_ #[t, t] ty #[.slice (some ⟨g, 0, none⟩) n cap, .slice none 0 k]).run P w = .ok (.slice (some ⟨g, 0, none⟩) n cap) w := by
  simp [Builtin.append_, run_underlying ht, sizeOf, typeInfo, hi, Builtin.lenOf, Builtin.firstCells, loadCells, storeCells, hc]
theorem grownN_refl (w : World) (row : Option Nat) : w.grownBy w row := ⟨rfl, rfl, rfl, Nat.le_refl _, fun _ _ _ => rfl⟩
/-- A node's ports appended to a row of the call's own, nil or not. -/
theorem wp_append_ports {o : Oper} {a : Act} {w : World} {K : Act → World → Prop} {Q : Exit → Act → World → Prop} (s x : Operand)
    (ho : o.op = .call { callee := .builtin .append, args := #[s, x], argTypes := #[41, 41] })
    (base : Nat) (ys zs : List (Int × Int)) (gs n cs : Nat) (hn : n = ys.length) (hs : a.eval s = .slice (some ⟨gs, 0, none⟩) n cs) (hown : w.ownsRow base 26 2 (.slice (some ⟨gs, 0, none⟩) n cs) n (cellsTo ys))
    (B : Option Addr) (m c : Nat) (hm : m = zs.length) (hx : a.eval x = .slice B m c) (X : Nat → Prop) (hz : ToIn w X zs B) (hl : n + m ≤ 100000000000) (hbase : base ≤ w.heap.size)
    (h : ∀ g c' w', w'.ownsRow base 26 2 (.slice (some ⟨g, 0, none⟩) (n + m) c') (n + m) (cellsTo (ys ++ zs)) → w.grownBy w' (Value.slice (some ⟨gs, 0, none⟩) n cs).ownBlock → K (a.put o.dst (.slice (some ⟨g, 0, none⟩) (n + m) c')) w') : o.wp Try.prog a w K Q := by
  obtain ⟨i0, hi0, hz0, hz1, hz2⟩ := info_partsN infoPo
  cases B with
  | none =>
    have hzn : zs = [] := by
      cases zs with
      | nil => rfl
      | cons z r => obtain ⟨_, _, ⟨e, _⟩, _⟩ := hz 0 (by simp); cases e
    subst hzn
    subst hm
    obtain ⟨cur, hcap, _⟩ := own_curN hown
    have hr := run_append_noneN (P := Try.prog) (ty := o.type) Try.underlying41 hi0 gs n cs c hcap w
    unfold Oper.wp execOp
    simp only [ho, resolve, invoke, builtin, Sem.run_bind, Sem.run_pure, Result.andThen_ok, List.map_toArray, List.map_cons, List.map_nil, hs, hx, List.length_nil, hr]
    exact h gs cs w (by rw [List.append_nil]; exact hown) (grownN_refl _ _)
  | some ad =>
    have hcz : ∀ j u, (cellsTo zs)[j]? = some u → w.cell? (ad.add j) = some u := fun j u hu => by
      have hl : 0 < zs.length := by
        cases zs with
        | nil => simp [cellsTo] at hu
        | cons a r => simp
      obtain ⟨g, o, ⟨e, _⟩, _⟩ := hz 0 hl
      cases e
      rw [nadd]
      exact hz.cells j u hu
    refine wp_append_own w s x 41 ho base 26 i0 (.agg #[.int .i64 0, .int .i64 0]) 2 16 Try.underlying41 hi0 hz0 hz1 hz2 rfl (by decide) _ _ _ hs hown ad m c (cellsTo zs) hx (by rw [cellsTo_len, hm]) hcz (cellsTo_one zs) (by simp only [maxLen]; omega) (by omega) hbase ?_
    intro v' w' ho' hg hv
    obtain ⟨g', c', rfl⟩ := own_sliceN ho' (fun e => by cases (hv.1 e).1)
    rw [← cellsTo_app] at ho'
    exact h g' c' w' ho' hg
set_option maxHeartbeats 4000000 in
theorem allPorts_any (l : List Nd) (A : Option Addr) (m c : Nat) (w : World) (hm : m = l.length) (hm2 : m ≤ 100000) (hk : ∀ i, i < l.length → (ndAt l i).to.length ≤ 100000) (hN : NdsIn w AnyB l A) :
    Calls Try.prog 37 #[.slice A m c] w fun e w' => ∃ (g' n c' : Nat) (ps : Array Value), e = .returned (.slice (some ⟨g', 0, none⟩) n c') ∧ n = (portsOf l).length ∧ n ≤ c' ∧ w.heap.size ≤ g' ∧ Lies w' g' 26 ps ∧ (∀ (j : Nat) (u : Value), (cellsTo (portsOf l))[j]? = some u → ps[j]? = some u) ∧ Below w.heap.size w w' := by
  have HN := Lib.hid hN
  have HM := Lib.hid hm
  have HP := Lib.hid (portsOf_le l 100000 hk)
  obtain ⟨i0, hi0, hz0, hz1, hz2⟩ := info_partsN infoPo
  have hmk : ∀ (n : Nat) (W : World), n ≤ 10000000000 → (Instr.makeSlice 41 (.int .i64 0) (.int .i64 n)).run Try.prog W = .ok (.slice (some ⟨W.heap.size, 0, none⟩) 0 n) (W.alloc (.cells (madeCells #[.int .i64 0, .int .i64 0] (n * 2)) 26)) := fun n W hn => by
    have h := run_make (P := Try.prog) W 41 26 i0 (.agg #[.int .i64 0, .int .i64 0]) Try.underlying41 hi0 hz0 .i64 .i64 0 (n : Int) (by omega) (by omega) (by rw [hz2]; omega) (by omega)
    rw [hz1, show (Value.agg #[.int .i64 0, .int .i64 0]).cells = #[.int .i64 0, .int .i64 0] from rfl] at h
    simpa using h
  have HK := Lib.hid hk
  clear hN hm hk
  go_enter Try.func37, Try.ntmps37
  go_wp2_with fail
  go_loopw [3, 11] (fun v y wr => ∃ i : Nat, i ≤ m ∧ y = .int .i64 i ∧ v = .int .i64 (portsOf (l.take i)).length ∧ Below w.heap.size w wr) (fun _ y _ => m - (intOf y).toNat)
  case atStart => exact ⟨0, Nat.zero_le _, rfl, by simp [portsOf], Below.refl _ _⟩
  case round =>
    obtain ⟨i, hi, rfl, rfl, hbr⟩ := hrel
    have hpi := HP.out i (by have := HM.out; omega)
    by_cases hlt : i < m
    · have hil : i < l.length := by have := HM.out; omega
      obtain ⟨g, o, x, B, bb, C, cc, hx, rfl, _, ⟨x0, x1, x2, x3, x4, x5⟩, hI⟩ := NdsIn.get (HN.out.below hbr (Nat.le_refl _)) i hil
      have hU := congrArg List.length (portsOf_take l i hil)
      rw [List.length_append, ← hx] at hU
      have hxl := HK.out i hil
      rw [← hx] at hxl
      obtain ⟨s1, hs1⟩ : ∃ u, u = (portsOf (l.take i)).length := ⟨_, rfl⟩
      rw [← hs1] at hU hpi ⊢
      have HU := Lib.hid hU
      have hb1 : Below wr.heap.size wr (wr.alloc (.cells #[.int .i64 x.kind, .int .i64 x.level, .int .i64 x.n, .string x.name, .slice B x.alts.length (capN x.alts.length bb), .slice C x.to.length (capN x.to.length cc)] 43)) := (Below.refl _ wr).alloc (Nat.le_refl _) _
      have HB1 := Lib.hid (hbr.trans (hb1.mono hbr.size))
      clear hx hI hU hs1 hb1
      go_wp2_with fail
      go_roundw
      case rel =>
        go_light
        exact ⟨i + 1, by omega, by go_num, by rw [HU.out]; go_num, HB1.out⟩
      case measure => simp [intOf]; omega
    · have him : i = m := by omega
      subst him
      have hpl : (portsOf l).length ≤ i * 100000 := by
        rw [List.take_of_length_le (by have := HM.out; omega)] at hpi
        exact hpi
      rw [List.take_of_length_le (by have := HM.out; omega)]
      obtain ⟨N, hN9⟩ : ∃ N, N = (portsOf l).length := ⟨_, rfl⟩
      rw [← hN9] at hpl ⊢
      have HNN := Lib.hid hN9
      have hNb : N ≤ 10000000000 := by omega
      have hmk2 : ∀ W : World, (Instr.makeSlice 41 (.int .i64 0) (.int .i64 N)).run Try.prog W = .ok (.slice (some ⟨W.heap.size, 0, none⟩) 0 N) (W.alloc (.cells (madeCells #[.int .i64 0, .int .i64 0] (N * 2)) 26)) := fun W => hmk N W hNb
      obtain ⟨M, hM⟩ : ∃ M, M = madeCells #[.int .i64 0, .int .i64 0] (N * 2) := ⟨_, rfl⟩
      have hMs : M.size = N * 2 := by rw [hM, size_madeCells]
      rw [← hM] at hmk2
      clear hmk hM hN9 hpi hlt
      have hr0 : (wr.alloc (.cells M 26)).ownsRow w.heap.size 26 2 (.slice (some ⟨wr.heap.size, 0, none⟩) 0 N) 0 (cellsTo []) := World.ownsRow_made wr M N hbr.size (by simp only [maxLen]; omega) hMs
      have hb0 : Below w.heap.size w (wr.alloc (.cells M 26)) := hbr.alloc hbr.size _
      have HR0 := Lib.hid hr0
      have HB0 := Lib.hid hb0
      clear hr0 hb0
      go_wp2_with fail
      go_loopw [6, 25] (fun v y wr => ∃ (j gq n cq : Nat), j ≤ i ∧ y = .int .i64 j ∧ v = .slice (some ⟨gq, 0, none⟩) n cq ∧ n ≤ 10000000000 ∧ Hid (n = (portsOf (l.take j)).length ∧ wr.ownsRow w.heap.size 26 2 (.slice (some ⟨gq, 0, none⟩) n cq) n (cellsTo (portsOf (l.take j))) ∧ Below w.heap.size w wr)) (fun _ y _ => i - (intOf y).toNat)
      case atStart => exact ⟨0, wr.heap.size, 0, N, Nat.zero_le _, rfl, rfl, by omega, Lib.hid ⟨by simp [portsOf], by simpa [portsOf] using HR0.out, HB0.out⟩⟩
      case round =>
        clear hmk2 HR0 HB0
        obtain ⟨j, gq, n, cq, hj, rfl, rfl, hn9, hH⟩ := hrel
        rename World => wx
        have hbx := hH.out.2.2
        by_cases hlt : j < i
        · have hjl : j < l.length := by have := HM.out; omega
          obtain ⟨g, o, x, B, bb, C, cc, hx, rfl, _, ⟨x0, x1, x2, x3, x4, x5⟩, hI⟩ := NdsIn.get (HN.out.below hbx (Nat.le_refl _)) j hjl
          have hU := portsOf_take l j hjl
          have hpj := HP.out (j + 1) (by omega)
          rw [hU, List.length_append] at hpj
          rw [← hx] at hU hpj
          have HU := Lib.hid hU
          have hn1 := hH.out.1
          have hxl : n + x.to.length ≤ 10000000000 := by omega
          have hb1 : Below wx.heap.size wx (wx.alloc (.cells #[.int .i64 x.kind, .int .i64 x.level, .int .i64 x.n, .string x.name, .slice B x.alts.length (capN x.alts.length bb), .slice C x.to.length (capN x.to.length cc)] 43)) := (Below.refl _ wx).alloc (Nat.le_refl _) _
          have HT := Lib.hid (hI.2.2.below hb1 (Nat.le_refl _))
          have HR := Lib.hid (hH.out.2.1.alloc (.cells #[.int .i64 x.kind, .int .i64 x.level, .int .i64 x.n, .string x.name, .slice B x.alts.length (capN x.alts.length bb), .slice C x.to.length (capN x.to.length cc)] 43))
          have HB1 := Lib.hid (hbx.trans (hb1.mono hbx.size))
          have hN1 := Lib.hid hn1
          have hxs := HB1.out.size
          clear hx hI hU hb1 hbx hH hpj hn1
          obtain ⟨mt, hmt⟩ : ∃ mt, mt = x.to.length := ⟨_, rfl⟩
          have HMT := Lib.hid hmt
          rw [← hmt] at x5 hxl HR hxs HB1 HT
          clear hmt
          go_wp2_with (at_builtin; refine wpList_plain rfl fun _ hK => wp_append_ports (.tmp 29) (.tmp 31) rfl w.heap.size (portsOf (l.take j)) x.to gq n cq hN1.out rfl HR.out C mt (capN mt cc) HMT.out rfl AnyB HT.out (by omega) hxs (fun g2 c2 w2 ho2 hg2 => hK _ _ ?_))
          have hb3 := HB1.out.grown hg2 hxs (fun q hq => (HR.out.lt q hq).1)
          have HO := Lib.hid ho2
          have HB3 := Lib.hid hb3
          clear ho2 hg2 hb3 HR HB1 HT
          go_wp2_with fail
          go_roundw
          case rel =>
            go_light
            exact ⟨j + 1, g2, n + mt, c2, by omega, by go_num, rfl, by omega, Lib.hid ⟨by rw [HU.out, List.length_append, ← hN1.out, HMT.out], by rw [HU.out]; exact HO.out, HB3.out⟩⟩
          case measure => simp [intOf]; omega
        · have hji : j = i := by omega
          subst hji
          go_wp2_with fail
          go_ret
          have h9 : l.take j = l := List.take_of_length_le (by have := HM.out; omega)
          rw [h9] at hH
          obtain ⟨hn1, ho, hb⟩ := hH.out
          obtain ⟨cur, h1, h2, h3, h4, h5⟩ := own_curN ho
          refine ⟨gq, n, cq, cur, rfl, hn1, h1, h5, h2, (fun i u hu => ?_), hb⟩
          rw [← h4] at hu
          have hi9 : i < n * 2 := by
            rcases Nat.lt_or_ge i (n * 2) with h | h
            · exact h
            · rw [List.getElem?_eq_none (by simp; omega)] at hu; cases hu
          rw [List.getElem?_take_of_lt hi9] at hu
          simpa using hu
end Lx
end Go.Proofs.Ytceblpjlklogpaa
namespace Go.Proofs.Ytceblpjlklogpaa
open Go Go.RowKit
namespace Lx
set_option maxRecDepth 100000
set_option maxHeartbeats 2000000 in
/-- slices.Clone of nodes that are not nil. -/
theorem cloneN_any (_l : List Nd) (ad : Addr) (m c : Nat) (xs : List Value) (w : World) (hxl : xs.length = m * 6) (hm2 : m ≤ 1000000000) (hc : ∀ j u, xs[j]? = some u → w.cell? (ad.add j) = some u) (h1 : ∀ u ∈ xs, u.oneCell' = true) :
    Calls Try.prog 36 #[.slice (some ad) m c] w fun e w' => ∃ g' c', e = .returned (.slice (some ⟨g', 0, none⟩) m c') ∧ w'.ownsRow w.heap.size 43 6 (.slice (some ⟨g', 0, none⟩) m c') m xs ∧ Below w.heap.size w w' := by
  have hcb : ∀ j u, xs[j]? = some u → (w.alloc (.cells #[] 43)).cell? (ad.add j) = some u := fun j u hu => by
    have h1 := hc j u hu
    rw [World.cell?_alloc_lt _ _ _ (World.block_lt_of_cell? w _ h1)]
    exact h1
  obtain ⟨i0, hi, hz0, hz1, hz2⟩ := info_partsN infoNd
  have hown0 : (w.alloc (.cells #[] 43)).ownsRow w.heap.size 43 6 (.slice (some ⟨w.heap.size, 0, none⟩) 0 0) 0 [] := World.ownsRow_made w #[] 0 (Nat.le_refl _) (by simp [maxLen]) rfl
  have hb0 : Below w.heap.size w (w.alloc (.cells #[] 43)) := (Below.refl _ w).alloc (Nat.le_refl _) _
  have heq : ∀ W, (binOp .eql 22 (.slice (some ad) m c) (.slice none 0 0)).run Try.prog W = .ok (.bool false) W := fun W => by kernel_rfl
  have H1 := Lib.hid h1
  clear hc h1
  go_enter Try.func36, Try.ntmps36
  go_wp2_with (at_builtin; refine wpList_append_own _ rfl (.tmp 5) (.tmp 6) 22 rfl w.heap.size 43 i0 (.agg #[.int .i64 0, .int .i64 0, .int .i64 0, .string ⟨#[]⟩, .slice none 0 0, .slice none 0 0]) 6 88 Try.underlying22 hi hz0 hz1 hz2 rfl (by decide) _ _ _ rfl hown0 ad m c xs rfl hxl hcb H1.out ?c3 ?c4 ?c5 ?_)
  case c3 => unfold maxLen; omega
  case c4 => omega
  case c5 => simp
  intro v1 w1 hown1 hg1 hv1
  obtain ⟨g1, c1, rfl⟩ := own_sliceN hown1 hv1
  try simp only [Nat.zero_add, List.nil_append] at hown1
  have hb1 : Below w.heap.size w w1 := hb0.grown hg1 (by simp) (fun k hk => (hown0.lt k hk).1)
  clear hown0 hb0 hg1 hi hz0 hz1 hz2 hcb hv1
  have HO := Lib.hid hown1
  have HB := Lib.hid hb1
  clear hown1 hb1
  go_wp2_with fail
  go_ret
  exact ⟨g1, c1, rfl, HO.out, HB.out⟩
/-- Six cells stored, one behind the other. -/
def put6 (w : World) (G o : Nat) (a b c d e f : Value) : World := (((((w.setCell ⟨G, o, none⟩ a).setCell ⟨G, o + 1, none⟩ b).setCell ⟨G, o + 2, none⟩ c).setCell ⟨G, o + 3, none⟩ d).setCell ⟨G, o + 4, none⟩ e).setCell ⟨G, o + 5, none⟩ f
theorem put6_lies {w : World} {G o : Nat} {t : TypeId} {cs : Array Value} (h : Lies w G t cs) (ho : o + 6 ≤ cs.size) (a b c d e f : Value) :
    ∃ cs', Lies (put6 w G o a b c d e f) G t cs' ∧ cs'.size = cs.size ∧ (∀ q, q < 6 → cs'[o + q]? = [a, b, c, d, e, f][q]?) ∧ ∀ k, (k < o ∨ o + 6 ≤ k) → cs'[k]? = cs[k]? := by
  refine ⟨_, (((((h.put o a).put (o + 1) b).put (o + 2) c).put (o + 3) d).put (o + 4) e).put (o + 5) f, by simp, fun q hq => ?_, fun k hk => ?_⟩
  · rcases (by omega : q = 0 ∨ q = 1 ∨ q = 2 ∨ q = 3 ∨ q = 4 ∨ q = 5) with rfl | rfl | rfl | rfl | rfl | rfl <;> simp [Array.getElem?_setIfInBounds] <;> omega
  · simp only [Array.getElem?_setIfInBounds]
    repeat rw [if_neg (by omega)]
theorem put6_below {B : Nat} {w0 w : World} {G o : Nat} (h : Below B w0 w) (hG : B ≤ G) (a b c d e f : Value) : Below B w0 (put6 w G o a b c d e f) :=
  (((((h.setCell (p := ⟨G, o, none⟩) hG a).setCell (p := ⟨G, o + 1, none⟩) hG b).setCell (p := ⟨G, o + 2, none⟩) hG c).setCell (p := ⟨G, o + 3, none⟩) hG d).setCell (p := ⟨G, o + 4, none⟩) hG e).setCell (p := ⟨G, o + 5, none⟩) hG f
theorem put6_keep {w : World} {X : Nat → Prop} {G o : Nat} (hX : ¬ X G) (a b c d e f : Value) : ∀ g j, X g → g < w.heap.size → (put6 w G o a b c d e f).cell? ⟨g, j, none⟩ = w.cell? ⟨g, j, none⟩ ∧ X g := fun g j hg _ => by
  have hne : g ≠ G := fun e => hX (e ▸ hg)
  refine ⟨?_, hg⟩
  unfold put6
  have h1 : ∀ (V : World) (k : Nat) (u : Value), (V.setCell ⟨G, k, none⟩ u).cell? ⟨g, j, none⟩ = V.cell? ⟨g, j, none⟩ := fun V k u => World.cell?_setCell_other V ⟨G, k, none⟩ ⟨g, j, none⟩ u (fun e => by injection e with e; exact hne e.symm)
  rw [h1, h1, h1, h1, h1, h1]
/-- Block G is a row of nodes of the call's own: of those of which P holds all lies in blocks of X. -/
structure Half (w : World) (X : Nat → Prop) (G m : Nat) (l : List Nd) (k : Nat) (cs : Array Value) : Prop where
  lies : Lies w G 43 cs
  size : m * 6 ≤ cs.size
  new : ∀ j, j < k → ∃ B b C c, (∀ q, q < 6 → cs[j * 6 + q]? = (cellsNd (ndAt l j) B b C c)[q]?) ∧ NdIn w X (ndAt l j) B C
  old : ∀ j, k ≤ j → j < m → ∃ B b C c, (∀ q, q < 6 → cs[j * 6 + q]? = (cellsNd (ndAt l j) B b C c)[q]?) ∧ NdIn w (· ≠ G) (ndAt l j) B C
/-- One more. -/
theorem Half.put {w : World} {X : Nat → Prop} {G m : Nat} {l : List Nd} {k : Nat} {cs : Array Value} (h : Half w X G m l k cs) (hk : k < m) (hX : ¬ X G) {B C : Option Addr} (b c : Nat) (hn : NdIn w X (ndAt l k) B C) :
    ∃ cs', Half (put6 w G (k * 6) (.int .i64 (ndAt l k).kind) (.int .i64 (ndAt l k).level) (.int .i64 (ndAt l k).n) (.string (ndAt l k).name) (.slice B (ndAt l k).alts.length (capN (ndAt l k).alts.length b)) (.slice C (ndAt l k).to.length (capN (ndAt l k).to.length c))) X G m l (k + 1) cs' ∧ cs'.size = cs.size := by
  have hs := h.size
  obtain ⟨cs', h1, h2, h3, h4⟩ := put6_lies h.lies (o := k * 6) (by omega) (.int .i64 (ndAt l k).kind) (.int .i64 (ndAt l k).level) (.int .i64 (ndAt l k).n) (.string (ndAt l k).name) (.slice B (ndAt l k).alts.length (capN (ndAt l k).alts.length b)) (.slice C (ndAt l k).to.length (capN (ndAt l k).to.length c))
  refine ⟨cs', ⟨h1, by omega, fun j hj => ?_, fun j hj hjm => ?_⟩, h2⟩
  · by_cases e : j = k
    · subst e
      exact ⟨B, b, C, c, fun q hq => h3 q hq, hn.keep (put6_keep hX _ _ _ _ _ _)⟩
    · obtain ⟨B', b', C', c', h5, h6⟩ := h.new j (by omega)
      exact ⟨B', b', C', c', fun q hq => by rw [h4 _ (by omega)]; exact h5 q hq, h6.keep (put6_keep hX _ _ _ _ _ _)⟩
  · obtain ⟨B', b', C', c', h5, h6⟩ := h.old j (by omega) hjm
    exact ⟨B', b', C', c', fun q hq => by rw [h4 _ (by omega)]; exact h5 q hq, h6.keep (put6_keep (fun e => e rfl) _ _ _ _ _ _)⟩
theorem Half.below {w w' : World} {X : Nat → Prop} {G m : Nat} {l : List Nd} {k : Nat} {cs : Array Value} (h : Half w X G m l k cs) {D : Nat} (hb : Below D w w') (hD : w.heap.size ≤ D) : Half w' X G m l k cs := by
  refine ⟨h.lies.below hb (by have := h.lies.lt; omega), h.size, fun j hj => ?_, fun j hj hjm => ?_⟩
  · obtain ⟨B, b, C, c, h5, h6⟩ := h.new j hj
    exact ⟨B, b, C, c, h5, h6.below hb hD⟩
  · obtain ⟨B, b, C, c, h5, h6⟩ := h.old j hj hjm
    exact ⟨B, b, C, c, h5, h6.below hb hD⟩
/-- All are there. -/
theorem Half.row {w : World} {X Y : Nat → Prop} {G m : Nat} {l : List Nd} {cs : Array Value} (h : Half w X G m l m cs) (hm : m = l.length) (hG : Y G) (hXY : ∀ g, X g → g < w.heap.size → Y g) : NdsIn w Y l (some ⟨G, 0, none⟩) := fun i hi => by
  obtain ⟨B, b, C, c, h5, h6⟩ := h.new i (by omega)
  rw [ndAt_lt hi] at h5 h6
  have hq : ∀ q, q < 6 → w.cell? ⟨G, 0 + i * 6 + q, none⟩ = (cellsNd (l[i]'hi) B b C c)[q]? := fun q hq => by
    rw [Nat.zero_add, h.lies.cell]
    exact h5 q hq
  exact ⟨G, 0, B, b, C, c, ⟨rfl, hG⟩, ⟨hq 0 (by omega), hq 1 (by omega), hq 2 (by omega), hq 3 (by omega), hq 4 (by omega), hq 5 (by omega)⟩, h6.keep (keep_wide hXY)⟩
end Lx
end Go.Proofs.Ytceblpjlklogpaa
namespace Go.Proofs.Ytceblpjlklogpaa
namespace Lx
set_option maxRecDepth 100000
theorem ndAt_set {ns : List Nd} {i j : Nat} {x : Nd} : ndAt (ns.set i x) j = if i = j ∧ j < ns.length then x else ndAt ns j := by
  by_cases hj : j < ns.length
  · rw [ndAt_lt (by simpa using hj), List.getElem_set]
    by_cases e : i = j
    · simp [e, hj]
    · rw [if_neg e, if_neg (by omega), ndAt_lt hj]
  · rw [ndAt_ge (by simpa using hj), if_neg (by omega), ndAt_ge (by omega)]
theorem ndAt_snoc {ns : List Nd} {j : Nat} {x : Nd} : ndAt (ns ++ [x]) j = if j = ns.length then x else ndAt ns j := by
  rcases Nat.lt_trichotomy j ns.length with h | h | h
  · rw [ndAt_lt (by simp; omega), List.getElem_append_left h, if_neg (by omega), ndAt_lt h]
  · subst h; rw [if_pos rfl, ndAt_lt (by simp), List.getElem_append_right (Nat.le_refl _)]; simp
  · rw [ndAt_ge (by simp; omega), if_neg (by omega), ndAt_ge (by omega)]
theorem ndAt_take {ns : List Nd} {i j : Nat} (h : j < i) : ndAt (ns.take i) j = ndAt ns j := by
  by_cases hj : j < ns.length
  · rw [ndAt_lt (by simp; omega), List.getElem_take, ndAt_lt hj]
  · rw [ndAt_ge (by simp; omega), ndAt_ge (by omega)]
theorem nd_ext {l m : List Nd} (hl : l.length = m.length) (h : ∀ j, j < l.length → ndAt l j = ndAt m j) : l = m := by
  apply List.ext_getElem hl
  intro j h1 h2
  have := h j h1
  rwa [ndAt_lt h1, ndAt_lt h2] at this
theorem used_set : ∀ (ns : List Nd) (i : Nat) (x : Nd), i < ns.length → usedV (ns.set i x) + (if (ndAt ns i).kind = 0 then 0 else 1) = usedV ns + (if x.kind = 0 then 0 else 1)
  | [], i, x, h => by simp at h
  | a :: r, 0, x, _ => by simp only [List.set_cons_zero, usedV, ndAt, List.getD_cons_zero]; omega
  | a :: r, i + 1, x, h => by
    have := used_set r i x (by simpa using h)
    have hn : ndAt (a :: r) (i + 1) = ndAt r i := by simp [ndAt]
    rw [hn, List.set_cons_succ, usedV, usedV]
    omega
theorem used_trim (l : List Nd) : usedV (trimV l) = usedV l := by
  induction l with
  | nil => rfl
  | cons x r ih =>
    rw [trimV]
    cases hq : trimV r with
    | nil =>
      rw [hq] at ih
      simp only [usedV] at ih ⊢
      split
      · simp only [usedV]; omega
      · rename_i h; simp only [usedV, if_neg h]; omega
    | cons y s =>
      rw [hq] at ih
      rw [usedV, ih, usedV]
theorem ndAt_trim (l : List Nd) (j : Nat) (h : j < (trimV l).length) : ndAt (trimV l) j = ndAt l j := by
  rw [(trimV_take l).1] at h ⊢
  simp only [List.length_take] at h
  exact ndAt_take (by omega)
theorem not_trimmed {l : List Nd} {j : Nat} (h : (ndAt l j).kind ≠ 0) : j < (trimV l).length := by
  rcases Nat.lt_or_ge j (trimV l).length with h1 | h1
  · exact h1
  · exact absurd (trimV_rest l j h1) h
theorem node_of {ns : List Nd} {cap : Int} (h : checkV ns cap = true) : ∀ i, i < ns.length → atOk ns i = true := (of_decide_eq_true h).2.2.2.2.2
theorem at_node {ns : List Nd} {i : Nat} (h : atOk ns i = true) : nodeV (ndAt ns i) = true ∧ (ndAt ns i).to.length = (ndAt ns i).ports ∧ (i = 0 ↔ (ndAt ns i).kind = 1) ∧ linkedV ns i = true := by
  simp only [atOk, Bool.and_eq_true, decide_eq_true_eq, beq_iff_eq, decide_eq_decide] at h
  exact h
theorem zero_of {x : Nd} (h : nodeV x = true) (h0 : x.kind = 0) (hp : x.to.length = x.ports) : x = Nd.zero := by
  obtain ⟨k, l, n, s, al, tp⟩ := x
  simp only at h0
  subst h0
  simp only [nodeV, hasNameK, hasNumK, Bool.and_eq_true, Bool.or_eq_true, decide_eq_true_eq, beq_iff_eq, Nd.ports, portsN] at h hp
  obtain ⟨h1, h2, h3, h4, _⟩ := h
  have hl : l = 0 := by omega
  have hn : n = 0 := by rcases h3 with h3 | h3 | h3; exact h3; all_goals omega
  have hs : s = ⟨#[]⟩ := by simpa using h2
  have ha : al = [] := List.eq_nil_of_length_eq_zero (h4.2.2.1 (by omega))
  have ht : tp = [] := List.eq_nil_of_length_eq_zero (by simpa using hp)
  subst hl hn hs ha ht
  rfl
theorem free_zero {ns : List Nd} {cap : Int} (h : checkV ns cap = true) {i : Nat} (h0 : (ndAt ns i).kind = 0) : ndAt ns i = Nd.zero := by
  by_cases hi : i < ns.length
  · obtain ⟨h1, h2, _, _⟩ := at_node (node_of h i hi)
    exact zero_of h1 h0 h2
  · exact ndAt_ge (by omega)
theorem fresh_kind (x : Nd) : (freshV x).kind = x.kind := rfl
theorem set_self {ns : List Nd} {i : Nat} {x : Nd} (h : ndAt ns i = x) : ns.set i x = ns :=
  nd_ext (by simp) fun j hj => by
    rw [ndAt_set]
    split
    · rename_i e; rw [← e.1, h]
    · rfl
theorem trim_check {ns : List Nd} {cap : Int} (h : checkV ns cap = true) : trimV ns = ns := by
  have h1 := of_decide_eq_true h
  exact trimV_last (fun e => by rw [e] at h1; exact absurd h1.2.2.1 (by simp)) h1.2.2.2.2.1
theorem make_err {ns : List Nd} {cap : Int} {x : Nd} (hx : makeable x = true) (hu : ¬ (usedV ns : Int) < cap) : makeV ns cap x = (ns, 0, 121) := by rw [makeV, if_pos hx, if_neg hu]
/-- What is made, where there is room. -/
theorem make_ok {ns : List Nd} {cap : Int} {x : Nd} (hx : makeable x = true) (hu : (usedV ns : Int) < cap) :
    ∃ (ms : List Nd) (i : Nat), makeV ns cap x = (ms, (i : Int), 0) ∧ i < ms.length ∧ ns.length ≤ ms.length ∧ (ndAt ns i).kind = 0 ∧ ndAt ms i = freshV x ∧ (∀ j, j ≠ i → j < ms.length → j < ns.length ∧ ndAt ms j = ndAt ns j) ∧ usedV ms = usedV ns + 1 ∧
      (trimV (ms.set i Nd.zero) = trimV (ns.set i Nd.zero)) ∧ (∀ j, j < i → (ndAt ns j).kind ≠ 0) ∧ i ≤ ns.length := by
  have hk : x.kind ≠ 0 := by
    simp only [makeable, Bool.and_eq_true, decide_eq_true_eq] at hx
    omega
  rw [makeV, if_pos hx, if_pos hu]
  cases hf : freeAt ns with
  | some i =>
    obtain ⟨h1, h2, h3⟩ := freeAt_some hf
    refine ⟨_, i, rfl, by simpa using h1, by simp, h2, by rw [ndAt_set, if_pos ⟨rfl, h1⟩], fun j hj hl => ⟨by simpa using hl, by rw [ndAt_set, if_neg (fun e => hj e.1.symm)]⟩, ?_, by rw [List.set_set], h3, Nat.le_of_lt h1⟩
    have := used_set ns i (freshV x) h1
    rw [if_pos h2, fresh_kind, if_neg hk] at this
    omega
  | none =>
    have h3 := freeAt_none hf
    refine ⟨_, ns.length, rfl, by simp, by simp, by rw [ndAt_ge (Nat.le_refl _)]; rfl, by rw [ndAt_snoc, if_pos rfl], fun j hj hl => ⟨by simp at hl; omega, by rw [ndAt_snoc, if_neg hj]⟩, ?_, ?_, fun j hj => h3 j hj, Nat.le_refl _⟩
    · rw [usedV_snoc, fresh_kind, if_neg hk]
    · rw [List.set_append_right _ _ (Nat.le_refl _), Nat.sub_self, List.set_cons_zero, trimV_zero _ _ rfl, List.set_eq_of_length_le (Nat.le_refl _)]
/-- P12.4: what is made and freed is as it was. -/
theorem back_ok {ns ms : List Nd} {cap : Int} {i : Nat} (h : checkV ns cap = true) (h0 : (ndAt ns i).kind = 0) (hi : i < ms.length) (hk : (ndAt ms i).kind ≠ 0) (ht : trimV (ms.set i Nd.zero) = trimV (ns.set i Nd.zero)) :
    freeV ms i = (ns, 0) := by
  rw [freeV, if_pos ⟨by omega, by omega, by simpa using hk⟩]
  simp only [Int.toNat_natCast]
  rw [ht, set_self (free_zero h h0), trim_check h]
end Lx
end Go.Proofs.Ytceblpjlklogpaa
