/-
  Walk of tree.Bare.
-/
import Derived.Test.YtnljlocogfacfaaDoorRBare
import Derived.StillTailTactics
import Derived.Deep.DeepCutAuto
import Derived.Laws.MakeOwn
import Derived.Laws.Entries
namespace Go.Proofs.YtnljlocogfacfaaDoor
open Go.RowKit
namespace Lx
set_option maxRecDepth 100000
theorem bcell {W w1 : World} (hb : Below W.heap.size W w1) : (∀ b o, b < W.heap.size → w1.cell? ⟨b, o, none⟩ = W.cell? ⟨b, o, none⟩) ∧ (∀ b o, b < W.heap.size → w1.frozen? ⟨b, o, none⟩ = W.frozen? ⟨b, o, none⟩) :=
  ⟨fun b o h => hb.cell (p := ⟨b, o, none⟩) h, fun b o h => hb.frozen (p := ⟨b, o, none⟩) h⟩
theorem run_make_rowT {P : Program} (t e : TypeId) (i : TypeInfo) (z : Value) (ht : P.underlying t = some (.slice e)) (hi : P.info? e = some i) (hz : i.zero = some z)
    (kl kc : IntKind) (n c : Nat) (hnc : n ≤ c) (hbytes : i.bytes * c ≤ 281474976710656) (h63 : c ≤ 9223372036854775807) (w : World) :
    (Instr.makeSlice t (.int kl (n : Int)) (.int kc (c : Int))).run P w = .ok (.slice (some ⟨w.heap.size, 0, none⟩) n c) (w.alloc (.cells (madeCells z.cells (c * i.size)) e)) := by
  have hb : (i.bytes : Int) * (c : Int) ≤ 281474976710656 := by
    have h : ((i.bytes * c : Nat) : Int) ≤ 281474976710656 := by omega
    rwa [Int.natCast_mul] at h
  have hr := run_make (P := P) w t e i z ht hi hz kl kc n c (by omega) (by omega) hb (by omega)
  simp only [Int.toNat_natCast] at hr
  exact hr

/-- Block G is a row of m trees, the first i of which are those of l. -/
def RowB (w : World) (G m : Nat) (l : List Tr) : Prop := ∃ cs, Lies w G 33 cs ∧ cs.size = m * 5 ∧ RowTr w (fun g => G < g) l (cs.toList.take (l.length * 5))
theorem RowB.cell {w : World} {G m : Nat} {l : List Tr} (h : RowB w G m l) (i q : Nat) (hi : i < m) (hq : q < 5) : ∃ u, w.cell? ⟨G, i * 5 + q, none⟩ = some u ∧ w.frozen? ⟨G, i * 5 + q, none⟩ = false := by
  obtain ⟨cs, hL, hs, _⟩ := h
  have hlt : i * 5 + q < cs.size := by omega
  exact ⟨cs[i * 5 + q], (hL.cell _).trans (Array.getElem?_eq_getElem hlt), hL.frozen _⟩
theorem RowB.below {w w' : World} {G m : Nat} {l : List Tr} {B : Nat} (h : RowB w G m l) (hb : Below B w w') (hB : w.heap.size ≤ B) : RowB w' G m l := by
  obtain ⟨cs, hL, hs, hr⟩ := h
  exact ⟨cs, hL.below hb (by have := hL.lt; omega), hs, hr.below hb hB⟩
theorem RowB.lt {w : World} {G m : Nat} {l : List Tr} (h : RowB w G m l) : G < w.heap.size := by obtain ⟨cs, hL, _⟩ := h; exact hL.lt
theorem take_set5 (cs : List Value) (p : Nat) (a b c d e : Value) (h : p + 5 ≤ cs.length) :
    (((((cs.set p a).set (p + 1) b).set (p + 2) c).set (p + 3) d).set (p + 4) e).take (p + 5) = cs.take p ++ [a, b, c, d, e] := by
  apply List.ext_getElem?
  intro j
  by_cases hj : j < p + 5
  · rw [List.getElem?_take_of_lt hj]
    by_cases h0 : j < p
    · rw [List.getElem?_append_left (by simp; omega), List.getElem?_take_of_lt h0]
      simp [show ¬ p = j by omega, show ¬ p + 1 = j by omega, show ¬ p + 2 = j by omega, show ¬ p + 3 = j by omega, show ¬ p + 4 = j by omega]
    · rw [List.getElem?_append_right (by simp; omega)]
      have hl : (cs.take p).length = p := by simp; omega
      rw [hl]
      rcases (by omega : j = p ∨ j = p + 1 ∨ j = p + 2 ∨ j = p + 3 ∨ j = p + 4) with rfl | rfl | rfl | rfl | rfl
      · simp [List.getElem?_set]; omega
      · simp [List.getElem?_set, show p + 1 - p = 1 by omega]; omega
      · simp [List.getElem?_set, show p + 2 - p = 2 by omega]; omega
      · simp [List.getElem?_set, show p + 3 - p = 3 by omega]; omega
      · simp [List.getElem?_set, show p + 4 - p = 4 by omega]; omega
  · rw [List.getElem?_eq_none (by simp; omega), List.getElem?_eq_none (by simp; omega)]
/-- The next tree is stored. -/
theorem RowB.put {w : World} {G m : Nat} {l : List Tr} (h : RowB w G m l) (t : Tr) (A : Option Addr) (c : Nat) (hi : l.length < m) (ht : TIn w (fun g => G < g) t A) :
    RowB (((((w.setCell ⟨G, l.length * 5, none⟩ (.int .i64 t.kind)).setCell ⟨G, l.length * 5 + 1, none⟩ (.string t.name)).setCell ⟨G, l.length * 5 + 2, none⟩ (.int .i64 t.n)).setCell ⟨G, l.length * 5 + 3, none⟩ (.int .i64 t.place)).setCell ⟨G, l.length * 5 + 4, none⟩ (.slice A t.parts.length c)) G m (l ++ [t]) := by
  obtain ⟨cs, hL, hs, hr⟩ := h
  have hX : ∀ p : Addr, p.block = G → ¬ G < p.block := fun p e => by omega
  refine ⟨_, ((((hL.put _ _).put _ _).put _ _).put _ _).put _ _, by simp [hs], ?_⟩
  have h5 : (l ++ [t]).length * 5 = l.length * 5 + 5 := by simp; omega
  rw [h5]
  simp only [Array.toList_setIfInBounds]
  rw [take_set5 _ _ _ _ _ _ _ (by simp [hs]; omega)]
  have h1 := ((((hr.setCell ⟨G, l.length * 5, none⟩ (.int .i64 t.kind) (hX _ rfl)).setCell ⟨G, l.length * 5 + 1, none⟩ (.string t.name) (hX _ rfl)).setCell ⟨G, l.length * 5 + 2, none⟩ (.int .i64 t.n) (hX _ rfl)).setCell ⟨G, l.length * 5 + 3, none⟩ (.int .i64 t.place) (hX _ rfl)).setCell ⟨G, l.length * 5 + 4, none⟩ (.slice A t.parts.length c) (hX _ rfl)
  have h2 := TIn.setCell _ (TIn.setCell _ (TIn.setCell _ (TIn.setCell _ (TIn.setCell _ ht ⟨G, l.length * 5, none⟩ (.int .i64 t.kind) (hX _ rfl)) ⟨G, l.length * 5 + 1, none⟩ (.string t.name) (hX _ rfl)) ⟨G, l.length * 5 + 2, none⟩ (.int .i64 t.n) (hX _ rfl)) ⟨G, l.length * 5 + 3, none⟩ (.int .i64 t.place) (hX _ rfl)) ⟨G, l.length * 5 + 4, none⟩ (.slice A t.parts.length c) (hX _ rfl)
  exact h1.snoc (c := c) h2
theorem Lies.far5 {w : World} {g : Nat} {t : TypeId} {cs : Array Value} (h : Lies w g t cs) {G : Nat} (hg : g ≠ G) (o : Nat) (a b c d e : Value) :
    Lies (((((w.setCell ⟨G, o, none⟩ a).setCell ⟨G, o + 1, none⟩ b).setCell ⟨G, o + 2, none⟩ c).setCell ⟨G, o + 3, none⟩ d).setCell ⟨G, o + 4, none⟩ e) g t cs :=
  ((((h.far (p := ⟨G, o, none⟩) hg _).far (p := ⟨G, o + 1, none⟩) hg _).far (p := ⟨G, o + 2, none⟩) hg _).far (p := ⟨G, o + 3, none⟩) hg _).far (p := ⟨G, o + 4, none⟩) hg _
theorem Below.five {B : Nat} {a w : World} (h : Below B a w) {G : Nat} (hg : B ≤ G) (o : Nat) (x y z u v : Value) :
    Below B a (((((w.setCell ⟨G, o, none⟩ x).setCell ⟨G, o + 1, none⟩ y).setCell ⟨G, o + 2, none⟩ z).setCell ⟨G, o + 3, none⟩ u).setCell ⟨G, o + 4, none⟩ v) :=
  ((((h.setCell (p := ⟨G, o, none⟩) hg x).setCell (p := ⟨G, o + 1, none⟩) hg y).setCell (p := ⟨G, o + 2, none⟩) hg z).setCell (p := ⟨G, o + 3, none⟩) hg u).setCell (p := ⟨G, o + 4, none⟩) hg v
/-- All are there. -/
theorem RowB.parts {w : World} {G : Nat} {l : List Tr} {Y : Nat → Prop} (h : RowB w G l.length l) (hY : ∀ g, G ≤ g → Y g) : LIn w Y l (some ⟨G, 0, none⟩) 0 := by
  obtain ⟨cs, hL, hs, hr⟩ := h
  refine hr.parts (hY _ (Nat.le_refl _)) (fun b hb _ => hY b (by omega)) fun j u hu => ?_
  rw [Nat.zero_add, hL.cell j]
  have hj : j < l.length * 5 := by
    rcases Nat.lt_or_ge j (l.length * 5) with h | h
    · exact h
    · rw [List.getElem?_eq_none (by simp; omega)] at hu; cases hu
  rw [List.getElem?_take_of_lt hj] at hu
  simpa using hu

set_option maxHeartbeats 2000000 in
theorem bare_any (d : Nat) : ∀ (t : Tr) (A : Option Addr) (c : Nat) (w : World), depthT t ≤ d → sizeT t ≤ 100000 → TIn w Any t A →
    Calls Tryd.prog 21 #[tv t A c] w (GivesT (bareT t) w) := by
  induction d with
  | zero => intro t A c w h; have := depth_pos t; omega
  | succ d ih =>
    intro t A c w hd hs hI
    obtain ⟨k, s, n, a, l⟩ := t
    have hdL : depthL l ≤ d := by rw [depthT] at hd; omega
    have hsL : sizeL l ≤ 100000 := by rw [sizeT] at hs; omega
    have hlen := sizeL_len l
    have hss : s.size ≤ 140737488351232 := by rw [TIn] at hI; exact hI.1
    have HI := Lib.hid hI
    clear hI hd hs
    show Calls Tryd.prog 21 #[.agg #[.int .i64 k, .string s, .int .i64 n, .int .i64 a, .slice A l.length c]] w _
    obtain ⟨m, hm⟩ : ∃ m, m = l.length := ⟨_, rfl⟩
    rw [← hm]
    have hm1 : m ≤ l.length := by omega
    have hm2 : l.length ≤ m := by omega
    clear hm
    obtain ⟨W0, hW0⟩ : ∃ W, W = (w.alloc (.cells #[.int .i64 k, .string s, .int .i64 n, .int .i64 a, .slice A m c] 33)).alloc (.cells #[.int .i64 0, .string ⟨#[]⟩, .int .i64 0, .int .i64 0, .slice none 0 0] 33) := ⟨_, rfl⟩
    have l0 : Lies W0 w.heap.size 33 #[.int .i64 k, .string s, .int .i64 n, .int .i64 a, .slice A m c] := by rw [hW0]; exact (Lies.new w _ _).old _
    have l1 : Lies W0 (w.heap.size + 1) 33 #[.int .i64 0, .string ⟨#[]⟩, .int .i64 0, .int .i64 0, .slice none 0 0] := by
      rw [hW0]; simpa using Lies.new (w.alloc (.cells #[.int .i64 k, .string s, .int .i64 n, .int .i64 a, .slice A m c] 33)) 33 #[.int .i64 0, .string ⟨#[]⟩, .int .i64 0, .int .i64 0, .slice none 0 0]
    have hz0 : W0.heap.size = w.heap.size + 2 := by rw [hW0]; simp
    have hb0 : Below w.heap.size w W0 := by rw [hW0]; exact ((Below.refl _ w).alloc (Nat.le_refl _) _).alloc (by simp) _
    go_enter Tryd.func21, Tryd.ntmps21
    go_upto_region 1 with fail
    rw [← hW0]
    have HZ := Lib.hid hz0
    clear hW0 hz0
    go_cut [3] (fun s3 wx => ∃ q : Nat, s3 = .pointer (some ⟨q, 0, none⟩) ∧ W0.heap.size ≤ q ∧ Lies wx q 33 #[.int .i64 k, .string s, .int .i64 n, .int .i64 0, .slice none 0 0] ∧ Below W0.heap.size W0 wx)
    case first =>
      obtain ⟨⟨c0, c1, c2, c3, c4⟩, _⟩ := l0.five
      have hl0 := l0.lt
      have ne1 : ¬ W0.heap.size = w.heap.size := by omega
      have ne2 : ¬ w.heap.size = W0.heap.size := by omega
      go_region_held3 (fun W => W.cell? ⟨w.heap.size, 0, none⟩ = some (.int .i64 k) ∧ W.cell? ⟨w.heap.size, 1, none⟩ = some (.string s) ∧ W.cell? ⟨w.heap.size, 2, none⟩ = some (.int .i64 n))
        (first | go_keep)
        ((first
          | (go_at_call 43
             refine (clone_any s _ (by omega)).mono ?_
             rintro e w2 ⟨rfl, hb2⟩
             obtain ⟨hc2, hf2⟩ := bcell hb2
             have hsz2 := hb2.size
             have k0 : w2.cell? ⟨w.heap.size, 0, none⟩ = some (.int .i64 k) := (hc2 _ 0 (by simp; omega)).trans (by first | exact c0 | exact (World.cell?_alloc_lt _ _ _ hl0).trans c0)
             have k1 : w2.cell? ⟨w.heap.size, 1, none⟩ = some (.string s) := (hc2 _ 1 (by simp; omega)).trans (by first | exact c1 | exact (World.cell?_alloc_lt _ _ _ hl0).trans c1)
             have k2 : w2.cell? ⟨w.heap.size, 2, none⟩ = some (.int .i64 n) := (hc2 _ 2 (by simp; omega)).trans (by first | exact c2 | exact (World.cell?_alloc_lt _ _ _ hl0).trans c2)
             try have hL2 : Lies w2 W0.heap.size 33 #[.int .i64 0, .string ⟨#[]⟩, .int .i64 0, .int .i64 0, .slice none 0 0] := Lies.below (w := (W0.alloc (.cells #[.int .i64 0, .string ⟨#[]⟩, .int .i64 0, .int .i64 0, .slice none 0 0] 33)).drew) (Lies.new W0 _ _) hb2 (by simp)
             try obtain ⟨⟨y0, y1, y2, y3, y4⟩, g0, g1, g2, g3, g4⟩ := hL2.five
             clear hc2 hf2)))
      · go_wp2_with fail
        go_meet
        exact ⟨w2.heap.size, rfl, hsz2, Lies.new _ _ _, ((Below.refl _ W0).drew.trans hb2).alloc hsz2 _⟩
      · go_wp2_with fail
        go_meet
        exact ⟨W0.heap.size, rfl, Nat.le_refl _, hL2.all5 _ _ _ _ _, Below.all5 (((Below.refl _ W0).alloc (Nat.le_refl _) _).drew.trans (hb2.mono (by simp))) (Nat.le_refl _) _ _ _ _ _⟩
    case rest =>
      obtain ⟨q, rfl, hq, l3, hbx⟩ := hcut
      have hz0 := HZ.out
      have hbw := hb0.trans (hbx.mono (by omega))
      have hxs := hbx.size
      have k0 := l0.below hbx (by omega)
      have k1 := l1.below hbx (by omega)
      have hql := l3.lt
      clear l0 l1 hb0 hbx
      by_cases hm0 : m = 0
      · have hl0 : l = [] := List.eq_nil_of_length_eq_zero (by omega)
        have HL := Lib.hid hl0
        have hm0' : ¬ (0 : Int) < (m : Int) := by omega
        have c4 := k0.five.1.2.2.2.2
        obtain ⟨⟨e0, e1, e2, e3, e4⟩, _⟩ := l3.five
        obtain ⟨⟨z0, z1, z2, z3, z4⟩, f0, f1, f2, f3, f4⟩ := k1.five
        subst hm0
        clear hl0
        go_wp2_with fail
        go_loopw [26] (fun x wr => x = .int .i64 0 ∧ wr = wc) (fun _ _ => 0)
        case atStart => exact ⟨rfl, rfl⟩
        case round =>
          obtain ⟨rfl, rfl⟩ := hrel
          go_wp2_with fail
          have hl := HL.out
          subst hl
          refine bodyPost_ret (res_tree (p := 2) Tryd.results21 rfl (k1.all5 _ _ _ _ _)) rfl ⟨none, 0, ?_, ?_, Below.all5 hbw (by omega) _ _ _ _ _⟩
          · rw [tv_bare]
            rfl
          · rw [bareT, TIn, bareL, LIn]
            exact ⟨hss, by simp, trivial⟩
      · have hm0' : (0 : Int) < (m : Int) := by omega
        have c4 := k0.five.1.2.2.2.2
        have e4 := l3.five.1.2.2.2.2
        have f4 := l3.five.2.2.2.2.2
        obtain ⟨i0, hi0, hz0', hz1, hz2⟩ := info_parts infoT
        have hmk := fun W => run_make_rowT (P := Tryd.prog) 31 33 i0 _ Tryd.underlying31 hi0 hz0' .i64 .i64 m m (Nat.le_refl _) (by rw [hz2]; omega) (by omega) W
        rw [hz1] at hmk
        have hmd : decide (0 < m) = true := by simp; omega
        have ne1 : ¬ q = w.heap.size := by omega
        have ne2 : ¬ w.heap.size = q := by omega
        have hcc : ((wc.setCell ⟨q, 4, none⟩ (.slice (some ⟨wc.heap.size, 0, none⟩) m m)).alloc (.cells (madeCells #[.int .i64 0, .string ⟨#[]⟩, .int .i64 0, .int .i64 0, .slice none 0 0] (m * 5)) 33)).cell? ⟨w.heap.size, 4, none⟩ = some (.slice A m c) :=
          (World.cell?_alloc_lt _ _ _ (by simp [World.setCell]; omega)).trans ((World.cell?_setCell_other _ _ _ _ (by intro e; injection e with e; omega)).trans c4)
        go_wp2_with fail
        obtain ⟨W1, hW1⟩ : ∃ W, W = (wc.setCell ⟨q, 4, none⟩ (.slice (some ⟨wc.heap.size, 0, none⟩) m m)).alloc (.cells (madeCells #[.int .i64 0, .string ⟨#[]⟩, .int .i64 0, .int .i64 0, .slice none 0 0] (m * 5)) 33) := ⟨_, rfl⟩
        obtain ⟨G, hG⟩ : ∃ G, G = wc.heap.size := ⟨_, rfl⟩
        rw [← hW1, ← hG]
        rw [← hG] at hW1
        have j1 : Lies W1 (w.heap.size + 1) 33 #[.int .i64 0, .string ⟨#[]⟩, .int .i64 0, .int .i64 0, .slice none 0 0] := by rw [hW1]; exact (k1.far (p := ⟨q, 4, none⟩) (by show w.heap.size + 1 ≠ q; omega) _).old _
        have j2 : Lies W1 q 33 #[.int .i64 k, .string s, .int .i64 n, .int .i64 0, .slice (some ⟨G, 0, none⟩) m m] := by rw [hW1]; exact (by simpa using l3.put 4 (.slice (some ⟨G, 0, none⟩) m m) : Lies (wc.setCell ⟨q, 4, none⟩ (.slice (some ⟨G, 0, none⟩) m m)) q 33 #[.int .i64 k, .string s, .int .i64 n, .int .i64 0, .slice (some ⟨G, 0, none⟩) m m]).old _
        have hr1 : RowB W1 G m [] := by
          refine ⟨_, ?_, size_madeCells #[.int .i64 0, .string ⟨#[]⟩, .int .i64 0, .int .i64 0, .slice none 0 0] _, RowTr.nil _ _⟩
          rw [hW1, hG]
          simpa [World.setCell] using Lies.new (wc.setCell ⟨q, 4, none⟩ (.slice (some ⟨wc.heap.size, 0, none⟩) m m)) 33 (madeCells #[.int .i64 0, .string ⟨#[]⟩, .int .i64 0, .int .i64 0, .slice none 0 0] (m * 5))
        have hb1 : Below w.heap.size w W1 := by rw [hW1]; exact (hbw.setCell (p := ⟨q, 4, none⟩) (by show _ ≤ q; omega) _).alloc (by simp [World.setCell]; omega) _
        have hqG : q < G := by omega
        clear hW1 hG hmk hcc c4 e4 f4 k0 k1 l3 hbw
        go_loopw [26] (fun x wr => ∃ i : Nat, i ≤ m ∧ x = .int .i64 i ∧ Lies wr (w.heap.size + 1) 33 #[.int .i64 0, .string ⟨#[]⟩, .int .i64 0, .int .i64 0, .slice none 0 0] ∧
            Lies wr q 33 #[.int .i64 k, .string s, .int .i64 n, .int .i64 0, .slice (some ⟨G, 0, none⟩) m m] ∧ RowB wr G m ((l.take i).map bareT) ∧ Below w.heap.size w wr) (fun x _ => m - (intOf x).toNat)
        case atStart => exact ⟨0, by omega, rfl, j1, j2, hr1, hb1⟩
        case round =>
          obtain ⟨i, hi, rfl, l1, l2, hrow, hbw⟩ := hrel
          have hbs := hbw.size
          have hGlt := hrow.lt
          by_cases hlt : i < m
          · have hia : i < l.length := by omega
            obtain ⟨g, o, A', c', ⟨hA, _⟩, d0, d1, d2, d3, d4, hIn⟩ := TIn.part (TIn.below _ HI.out hbw (Nat.le_refl _)) i hia
            subst hA
            have hm3 := depthL_mem l (l[i]'hia) (List.getElem_mem hia)
            have hm4 := sizeL_mem l (l[i]'hia) (List.getElem_mem hia)
            have HS := Lib.hid (take_snoc_map bareT l i hia)
            simp only [Tr.parts] at d0 d1 d2 d3 d4 hIn
            obtain ⟨tr, hu⟩ : ∃ tr, tr = l[i]'hia := ⟨_, rfl⟩
            rw [← hu] at d0 d1 d2 d3 d4 hIn hm3 hm4 HS
            clear hu
            obtain ⟨tk, ts, tn, ta, tl⟩ := tr
            simp only [Tr.kind, Tr.name, Tr.n, Tr.place] at d0 d1 d2 d3 d4
            go_wp2_with fail
            obtain ⟨W, hW⟩ : ∃ W, W = wr.alloc (.cells #[.int .i64 tk, .string ts, .int .i64 tn, .int .i64 ta, .slice A' tl.length c'] 33) := ⟨_, rfl⟩
            rw [← hW]
            have hWb : Below wr.heap.size wr W := by rw [hW]; exact (Below.refl _ wr).alloc (Nat.le_refl _) _
            have hL : Lies W wr.heap.size 33 #[.int .i64 tk, .string ts, .int .i64 tn, .int .i64 ta, .slice A' tl.length c'] := by rw [hW]; exact Lies.new wr _ _
            obtain ⟨⟨n0, n1, n2, n3, n4⟩, _⟩ := hL.five
            have m1 := l1.below hWb (by omega)
            have m2 := l2.below hWb (by omega)
            have hrow1 := hrow.below hWb (Nat.le_refl _)
            have hbw1 := hbw.trans (hWb.mono hbs)
            have hIn1 := TIn.below _ hIn hWb (Nat.le_refl _)
            have hWs := hWb.size
            have e4 := m2.five.1.2.2.2.2
            have hrs : wr.heap.size < W.heap.size := hL.lt
            clear hW hL hIn d0 d1 d2 d3 d4 l1 l2 hrow hbw hWb
            have hil : ((l.take i).map bareT).length = i := by simp; omega
            have HIL := Lib.hid hil
            have hii0 : (0 : Int) ≤ (i : Int) := by omega
            have hii1 : (i : Int) < (m : Int) := by omega
            have nG1 : ¬ G = q := by omega
            have nG2 : ¬ q = G := by omega
            have nG3 : ¬ G = wr.heap.size := by omega
            have nG4 : ¬ wr.heap.size = G := by omega
            clear hil
            go_region_held3 (fun V => V.cell? ⟨q, 4, none⟩ = some (.slice (some ⟨G, 0, none⟩) m m) ∧ V.cell? ⟨wr.heap.size, 0, none⟩ = some (.int .i64 tk) ∧ V.cell? ⟨wr.heap.size, 1, none⟩ = some (.string ts) ∧ V.cell? ⟨wr.heap.size, 2, none⟩ = some (.int .i64 tn) ∧ V.cell? ⟨wr.heap.size, 3, none⟩ = some (.int .i64 ta) ∧ V.cell? ⟨wr.heap.size, 4, none⟩ = some (.slice A' tl.length c'))
              (first | go_keep)
              ((first
                | (go_at_call 21
                   refine (ih (.node tk ts tn ta tl) A' c' W.drew (by omega) (by omega) (TIn.below _ hIn1 ((Below.refl _ W).drew) (Nat.le_refl _))).mono ?_
                   rintro e w2 ⟨A2, c2, he, hT2, hb2⟩
                   rw [tv_bare] at he
                   simp only [Tr.kind, Tr.name, Tr.n, Tr.parts] at he
                   subst he
                   have hbr : Below W.heap.size W w2 := (Below.refl _ W).drew.trans hb2
                   have v0 := (hbr.cell (p := ⟨wr.heap.size, 0, none⟩) hrs).trans n0
                   have v1 := (hbr.cell (p := ⟨wr.heap.size, 1, none⟩) hrs).trans n1
                   have v2 := (hbr.cell (p := ⟨wr.heap.size, 2, none⟩) hrs).trans n2
                   have v3 := (hbr.cell (p := ⟨wr.heap.size, 3, none⟩) hrs).trans n3
                   have v4 := (hbr.cell (p := ⟨wr.heap.size, 4, none⟩) hrs).trans n4
                   have v5 := (hbr.cell (p := ⟨q, 4, none⟩) (by show q < _; omega)).trans e4
                   have p1 := m1.below hbr (by omega)
                   have p2 := m2.below hbr (by omega)
                   have hrow2 := hrow1.below hbr (Nat.le_refl _)
                   have hbw2 := hbw1.trans (hbr.mono hbw1.size)
                   have hT3 : TIn w2 (fun g => G < g) (bareT (.node tk ts tn ta tl)) A2 := TIn.wide _ hT2 fun b hb _ => by have hb' : W.heap.size ≤ b := hb; omega
                   obtain ⟨y0, x0, g0⟩ := hrow2.cell i 0 hlt (by omega)
                   obtain ⟨y1, x1, g1⟩ := hrow2.cell i 1 hlt (by omega)
                   obtain ⟨y2, x2, g2⟩ := hrow2.cell i 2 hlt (by omega)
                   obtain ⟨y3, x3, g3⟩ := hrow2.cell i 3 hlt (by omega)
                   obtain ⟨y4, x4, g4⟩ := hrow2.cell i 4 hlt (by omega)
                   simp only [Nat.add_zero] at x0 g0)))
            clear m1 m2 hrow1 hbw1 hT2 hb2 hbr n0 n1 n2 n3 n4 e4 hIn1 v0 v1 v2 v3 v4 v5
            go_wp2_with fail
            go_roundw
            case rel =>
              refine ⟨i + 1, by omega, by go_num, p1.far5 (by omega) _ _ _ _ _ _, p2.far5 (by omega) _ _ _ _ _ _, ?_, Below.five hbw2 (by omega) _ _ _ _ _ _⟩
              rw [HS.out]
              have h := hrow2.put (bareT (.node tk ts tn ta tl)) A2 c2 (by rw [HIL.out]; exact hlt) hT3
              rw [HIL.out, bareT_kind, bareT_name, bareT_n, bareT_place, bareT_parts] at h
              exact h
            case measure => simp [intOf]; omega
          · obtain ⟨⟨e0, e1, e2, e3, e4⟩, _⟩ := l2.five
            obtain ⟨⟨z0, z1, z2, z3, z4⟩, f0, f1, f2, f3, f4⟩ := l1.five
            go_wp2_with fail
            obtain rfl : i = m := by omega
            have hpl : (l.take i).map bareT = bareL l := by rw [bareL_map, List.take_of_length_le (by omega)]
            rw [hpl] at hrow
            have hbl := bareL_length l
            have hil : i = l.length := by omega
            refine bodyPost_ret (res_tree (p := 2) Tryd.results21 rfl (l1.all5 _ _ _ _ _)) rfl ⟨some ⟨G, 0, none⟩, i, ?_, ?_, ?_⟩
            · rw [tv_bare]
              simp only [Tr.kind, Tr.name, Tr.n, Tr.parts]
              rw [hil]
            · rw [bareT, TIn]
              refine ⟨hss, by omega, ?_⟩
              rw [show i = (bareL l).length by omega] at hrow
              have hL := hrow.parts (Y := fun g => q < g) (fun g hg => by omega)
              refine LIn.keep _ hL fun g j hg _ => ⟨?_, by omega⟩
              have hne : ∀ q u, (⟨w.heap.size + 1, q, none⟩ : Addr) ≠ ⟨g, u, none⟩ := fun q u e => by injection e with e; omega
              rw [World.cell?_setCell_other _ _ _ _ (hne _ _), World.cell?_setCell_other _ _ _ _ (hne _ _), World.cell?_setCell_other _ _ _ _ (hne _ _), World.cell?_setCell_other _ _ _ _ (hne _ _), World.cell?_setCell_other _ _ _ _ (hne _ _)]
            · exact Below.all5 hbw (by omega) _ _ _ _ _
end Lx
end Go.Proofs.YtnljlocogfacfaaDoor
