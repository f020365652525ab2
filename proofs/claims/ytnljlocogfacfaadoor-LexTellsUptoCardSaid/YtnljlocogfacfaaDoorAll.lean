/-
  Walks of lex.All: what is no token is a panic that the deferred function recovers.
-/
import Derived.Test.YtnljlocogfacfaaDoorToks
import Derived.Test.YtnljlocogfacfaaDoorRec
import Derived.RegionTactic
import Derived.BigRegion
import Derived.Lib.SmallJoins
namespace Go.Proofs.YtnljlocogfacfaaDoor
open Go.RowKit
namespace Lx
set_option maxRecDepth 100000
theorem assert_hit (v : Value) (w : World) : (Instr.typeAssert (.iface 50 v) 20 50 true).run Tryd.prog w = .ok (.tuple #[v, .bool true]) w := by kernel_rfl
theorem assert_nil (w : World) : (Instr.typeAssert .nilIface 20 50 true).run Tryd.prog w = .ok (.tuple #[.agg #[.int .i64 0, .int .i64 0], .bool false]) w := by kernel_rfl

theorem catch_tok (b0 b1 b2 : Nat) (p x : Int) (w : World) (d01 : b0 < b1) (d12 : b1 < b2) (h0 : Lies w b0 22 #[.slice none 0 0]) (h1 : Lies w b1 3 #[.int .i64 0]) (h2 : Lies w b2 24 #[.int .i64 0]) :
    CallsD Tryd.prog 34 #[.pointer (some ⟨b0, 0, none⟩), .pointer (some ⟨b1, 0, none⟩), .pointer (some ⟨b2, 0, none⟩)] (.panicking [{ v := noTok p x, recovered := false }]) w fun e u' w' =>
      e = .returned (.tuple #[]) ∧ u' = .panicking [{ v := noTok p x, recovered := true }] ∧ Lies w' b0 22 #[.slice none 0 0] ∧ Lies w' b1 3 #[.int .i64 p] ∧ Lies w' b2 24 #[.int .i64 x] ∧ Below b0 w w' := by
  unfold noTok
  refine callsD_of_wpS Tryd.func34 rfl fun c₀ cs hu => ?_
  apply wpS_seq
  refine region_recover (w' := w) (v := .iface 50 (.agg #[.int .i64 p, .int .i64 x])) rfl rfl rfl (by simp [recoverD, hu]; rfl) ?_ ?_
  · rintro ⟨a, w2, h⟩
    simp [Exit.thenS, bodyPostS] at h
  · have hta := assert_hit (.agg #[.int .i64 p, .int .i64 x])
    show wpList _ _ _ _ { tmps := #[.pointer (some ⟨b0, 0, none⟩), .pointer (some ⟨b1, 0, none⟩), .pointer (some ⟨b2, 0, none⟩), undef, undef, undef, .iface 50 (.agg #[.int .i64 p, .int .i64 x]), undef, undef, undef, undef, undef, undef, undef, undef], defers := [] } w
    go_wp2_with fail
    refine wpS_of_wp ?_
    clear hta
    have g0 := h0.old (.cells #[.int .i64 p, .int .i64 x] 50)
    have g1 := h1.old (.cells #[.int .i64 p, .int .i64 x] 50)
    have g2 := h2.old (.cells #[.int .i64 p, .int .i64 x] 50)
    have gn := Lies.new w 50 #[.int .i64 p, .int .i64 x]
    obtain ⟨W, hW⟩ : ∃ W, W = w.alloc (.cells #[.int .i64 p, .int .i64 x] 50) := ⟨_, rfl⟩
    rw [← hW] at g0 g1 g2 gn ⊢
    have c0 := g0.cell 0
    have c1 := g1.cell 0
    have c2 := g2.cell 0
    have f0 := g0.frozen 0
    have f1 := g1.frozen 0
    have f2 := g2.frozen 0
    have n0 := gn.cell 0
    have n1 := gn.cell 1
    simp at c0 c1 c2 n0 n1
    have HW := Lib.hid hW
    clear hW
    obtain ⟨G, hG⟩ : ∃ G, G = w.heap.size := ⟨_, rfl⟩
    rw [← hG] at n0 n1 gn ⊢
    have l2 := h2.lt
    rw [← hG] at l2
    have HG := Lib.hid hG
    clear hG h0 h1 h2
    have e1 : ¬ b0 = b1 := by omega
    have e2 : ¬ b1 = b0 := by omega
    have e3 : ¬ b0 = b2 := by omega
    have e4 : ¬ b2 = b0 := by omega
    have e5 : ¬ b1 = b2 := by omega
    have e6 : ¬ b2 = b1 := by omega
    have e7 : ¬ b0 = G := by omega
    have e8 : ¬ G = b0 := by omega
    have e9 : ¬ b1 = G := by omega
    have e10 : ¬ G = b1 := by omega
    have e11 : ¬ b2 = G := by omega
    have e12 : ¬ G = b2 := by omega
    have L2 := Lib.hid l2
    clear l2
    go_wp2_with fail
    go_region
    have hb : Below b0 w W := by
      rw [HW.out]
      exact (Below.refl _ w).alloc (by have := L2.out; rw [← HG.out]; omega) _
    refine ⟨rfl, _, rfl, .tuple #[], by simp [results, Tryd.results34], rfl, rfl, ?_, ?_, ?_, ?_⟩
    · exact ((((g0.put 0 (.slice none 0 0)).far (p := ⟨b1, 0, none⟩) e1 _).far (p := ⟨b2, 0, none⟩) e3 _)).drew
    · exact (((g1.far (p := ⟨b0, 0, none⟩) e2 _).put 0 (.int .i64 p)).far (p := ⟨b2, 0, none⟩) e5 _).drew
    · exact (((g2.far (p := ⟨b0, 0, none⟩) e4 _).far (p := ⟨b1, 0, none⟩) e6 _).put 0 (.int .i64 x)).drew
    · exact (((hb.setCell (p := ⟨b0, 0, none⟩) (Nat.le_refl _) _).setCell (p := ⟨b1, 0, none⟩) (Nat.le_of_lt d01) _).setCell (p := ⟨b2, 0, none⟩) (by show b0 ≤ b2; omega) _).drew

theorem catch_idle (b0 b1 b2 : Nat) (w : World) :
    CallsD Tryd.prog 34 #[.pointer (some ⟨b0, 0, none⟩), .pointer (some ⟨b1, 0, none⟩), .pointer (some ⟨b2, 0, none⟩)] .returning w fun e u' w' =>
      e = .returned (.tuple #[]) ∧ u' = .returning ∧ Below w.heap.size w w' := by
  refine callsD_of_wpS Tryd.func34 rfl fun c₀ cs hu => ?_
  apply wpS_seq
  refine region_recover_nil (w' := w) rfl rfl rfl (by simp [recoverD, hu]) ?_ ?_
  · rintro ⟨a, w2, h⟩
    simp [Exit.thenS, bodyPostS] at h
  · have hta := assert_nil
    show wpList _ _ _ _ { tmps := #[.pointer (some ⟨b0, 0, none⟩), .pointer (some ⟨b1, 0, none⟩), .pointer (some ⟨b2, 0, none⟩), undef, undef, undef, .nilIface, undef, undef, undef, undef, undef, undef, undef, undef], defers := [] } w
    go_wp2_with fail
    refine wpS_of_wp ?_
    clear hta
    go_wp2_with fail
    refine ⟨rfl, .returning, ?_, .tuple #[], by simp [results, Tryd.results34], rfl, rfl, ?_⟩
    · cases c₀; simp_all
    · exact (Below.refl _ w).alloc (Nat.le_refl _) _

set_option maxHeartbeats 1000000 in
theorem all_bad (s : ByteArray) (p x : Int) (w : World) (hs : s.size ≤ 60000) (hg : Signs w) (h : allK s.data.toList = .error (p, x)) :
    Calls Tryd.prog 12 #[.string s] w fun e w' => e = .returned (.tuple #[.slice none 0 0, .int .i64 p, .int .i64 x]) ∧ Below w.heap.size w w' := by
  have hmf : ∀ (fn : Fn) (first cap : Array Value) (w : World), (Instr.makeFunc fn first cap).run Tryd.prog w = .ok (.func fn first cap) w := fun _ _ _ _ => rfl
  have HH := Lib.hid h
  clear h
  have hpos := hg.pos
  have hg0 : Signs (((w.alloc (.cells #[.slice none 0 0] 22)).alloc (.cells #[.int .i64 0] 3)).alloc (.cells #[.int .i64 0] 24)) :=
    hg.below ((((Below.refl _ w).alloc (Nat.le_refl _) _).alloc (by simp) _).alloc (by simp; omega) _) hpos
  go_enter_defers Tryd.func12, Tryd.ntmps12
  go_wp2_with fail
  refine (tokens_any s _ hs hg0).mono ?_
  rintro e w1 ⟨_, hbad, hb1⟩
  obtain rfl := hbad p x HH.out
  clear hbad
  have l0 := (((Lies.new w 22 #[.slice none 0 0]).old (.cells #[.int .i64 0] 3)).old (.cells #[.int .i64 0] 24)).below hb1 (by simp; omega)
  have l1 := ((Lies.new (w.alloc (.cells #[.slice none 0 0] 22)) 3 #[.int .i64 0]).old (.cells #[.int .i64 0] 24)).below hb1 (by simp)
  have l2 := (Lies.new ((w.alloc (.cells #[.slice none 0 0] 22)).alloc (.cells #[.int .i64 0] 3)) 24 #[.int .i64 0]).below hb1 (by simp)
  have hB : Below w.heap.size w w1 := ((((Below.refl _ w).alloc (Nat.le_refl _) _).alloc (by simp) _).alloc (by simp; omega) _).trans (hb1.mono (by simp; omega))
  go_wp2_with fail
  refine leaves_cons (f := 34) (args := #[.pointer (some ⟨w.heap.size, 0, none⟩), .pointer (some ⟨w.heap.size + 1, 0, none⟩), .pointer (some ⟨w.heap.size + 1 + 1, 0, none⟩)]) (by simp) (by simp [go_sem]) ?_
  refine (catch_tok w.heap.size (w.heap.size + 1) (w.heap.size + 1 + 1) p x w1 (by omega) (by omega) l0 (by simpa using l1) (by simpa using l2)).mono ?_
  rintro e u' w2 ⟨rfl, rfl, k0, k1, k2, hb2⟩
  have c0 := k0.cell 0
  have c1 := k1.cell 0
  have c2 := k2.cell 0
  simp at c0 c1 c2
  simp [Leaves, settle, results, Tryd.results12, go_sem, c0, c1, c2]
  exact hB.trans hb2

theorem own_slice {w : World} {base : Nat} {e : TypeId} {size : Nat} {v : Value} {n : Nat} {xs : List Value} (h : w.ownsRow base e size v n xs) : ∃ A c, v = .slice A n c := by
  rcases h.2 with ⟨rfl, rfl⟩ | ⟨g, cap, cur, rfl, _⟩
  · exact ⟨_, _, rfl⟩
  · exact ⟨_, _, rfl⟩

/-- What the call owns above three result variables stays owned while these are written. -/
theorem own_stored3 {w : World} {base B : Nat} {e : TypeId} {size : Nat} {v : Value} {n : Nat} {xs : List Value} (h : w.ownsRow B e size v n xs) (_hB : B ≤ w.heap.size) (hb : base + 3 ≤ B) {x y z : Value} :
    (((w.setCell ⟨base, 0, none⟩ x).setCell ⟨base + 1, 0, none⟩ y).setCell ⟨base + 1 + 1, 0, none⟩ z).ownsRow base e size v n xs :=
  Joins.ownsRow_le (ownsRow_setCell_below (ownsRow_setCell_below (ownsRow_setCell_below h (by show base < B; omega) x) (by show base + 1 < B; omega) y) (by show base + 1 + 1 < B; omega) z) (by omega)

set_option maxHeartbeats 1000000 in
theorem all_good (s : ByteArray) (ts : List Tok) (w : World) (hs : s.size ≤ 60000) (hg : Signs w) (h : allK s.data.toList = .ok ts) :
    Calls Tryd.prog 12 #[.string s] w fun e w' => ∃ A c, e = .returned (.tuple #[.slice A ts.length c, .int .i64 0, .int .i64 0]) ∧ w'.ownsRow w.heap.size 48 4 (.slice A ts.length c) ts.length (cellsOf ts) ∧ Below w.heap.size w w' := by
  have hmf : ∀ (fn : Fn) (first cap : Array Value) (w : World), (Instr.makeFunc fn first cap).run Tryd.prog w = .ok (.func fn first cap) w := fun _ _ _ _ => rfl
  have HH := Lib.hid h
  clear h
  have hpos := hg.pos
  have hg0 : Signs (((w.alloc (.cells #[.slice none 0 0] 22)).alloc (.cells #[.int .i64 0] 3)).alloc (.cells #[.int .i64 0] 24)) :=
    hg.below ((((Below.refl _ w).alloc (Nat.le_refl _) _).alloc (by simp) _).alloc (by simp; omega) _) hpos
  go_enter_defers Tryd.func12, Tryd.ntmps12
  go_wp2_with fail
  refine (tokens_any s _ hs hg0).mono ?_
  rintro e w1 ⟨hgood, _, hb1⟩
  obtain ⟨v, rfl, hown⟩ := hgood ts HH.out
  clear hgood
  obtain ⟨A, c, rfl⟩ := own_slice hown
  have l0 := (((Lies.new w 22 #[.slice none 0 0]).old (.cells #[.int .i64 0] 3)).old (.cells #[.int .i64 0] 24)).below hb1 (by simp; omega)
  have l1 : Lies w1 (w.heap.size + 1) 3 #[.int .i64 0] := by simpa using ((Lies.new (w.alloc (.cells #[.slice none 0 0] 22)) 3 #[.int .i64 0]).old (.cells #[.int .i64 0] 24)).below hb1 (by simp)
  have l2 : Lies w1 (w.heap.size + 1 + 1) 24 #[.int .i64 0] := by simpa using (Lies.new ((w.alloc (.cells #[.slice none 0 0] 22)).alloc (.cells #[.int .i64 0] 3)) 24 #[.int .i64 0]).below hb1 (by simp)
  have hB : Below w.heap.size w w1 := ((((Below.refl _ w).alloc (Nat.le_refl _) _).alloc (by simp) _).alloc (by simp; omega) _).trans (hb1.mono (by simp; omega))
  have c0 := l0.cell 0
  have c1 := l1.cell 0
  have c2 := l2.cell 0
  have f0 := l0.frozen 0
  have f1 := l1.frozen 0
  have f2 := l2.frozen 0
  simp at c0 c1 c2
  clear HH hg hg0 hs
  go_wp2_with fail
  refine leaves_cons (f := 34) (args := #[.pointer (some ⟨w.heap.size, 0, none⟩), .pointer (some ⟨w.heap.size + 1, 0, none⟩), .pointer (some ⟨w.heap.size + 1 + 1, 0, none⟩)]) (by simp) (by simp [go_sem]) ?_
  refine (catch_idle w.heap.size (w.heap.size + 1) (w.heap.size + 1 + 1) _).mono ?_
  rintro e u' w2 ⟨rfl, rfl, hb2⟩
  have hlt := l2.lt
  have hown2 := own_below (own_stored3 hown hb1.size (by simp)) hb2 (Nat.le_refl _)
  have k0 := (((l0.put 0 (.slice A ts.length c)).far (p := ⟨w.heap.size + 1, 0, none⟩) (by simp) (.int .i64 0)).far (p := ⟨w.heap.size + 1 + 1, 0, none⟩) (by simp; omega) (.int .i64 0)).below hb2 (by simp; omega)
  have k1 := (((l1.far (p := ⟨w.heap.size, 0, none⟩) (by simp) (.slice A ts.length c)).put 0 (.int .i64 0)).far (p := ⟨w.heap.size + 1 + 1, 0, none⟩) (by simp) (.int .i64 0)).below hb2 (by simp; omega)
  have k2 := (((l2.far (p := ⟨w.heap.size, 0, none⟩) (by simp; omega) (.slice A ts.length c)).far (p := ⟨w.heap.size + 1, 0, none⟩) (by simp) (.int .i64 0)).put 0 (.int .i64 0)).below hb2 (by simp; omega)
  have c0 := k0.cell 0
  have c1 := k1.cell 0
  have c2 := k2.cell 0
  simp at c0 c1 c2
  simp [Leaves, settle, results, Tryd.results12, go_sem, c0, c1, c2]
  exact ⟨A, c, ⟨rfl, rfl⟩, hown2, (((hB.setCell (p := ⟨w.heap.size, 0, none⟩) (Nat.le_refl _) _).setCell (p := ⟨w.heap.size + 1, 0, none⟩) (by simp) _).setCell (p := ⟨w.heap.size + 1 + 1, 0, none⟩) (by show w.heap.size ≤ w.heap.size + 1 + 1; omega) _).trans (hb2.mono (by simp; omega))⟩
end Lx
end Go.Proofs.YtnljlocogfacfaaDoor
