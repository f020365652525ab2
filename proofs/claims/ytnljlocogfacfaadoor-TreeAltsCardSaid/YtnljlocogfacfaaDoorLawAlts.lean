/-
  Walk of the law TreeAlts.
-/
import Derived.Test.YtnljlocogfacfaaDoorBox
import Derived.Test.YtnljlocogfacfaaDoorNine
import Derived.Test.YtnljlocogfacfaaDoorAltsV
import Derived.Test.YtnljlocogfacfaaDoorLit
import Derived.Deep.AppendLies
import Derived.Deep.DeepCutAuto
namespace Go.Proofs.YtnljlocogfacfaaDoor
open Go.RowKit
namespace Lx
set_option maxRecDepth 100000
/-- The cells of n variables. -/
def xsX : Nat → List Value
  | 0 => []
  | i + 1 => xsX i ++ [.int .i64 1, .string ⟨#[120]⟩, .int .i64 0, .int .i64 0, .slice none 0 0]
theorem xsX_length : ∀ i, (xsX i).length = i * 5
  | 0 => rfl
  | i + 1 => by rw [xsX, List.length_append, xsX_length i]; simp; omega
theorem xsX_one : ∀ i, ∀ u ∈ xsX i, u.oneCell' = true
  | 0, u, h => by cases h
  | i + 1, u, h => by
    rw [xsX] at h
    rcases List.mem_append.1 h with h | h
    · exact xsX_one i u h
    · simp at h; rcases h with rfl | rfl | rfl | rfl | rfl <;> rfl
theorem ysX_length (cs : List Value) (h : cs.length = 5) : ∀ i, (ysX cs i).length = i * 5
  | 0 => rfl
  | i + 1 => by rw [ysX, List.length_append, ysX_length cs h i, h]; omega
/-- An own row, behind a store into another block. -/
theorem hown_far {w : World} {base g n c size : Nat} {e : TypeId} {xs : List Value} (h : w.ownsRow base e size (.slice (some ⟨g, 0, none⟩) n c) n xs) {p : Addr} (hp : g ≠ p.block) (u : Value) : (w.setCell p u).ownsRow base e size (.slice (some ⟨g, 0, none⟩) n c) n xs := by
  refine h.kept (row := some p.block) ⟨rfl, rfl, rfl, by simp, fun q _ hq => Below.heap_setCell w p u q (fun e => hq (by rw [e]))⟩ (.inr (fun e => hp (Option.some.inj e)))
theorem rowX (w : World) (X : Nat → Prop) : ∀ i, RowTr w X (List.replicate i vx) (xsX i)
  | 0 => RowTr.nil w X
  | i + 1 => by
    rw [xsX, List.replicate_succ']
    exact (rowX w X i).snoc (t := vx) (A := none) (c := 0) (TIn.leaf (by decide))
set_option maxHeartbeats 16000000 in
theorem talts_any (t : Tr) (A : Option Addr) (c : Nat) (v m : Int) (w : World) (hI : TIn w Any t A) (hg : Signs w) :
    Calls Tryd.prog 6 #[tv t A c, .int .i64 v, .int .i64 m] w fun e w' => e = .returned (.bool true) ∧ Below w.heap.size w w' := by
  obtain ⟨k, s, n, a, l⟩ := t
  show Calls Tryd.prog 6 #[.agg #[.int .i64 k, .string s, .int .i64 n, .int .i64 a, .slice A l.length c], .int .i64 v, .int .i64 m] w _
  have hA0 := Bx.new (c := c) hI hg
  have HSA := Lib.hid (fun W (h : Bx w W w.heap.size k s n a l A c) => h.small 100 (by omega) (by omega))
  have HMA := Lib.hid (fun W (h : Bx w W w.heap.size k s n a l A c) => h.rmay)
  have HA0 := Lib.hid hA0
  clear hI hA0
  cases hsa : decide (0 ≤ fewT (.node k s n a l) 100 200) with
  | false =>
    rw [hsa] at HSA
    clear hsa
    go_enter Tryd.func6, Tryd.ntmps6
    go_wp2_with fail
    refine (fixT_any _ HA0.out.sg).mono ?_
    rintro e w1 ⟨rfl, hb1⟩
    have hA1 := HA0.out.step hb1
    obtain ⟨c0, c1, c2, c3, c4⟩ := hA1.five
    go_wp2_with fail
    refine (HSA.out _ hA1).mono ?_
    rintro e w2 ⟨rfl, hb2⟩
    have hA2 := hA1.step hb2
    clear c0 c1 c2 c3 c4
    obtain ⟨c0, c1, c2, c3, c4⟩ := hA2.five
    go_wp2_with fail
    refine (fixT_any _ hA2.sg).mono ?_
    rintro e w9 ⟨rfl, hb9⟩
    go_wp2_with fail
    go_ret
    exact ⟨rfl, (hA2.step hb9).bw⟩
  | true =>
    have hza := (small_size hsa (by omega)).1
    rw [hsa] at HSA
    clear hsa
    by_cases hv0 : v < 0
    · go_enter Tryd.func6, Tryd.ntmps6
      go_wp2_with fail
      refine (fixT_any _ HA0.out.sg).mono ?_
      rintro e w1 ⟨rfl, hb1⟩
      have hA1 := HA0.out.step hb1
      obtain ⟨c0, c1, c2, c3, c4⟩ := hA1.five
      go_wp2_with fail
      refine (HSA.out _ hA1).mono ?_
      rintro e w2 ⟨rfl, hb2⟩
      have hA2 := hA1.step hb2
      clear c0 c1 c2 c3 c4
      obtain ⟨c0, c1, c2, c3, c4⟩ := hA2.five
      go_wp2_with fail
      refine (fixT_any _ hA2.sg).mono ?_
      rintro e w9 ⟨rfl, hb9⟩
      go_wp2_with fail
      go_ret
      exact ⟨rfl, (hA2.step hb9).bw⟩
    by_cases hv1 : 10 < v
    · go_enter Tryd.func6, Tryd.ntmps6
      go_wp2_with fail
      refine (fixT_any _ HA0.out.sg).mono ?_
      rintro e w1 ⟨rfl, hb1⟩
      have hA1 := HA0.out.step hb1
      obtain ⟨c0, c1, c2, c3, c4⟩ := hA1.five
      go_wp2_with fail
      refine (HSA.out _ hA1).mono ?_
      rintro e w2 ⟨rfl, hb2⟩
      have hA2 := hA1.step hb2
      clear c0 c1 c2 c3 c4
      obtain ⟨c0, c1, c2, c3, c4⟩ := hA2.five
      go_wp2_with fail
      refine (fixT_any _ hA2.sg).mono ?_
      rintro e w9 ⟨rfl, hb9⟩
      go_wp2_with fail
      go_ret
      exact ⟨rfl, (hA2.step hb9).bw⟩
    by_cases hm0 : m < 0
    · go_enter Tryd.func6, Tryd.ntmps6
      go_wp2_with fail
      refine (fixT_any _ HA0.out.sg).mono ?_
      rintro e w1 ⟨rfl, hb1⟩
      have hA1 := HA0.out.step hb1
      obtain ⟨c0, c1, c2, c3, c4⟩ := hA1.five
      go_wp2_with fail
      refine (HSA.out _ hA1).mono ?_
      rintro e w2 ⟨rfl, hb2⟩
      have hA2 := hA1.step hb2
      clear c0 c1 c2 c3 c4
      obtain ⟨c0, c1, c2, c3, c4⟩ := hA2.five
      go_wp2_with fail
      refine (fixT_any _ hA2.sg).mono ?_
      rintro e w9 ⟨rfl, hb9⟩
      go_wp2_with fail
      go_ret
      exact ⟨rfl, (hA2.step hb9).bw⟩
    by_cases hm1 : 10 < m
    · go_enter Tryd.func6, Tryd.ntmps6
      go_wp2_with fail
      refine (fixT_any _ HA0.out.sg).mono ?_
      rintro e w1 ⟨rfl, hb1⟩
      have hA1 := HA0.out.step hb1
      obtain ⟨c0, c1, c2, c3, c4⟩ := hA1.five
      go_wp2_with fail
      refine (HSA.out _ hA1).mono ?_
      rintro e w2 ⟨rfl, hb2⟩
      have hA2 := hA1.step hb2
      clear c0 c1 c2 c3 c4
      obtain ⟨c0, c1, c2, c3, c4⟩ := hA2.five
      go_wp2_with fail
      refine (fixT_any _ hA2.sg).mono ?_
      rintro e w9 ⟨rfl, hb9⟩
      go_wp2_with fail
      go_ret
      exact ⟨rfl, (hA2.step hb9).bw⟩
    cases hma : mayV (.node k s n a l) with
    | false =>
      rw [hma] at HMA
      clear hma
      go_enter Tryd.func6, Tryd.ntmps6
      go_wp2_with fail
      refine (fixT_any _ HA0.out.sg).mono ?_
      rintro e w1 ⟨rfl, hb1⟩
      have hA1 := HA0.out.step hb1
      obtain ⟨c0, c1, c2, c3, c4⟩ := hA1.five
      go_wp2_with fail
      refine (HSA.out _ hA1).mono ?_
      rintro e w2 ⟨rfl, hb2⟩
      have hA2 := hA1.step hb2
      clear c0 c1 c2 c3 c4
      obtain ⟨c0, c1, c2, c3, c4⟩ := hA2.five
      go_wp2_with fail
      refine (HMA.out _ hA2).mono ?_
      rintro e w3 ⟨rfl, hb3⟩
      have hA3 := hA2.step hb3
      clear c0 c1 c2 c3 c4
      go_wp2_with fail
      refine (fixT_any _ hA3.sg).mono ?_
      rintro e w9 ⟨rfl, hb9⟩
      go_wp2_with fail
      go_ret
      exact ⟨rfl, (hA3.step hb9).bw⟩
    | true =>
      rw [hma] at HMA
      have HMV := Lib.hid hma
      clear hma
      go_enter Tryd.func6, Tryd.ntmps6
      go_wp2_with fail
      refine (fixT_any _ HA0.out.sg).mono ?_
      rintro e w1 ⟨rfl, hb1⟩
      have hA1 := HA0.out.step hb1
      obtain ⟨c0, c1, c2, c3, c4⟩ := hA1.five
      go_wp2_with fail
      refine (HSA.out _ hA1).mono ?_
      rintro e w2 ⟨rfl, hb2⟩
      have hA2 := hA1.step hb2
      clear c0 c1 c2 c3 c4
      obtain ⟨c0, c1, c2, c3, c4⟩ := hA2.five
      go_wp2_with fail
      refine (HMA.out _ hA2).mono ?_
      rintro e w3 ⟨rfl, hb3⟩
      have hA3 := hA2.step hb3
      clear c0 c1 c2 c3 c4
      have HA3 := Lib.hid hA3
      clear hA1 hA2 hA3 hb1 hb2 hb3 HA0 HSA HMA
      obtain ⟨i0, hi0, hz0, hz1, hz2⟩ := info_parts infoT
      have hw := HA3.out.bw.size
      obtain ⟨vn, rfl⟩ : ∃ q : Nat, v = (q : Int) := ⟨v.toNat, by omega⟩
      obtain ⟨mn, rfl⟩ : ∃ q : Nat, m = (q : Int) := ⟨m.toNat, by omega⟩
      clear hv0 hm0
      go_upto_region 4 with fail
      go_wp2_with fail
      go_loopw [8] (fun x wr => ∃ (i : Nat) (B : Option Addr) (bc : Nat), i ≤ vn ∧ x = .int .i64 i ∧ Below w3.heap.size w3 wr ∧
          Lies wr w3.heap.size 33 #[.int .i64 8, .string ⟨#[65]⟩, .int .i64 vn, .int .i64 0, .slice B i bc] ∧
          wr.ownsRow (w3.heap.size + 1) 33 5 (.slice B i bc) i (xsX i) ∧ w3.heap.size + 1 ≤ wr.heap.size ∧ (i = 0 → B = none ∧ bc = 0)) (fun x _ => vn - (intOf x).toNat)
      case atStart => exact ⟨0, none, 0, by omega, rfl, (Below.refl _ w3).alloc (Nat.le_refl _) _, Lies.new w3 _ _, World.ownsRow_nil _ _ _ _, by simp, fun _ => ⟨rfl, rfl⟩⟩
      case round =>
        obtain ⟨i, B, bc, hi, rfl, hbr, l7, hown, hsz, hnil⟩ := hrel
        have hlto := hown.lt
        by_cases hlt : i < vn
        · have e4 := l7.five.1.2.2.2.2
          have f4 := l7.five.2.2.2.2.2
          go_wp2_with (at_builtin; refine wpList_append_lies _ rfl _ _ 31 rfl (w3.heap.size + 1) 33 i0 _ 5 64 Tryd.underlying31 hi0 hz0 hz1 hz2 rfl (by decide) (.slice B i bc) i (xsX i) rfl (hown.alloc _) ⟨wr.heap.size, 0, none⟩ 1 1 [.int .i64 1, .string ⟨#[120]⟩, .int .i64 0, .int .i64 0, .slice none 0 0] rfl rfl ?c1 ?c2 (by omega) ?c3 ?c4 ?c5 (wr.heap.size + 1) (by simp) ?_)
          case c1 => exact World.news_of_block (cs := #[.int .i64 1, .string ⟨#[120]⟩, .int .i64 0, .int .i64 0, .slice none 0 0]) (t := 33) (fr := (0, 0)) (heap_alloc_new wr _)
          case c2 => simp [Value.oneCell']
          case c3 => simp only [maxLen]; omega
          case c4 => omega
          case c5 => simp; omega
          intro gg c3 w4 hown3 hg3 hat hltg
          have hs3 := hg3.size
          simp at hs3
          have j7 := (l7.old (.cells #[.int .i64 1, .string ⟨#[120]⟩, .int .i64 0, .int .i64 0, .slice none 0 0] 33)).grown hg3 (fun e => by have := (hlto _ e.symm).1; omega)
          have hB3 : Below w3.heap.size w3 w4 := (hbr.alloc (by omega) _).grown hg3 (by simp; omega) (fun q hq => by have := (hlto q hq).1; omega)
          have e4 := j7.five.1.2.2.2.2
          have f4 := j7.five.2.2.2.2.2
          clear hi0 hz0 hz1 hz2 hg3 hat hbr l7 hown
          go_wp2_with fail
          go_roundw
          case rel => exact ⟨i + 1, some ⟨gg, 0, none⟩, c3, by omega, by go_num, hB3.setCell (Nat.le_refl _) _, by simpa using j7.put 4 (.slice (some ⟨gg, 0, none⟩) (i + 1) c3), ownsRow_setCell_below hown3 (by show w3.heap.size < _; omega) _, by simp [World.setCell]; omega, fun h => absurd h (by omega)⟩
          case measure => simp [intOf]; omega
        · obtain rfl : i = vn := by omega
          have hA := HA3.out.step hbr
          obtain ⟨c0, c1, c2, c3, c4⟩ := hA.five
          obtain ⟨e0, e1, e2, e3, e4⟩ := l7.five.1
          have e1s : (⟨#[65]⟩ : ByteArray).size ≤ 140737488351232 := by decide
          have hX0 : TIn wr (fun g => g < w3.heap.size ∨ w3.heap.size < g) (.node k s n a l) A := TIn.below _ (TIn.wide _ HA3.out.tin fun g _ hlt => .inl hlt) hbr (Nat.le_refl _)
          have hLv : LIn wr (fun g => g < w3.heap.size ∨ w3.heap.size < g) (List.replicate i vx) B 0 := (rowX wr (fun _ => False) i).owned hown (fun g hg => .inr hg) (fun _ h => h.elim)
          have hT8 : TIn wr (fun g => g < w3.heap.size ∨ w3.heap.size < g) (.node 8 ⟨#[65]⟩ i 0 (List.replicate i vx)) B := TIn.mk e1s (by simp; omega) hLv
          have hrep : (List.replicate i vx).length = i := List.length_replicate
          obtain ⟨W8, hW8⟩ : ∃ W8, W8 = (wr.alloc (.cells #[.int .i64 k, .string s, .int .i64 n, .int .i64 a, .slice A l.length c, .int .i64 8, .string ⟨#[65]⟩, .int .i64 i, .int .i64 0, .slice B i bc] 33)).alloc (.cells #[.int .i64 7, .string ⟨#[]⟩, .int .i64 0, .int .i64 0, .slice (some ⟨wr.heap.size, 0, none⟩) 2 2] 33) := ⟨_, rfl⟩
          have hb8 : Below wr.heap.size wr W8 := by rw [hW8]; exact ((Below.refl _ wr).alloc (Nat.le_refl _) _).alloc (by simp) _
          have hs8 : W8.heap.size = wr.heap.size + 2 := by rw [hW8]; simp
          have hls : Lies W8 wr.heap.size 33 #[.int .i64 k, .string s, .int .i64 n, .int .i64 a, .slice A l.length c, .int .i64 8, .string ⟨#[65]⟩, .int .i64 i, .int .i64 0, .slice B i bc] := by rw [hW8]; exact (Lies.new wr _ _).old _
          have hl9 : Lies W8 (wr.heap.size + 1) 33 #[.int .i64 7, .string ⟨#[]⟩, .int .i64 0, .int .i64 0, .slice (some ⟨wr.heap.size, 0, none⟩) 2 2] := by rw [hW8]; simpa using Lies.new (wr.alloc _) _ _
          have hl7 := l7.below hb8 l7.lt
          have hless : TIn W8 (fun g => g < w3.heap.size ∨ w3.heap.size < g) (.node 7 ⟨#[]⟩ 0 0 [.node k s n a l, .node 8 ⟨#[65]⟩ i 0 (List.replicate i vx)]) (some ⟨wr.heap.size, 0, none⟩) :=
            TIn.mk (by decide) (by simp) (LIn.two (c1 := c) (c2 := bc) hls (by simp [cellsT, Tr.kind, Tr.name, Tr.n, Tr.place, Tr.parts, hrep]) (.inr (by omega)) (TIn.below _ hX0 hb8 (Nat.le_refl _)) (TIn.below _ hT8 hb8 (Nat.le_refl _)))
          have hX8 := TIn.below _ hX0 hb8 (Nat.le_refl _)
          have hown8 := own_below hown hb8 (Nat.le_refl _)
          have hbw8 := hbr.trans (hb8.mono hbr.size)
          have hA8 := HA3.out.step hbw8
          have HHA := Lib.hid hA8
          have H8 := Lib.hid (And.intro hless (And.intro hX8 (And.intro hl9 (And.intro hl7 (And.intro hown8 (And.intro hbw8 (And.intro hs8 hsz)))))))
          clear hless hX8 hl9 hl7 hown8 hbw8 hs8 hls hT8 hLv hX0 e1s hrep hA8
          go_upto_region 9 with fail
          rw [← hW8]
          clear hW8 hb8 hA c0 c1 c2 c3 c4 e0 e1 e2 e3 e4 l7 hown hlto hbr
          obtain ⟨qr, hqr⟩ : ∃ qr, qr = wr.heap.size := ⟨_, rfl⟩
          rw [← hqr] at H8 ⊢
          clear hqr hsz
          go_cut [] (fun wx => ∃ B2 c2, Lies wx w3.heap.size 33 #[.int .i64 8, .string ⟨#[65]⟩, .int .i64 i, .int .i64 0, .slice B2 (i + 1) c2] ∧ TIn wx Any (.node 8 ⟨#[65]⟩ i 0 (List.replicate i vx ++ [.node k s n a l])) B2 ∧ TIn wx Any (.node 7 ⟨#[]⟩ 0 0 [.node k s n a l, .node 8 ⟨#[65]⟩ i 0 (List.replicate i vx)]) (some ⟨qr, 0, none⟩) ∧
              Lies wx (qr + 1) 33 #[.int .i64 7, .string ⟨#[]⟩, .int .i64 0, .int .i64 0, .slice (some ⟨qr, 0, none⟩) 2 2] ∧ Below w3.heap.size w3 wx)
          case first =>
            have hS : ∀ V, Below W8.heap.size W8 V → V.cell? ⟨w3.heap.size, 4, none⟩ = some (.slice B i bc) ∧ V.cell? ⟨w.heap.size, 0, none⟩ = some (.int .i64 k) ∧ V.cell? ⟨w.heap.size, 1, none⟩ = some (.string s) ∧ V.cell? ⟨w.heap.size, 2, none⟩ = some (.int .i64 n) ∧ V.cell? ⟨w.heap.size, 3, none⟩ = some (.int .i64 a) ∧ V.cell? ⟨w.heap.size, 4, none⟩ = some (.slice A l.length c) := fun V hb =>
              have h1 := (HHA.out.step hb).five
              have h2 := (H8.out.2.2.2.1.below hb H8.out.2.2.2.1.lt).five.1.2.2.2.2
              ⟨h2, h1.1, h1.2.1, h1.2.2.1, h1.2.2.2.1, h1.2.2.2.2⟩
            have HS := Lib.hid hS
            refine wp_region_K (S := fun V => (V.cell? ⟨w3.heap.size, 4, none⟩ = some (.slice B i bc) ∧ V.cell? ⟨w.heap.size, 0, none⟩ = some (.int .i64 k) ∧ V.cell? ⟨w.heap.size, 1, none⟩ = some (.string s) ∧ V.cell? ⟨w.heap.size, 2, none⟩ = some (.int .i64 n) ∧ V.cell? ⟨w.heap.size, 3, none⟩ = some (.int .i64 a) ∧ V.cell? ⟨w.heap.size, 4, none⟩ = some (.slice A l.length c))) 8 (by kernel_rfl) (hS _ (Below.refl _ W8).drew) fun hS1 => ?_
            clear hS
            change wpAnyK _ _ _ _ _ _ 9 (Array.replicate 9 false) _ _
            refine wpAnyK_take (i := 1) (v := .pointer (some ⟨w3.heap.size, 4, none⟩)) rfl (by kernel_rfl) (by kernel_rfl) (by kernel_rfl) (by kernel_rfl) (fun _ _ _ h => h) (.inl ⟨by kernel_rfl, fun W hW => by kernel_rfl⟩) hS1 ?_
            try simp only [Act.put, List.setIfInBounds_toArray, List.set_cons_zero, List.set_cons_succ]
            refine wpAnyK_take (i := 2) (v := .slice B i bc) rfl (by kernel_rfl) (by kernel_rfl) (by kernel_rfl) (by kernel_rfl) (fun _ _ _ h => h) (.inl ⟨by kernel_rfl, fun W hW => by (obtain ⟨h0, h1, h2, h3, h4, h5⟩ := hW; go_simp)⟩) hS1 ?_
            try simp only [Act.put, List.setIfInBounds_toArray, List.set_cons_zero, List.set_cons_succ]
            refine wpAnyK_take (i := 4) (v := .agg #[.int .i64 k, .string s, .int .i64 n, .int .i64 a, .slice A l.length c]) rfl (by kernel_rfl) (by kernel_rfl) (by kernel_rfl) (by kernel_rfl) (fun _ _ _ h => h) (.inl ⟨by kernel_rfl, fun W hW => by (obtain ⟨h0, h1, h2, h3, h4, h5⟩ := hW; go_simp)⟩) hS1 ?_
            try simp only [Act.put, List.setIfInBounds_toArray, List.set_cons_zero, List.set_cons_succ]
            clear hS1
            refine nine_two i (xsX i) [.int .i64 k, .string s, .int .i64 n, .int .i64 a, .slice A l.length c] ?_ ?_ HS.out ?_ ?_ ?_ ?_
            · kernel_rfl
            · intro p0 p3 p5 hp hn
              cases p0 <;> cases p3 <;> cases p5 <;> first | (exfalso; simp [n9] at hp hn; done) | kernel_rfl
            · intro p5 b V hs
              have hs' := Lib.hid hs
              obtain ⟨hbw, u58, u61, u63, rfl, h1, h2, h3⟩ := hs
              simp only [a9, Act.put, List.setIfInBounds_toArray, List.set_cons_zero, List.set_cons_succ]
              refine wpOp_plain rfl rfl (fun K hK => ?_)
              go_simp
              have hn := hs'.out.h0
              simp only [a9, Act.put, List.setIfInBounds_toArray, List.set_cons_zero, List.set_cons_succ] at hn
              exact hK.out _ _ hn
            · intro p5 b V hs
              have hbw := hs.bw
              obtain ⟨g, ⟨u61, u63, rfl⟩, hown0, HN0⟩ := hs.at3
              have HN := Lib.hid HN0
              clear HN0 hs
              simp only [a9, Act.put, List.setIfInBounds_toArray, List.set_cons_zero, List.set_cons_succ]
              by_cases hi0' : i = 0
              · obtain ⟨rfl, rfl⟩ := hnil hi0'
                subst hi0'
                refine wpOp_plain rfl rfl (fun K hK => ?_)
                refine wp_append_none _ _ _ rfl W8.heap.size 33 i0 5 Tryd.underlying31 hi0 (.slice (some ⟨g, 0, none⟩) 0 0) 0 [] rfl hown0 rfl ?_
                have hn := HN.out V g 0 hown0 ⟨rfl, rfl, rfl, Nat.le_refl _, fun _ _ _ => rfl⟩ (.inl rfl)
                simp only [a9, Act.put, List.setIfInBounds_toArray, List.set_cons_zero, List.set_cons_succ] at hn
                exact hK.out _ _ hn
              · obtain ⟨gB, capB, hfB⟩ := Joins.ownsRow_form H8.out.2.2.2.2.1 (by omega)
                injection hfB with hB1 hB2 hB3
                subst hB1
                have hownV := own_below H8.out.2.2.2.2.1 hbw (Nat.le_refl _)
                refine wpOp_plain rfl rfl (fun K hK => ?_)
                refine wp_append_lies _ _ _ _ rfl W8.heap.size 33 i0 _ 5 64 Tryd.underlying31 hi0 hz0 hz1 hz2 rfl (by decide) (.slice (some ⟨g, 0, none⟩) 0 0) 0 [] rfl hown0 ⟨gB, 0, none⟩ i bc (xsX i) rfl hownV.1 (hownV.cells rfl) ?_ (by omega) (by simp only [maxLen]; omega) (by omega) hbw.size V.heap.size rfl ?_
                · exact xsX_one i
                intro gg c3 V' hown3 hg3 hat hltg
                rw [Nat.zero_add, List.nil_append] at hown3
                have hn := HN.out V' gg c3 hown3 hg3 hat
                simp only [a9, Act.put, List.setIfInBounds_toArray, List.set_cons_zero, List.set_cons_succ] at hn
                rw [Nat.zero_add]
                exact hK.out _ _ hn
            · intro p0 p3 b V hs
              have hs' := Lib.hid hs
              obtain ⟨hbw, u58, u61, u63, rfl, h1, h2, h3⟩ := hs
              simp only [a9, Act.put, List.setIfInBounds_toArray, List.set_cons_zero, List.set_cons_succ]
              refine wpOp_plain rfl rfl (fun K hK => ?_)
              go_simp
              have hn := hs'.out.h5
              simp only [a9, Act.put, List.setIfInBounds_toArray, List.set_cons_zero, List.set_cons_succ] at hn
              exact hK.out _ _ hn
            · intro b V hs
              obtain ⟨hbw, u58, u61, u63, rfl, h1, h2, h3⟩ := hs
              obtain ⟨g61, c61, rfl, hown1⟩ := h2 rfl
              obtain ⟨g63, rfl, hg63, hL63, _, hne63⟩ := h3 rfl
              clear h1 h2 h3
              simp only [a9, Act.put, List.setIfInBounds_toArray, List.set_cons_zero, List.set_cons_succ]
              refine wpAnyK_one (i := 6) rfl rfl (by kernel_rfl) (fun K hK => ?_)
              refine wp_append_lies _ _ _ _ rfl W8.heap.size 33 i0 _ 5 64 Tryd.underlying31 hi0 hz0 hz1 hz2 rfl (by decide) (.slice (some ⟨g61, 0, none⟩) i c61) i (xsX i) rfl hown1 ⟨g63, 0, none⟩ 1 1 [.int .i64 k, .string s, .int .i64 n, .int .i64 a, .slice A l.length c] rfl rfl (World.news_of_block (cs := #[.int .i64 k, .string s, .int .i64 n, .int .i64 a, .slice A l.length c]) (t := 33) (fr := (0, 0)) hL63) (by simp [Value.oneCell']) (by omega) (by simp only [maxLen]; omega) (by omega) hbw.size V.heap.size rfl ?_
              intro gg c3 V3 hown3 hg3 hat hltg
              have hb3 : Below W8.heap.size W8 V3 := hbw.grown hg3 hbw.size (fun q hq => (hown1.lt q hq).1)
              refine hK.out _ _ (fun _ => HS.out _ hb3) fun _ => ?_
              clear hK
              simp only [Act.put, List.setIfInBounds_toArray, List.set_cons_zero, List.set_cons_succ]
              obtain ⟨hless, hX8, hl9, hl7, hown8, hbw8, hs8, hsz⟩ := H8.out
              have t7 := hl7.below hb3 hl7.lt
              have t9 := hl9.below hb3 hl9.lt
              have hX3 := TIn.below _ hX8 hb3 (Nat.le_refl _)
              have hless3 := TIn.below _ hless hb3 (Nat.le_refl _)
              have hlt7 := hl7.lt
              have hL3 : LIn V3 (fun g => g < w3.heap.size ∨ w3.heap.size < g) (List.replicate i vx ++ [.node k s n a l]) (some ⟨gg, 0, none⟩) 0 :=
                ((rowX V3 (fun g => g < w3.heap.size ∨ w3.heap.size < g) i).snoc (c := c) hX3).owned hown3 (fun g hg => .inr (by omega)) (fun _ h _ => h)
              have hT3 : TIn V3 (fun g => g < w3.heap.size ∨ w3.heap.size < g) (.node 8 ⟨#[65]⟩ i 0 (List.replicate i vx ++ [.node k s n a l])) (some ⟨gg, 0, none⟩) := TIn.mk (by decide) (by simp; omega) hL3
              have hbx := hbw8.trans (hb3.mono hbw8.size)
              have hnx : ¬ (w3.heap.size < w3.heap.size ∨ w3.heap.size < w3.heap.size) := by omega
              have e4 := t7.five.1.2.2.2.2
              have f4 := t7.five.2.2.2.2.2
              have HF := Lib.hid (show ∃ B2 c2, Lies (V3.setCell ⟨w3.heap.size, 4, none⟩ (.slice (some ⟨gg, 0, none⟩) (i + 1) c3)) w3.heap.size 33 #[.int .i64 8, .string ⟨#[65]⟩, .int .i64 i, .int .i64 0, .slice B2 (i + 1) c2] ∧ TIn (V3.setCell ⟨w3.heap.size, 4, none⟩ (.slice (some ⟨gg, 0, none⟩) (i + 1) c3)) Any (.node 8 ⟨#[65]⟩ i 0 (List.replicate i vx ++ [.node k s n a l])) B2 ∧ TIn (V3.setCell ⟨w3.heap.size, 4, none⟩ (.slice (some ⟨gg, 0, none⟩) (i + 1) c3)) Any (.node 7 ⟨#[]⟩ 0 0 [.node k s n a l, .node 8 ⟨#[65]⟩ i 0 (List.replicate i vx)]) (some ⟨qr, 0, none⟩) ∧
                  Lies (V3.setCell ⟨w3.heap.size, 4, none⟩ (.slice (some ⟨gg, 0, none⟩) (i + 1) c3)) (qr + 1) 33 #[.int .i64 7, .string ⟨#[]⟩, .int .i64 0, .int .i64 0, .slice (some ⟨qr, 0, none⟩) 2 2] ∧ Below w3.heap.size w3 (V3.setCell ⟨w3.heap.size, 4, none⟩ (.slice (some ⟨gg, 0, none⟩) (i + 1) c3)) from
                ⟨some ⟨gg, 0, none⟩, c3, by simpa using t7.put 4 (.slice (some ⟨gg, 0, none⟩) (i + 1) c3), TIn.any _ (TIn.setCell _ hT3 ⟨w3.heap.size, 4, none⟩ _ hnx), TIn.any _ (TIn.setCell _ hless3 ⟨w3.heap.size, 4, none⟩ _ hnx), t9.far (p := ⟨w3.heap.size, 4, none⟩) (by show qr + 1 ≠ w3.heap.size; omega) _, hbx.setCell (Nat.le_refl _) _⟩)
              clear hless hX8 hl9 hl7 hown8 hbw8 hs8 t7 t9 hX3 hless3 hL3 hT3 hbx hnx hown1 hL63 hne63 hown3 hg3 hat
              refine wpAnyK_one (i := 7) rfl rfl (by kernel_rfl) (fun K hK => ?_)
              go_wp2_with fail
              refine hK.out _ _ (fun _ => HS.out _ hb3) fun _ => ?_
              clear hK
              simp only [Act.put, List.setIfInBounds_toArray, List.set_cons_zero, List.set_cons_succ]
              refine wpAnyK_one (i := 8) rfl rfl (by kernel_rfl) (fun K hK => ?_)
              go_wp2_with fail
              refine hK.out _ _ (fun h => absurd rfl h) fun _ => ?_
              clear hK
              simp only [Act.put, List.setIfInBounds_toArray, List.set_cons_zero, List.set_cons_succ]
              refine wpAnyK_done (by kernel_rfl) ?_ _
              go_wp2_with fail
              go_meet
              exact HF.out
          case rest =>
            obtain ⟨B2, c2, l7, hT8, hTl, l9, hbx⟩ := hcut
            clear H8 HHA
            have hA := HA3.out.step hbx
            obtain ⟨c0, c1, c2', c3, c4⟩ := hA.five
            have HC := Lib.hid (And.intro l7 (And.intro hT8 (And.intro hTl (And.intro l9 hA))))
            clear l7 hT8 hTl l9 hA hbx
            go_wp2_with fail
            clear c0 c1 c2' c3 c4
            go_loopw [11] (fun x wr => ∃ (j : Nat) (C : Option Addr) (cc : Nat), j ≤ mn ∧ x = .int .i64 j ∧ Below wc.heap.size wc wr ∧ Lies wr (wc.heap.size + 1) 33 #[.int .i64 7, .string ⟨#[]⟩, .int .i64 0, .int .i64 0, .slice C (j + 1) cc] ∧
                wr.ownsRow wc.heap.size 33 5 (.slice C (j + 1) cc) (j + 1) ([.int .i64 k, .string s, .int .i64 n, .int .i64 a, .slice A l.length c] ++ ysX [.int .i64 8, .string ⟨#[65]⟩, .int .i64 i, .int .i64 0, .slice B2 (i + 1) c2] j) ∧ wc.heap.size + 2 ≤ wr.heap.size ∧ (Value.slice C (j + 1) cc).ownBlock ≠ some (wc.heap.size + 1)) (fun x _ => mn - (intOf x).toNat)
            case atStart =>
              refine ⟨0, some ⟨wc.heap.size, 0, none⟩, 1, by omega, rfl, ((Below.refl _ wc).alloc (Nat.le_refl _) _).alloc (by simp) _, by simpa using Lies.new (wc.alloc _) _ _, ?_, by simp, by simp [Value.ownBlock]⟩
              rw [ysX, List.append_nil]
              exact (World.ownsRow_lit wc #[.int .i64 k, .string s, .int .i64 n, .int .i64 a, .slice A l.length c] 1 (Nat.le_refl _) (by simp [maxLen]) rfl).alloc _
            case round =>
              obtain ⟨j, C, cc, hj, rfl, hbr, l10, hown, hsz, hnb⟩ := hrel
              have hlto := hown.lt
              have hlen : (([.int .i64 k, .string s, .int .i64 n, .int .i64 a, .slice A l.length c] : List Value) ++ ysX [.int .i64 8, .string ⟨#[65]⟩, .int .i64 i, .int .i64 0, .slice B2 (i + 1) c2] j).length = (j + 1) * 5 := by rw [List.length_append, ysX_length _ rfl]; simp; omega
              obtain ⟨l7, hT8, hTl, l9, hA⟩ := HC.out
              have m7 := l7.below hbr l7.lt
              have hl7t := l7.lt
              by_cases hlt : j < mn
              · obtain ⟨⟨x0, x1, x2, x3, x4⟩, _⟩ := m7.five
                have e4 := l10.five.1.2.2.2.2
                have f4 := l10.five.2.2.2.2.2
                clear l7 hT8 hTl l9 hA m7
                go_wp2_with (at_builtin; refine wpList_append_lies _ rfl _ _ 31 rfl wc.heap.size 33 i0 _ 5 64 Tryd.underlying31 hi0 hz0 hz1 hz2 rfl (by decide) (.slice C (j + 1) cc) (j + 1) ([.int .i64 k, .string s, .int .i64 n, .int .i64 a, .slice A l.length c] ++ ysX [.int .i64 8, .string ⟨#[65]⟩, .int .i64 i, .int .i64 0, .slice B2 (i + 1) c2] j) rfl (hown.alloc _) ⟨wr.heap.size, 0, none⟩ 1 1 [.int .i64 8, .string ⟨#[65]⟩, .int .i64 i, .int .i64 0, .slice B2 (i + 1) c2] rfl rfl ?c1 ?c2 (by omega) ?c3 ?c4 ?c5 (wr.heap.size + 1) (by simp) ?_)
                case c1 => exact World.news_of_block (cs := #[.int .i64 8, .string ⟨#[65]⟩, .int .i64 i, .int .i64 0, .slice B2 (i + 1) c2]) (t := 33) (fr := (0, 0)) (heap_alloc_new wr _)
                case c2 => simp [Value.oneCell']
                case c3 => simp only [maxLen]; omega
                case c4 => omega
                case c5 => simp; omega
                intro gg c3 w4 hown3 hg3 hat hltg
                have hs3 := hg3.size
                simp at hs3
                have j10 := (l10.old (.cells #[.int .i64 8, .string ⟨#[65]⟩, .int .i64 i, .int .i64 0, .slice B2 (i + 1) c2] 33)).grown hg3 (fun e => hnb e.symm)
                have hB3 : Below wc.heap.size wc w4 := (hbr.alloc (by omega) _).grown hg3 (by simp; omega) (fun q hq => (hlto q hq).1)
                have e4 := j10.five.1.2.2.2.2
                have f4 := j10.five.2.2.2.2.2
                have hgn : gg ≠ wc.heap.size + 1 := by
                  rcases hat with h | h
                  · exact fun e => hnb (by rw [h, e])
                  · omega
                clear hi0 hz0 hz1 hz2 hg3 hat hbr l10 hown hlto hnb
                go_wp2_with fail
                go_roundw
                case rel =>
                  refine ⟨j + 1, some ⟨gg, 0, none⟩, c3, by omega, by go_num, hB3.setCell (by show wc.heap.size ≤ wc.heap.size + 1; omega) _, by simpa using j10.put 4 (.slice (some ⟨gg, 0, none⟩) (j + 1 + 1) c3), ?_, by simp [World.setCell]; omega, fun e => hgn (Option.some.inj e)⟩
                  rw [ysX, ← List.append_assoc]
                  exact hown_far hown3 (by show gg ≠ wc.heap.size + 1; exact hgn) _
                case measure => simp [intOf]; omega
              · obtain rfl : j = mn := by omega
                have hA' := hA.step hbr
                have hsg := hA'.sg
                have hT8' : TIn wr Any (altT i (List.replicate i vx ++ [.node k s n a l])) B2 := TIn.below _ hT8 hbr (Nat.le_refl _)
                have hTl' : TIn wr Any (.node 7 ⟨#[]⟩ 0 0 [.node k s n a l, altT i (List.replicate i vx)]) (some ⟨qr, 0, none⟩) := TIn.below _ hTl hbr (Nat.le_refl _)
                have m9 := l9.below hbr l9.lt
                have hy : cellsT (altT i (List.replicate i vx ++ [.node k s n a l])) B2 c2 = [.int .i64 8, .string ⟨#[65]⟩, .int .i64 i, .int .i64 0, .slice B2 (i + 1) c2] := by simp [altT, cellsT, Tr.kind, Tr.name, Tr.n, Tr.place, Tr.parts]
                have hrow := rowY (c := c) (d := c2) hA'.tin hT8' j
                rw [hy] at hrow
                have hTc : TIn wr Any (.node 7 ⟨#[]⟩ 0 0 ((.node k s n a l) :: List.replicate j (altT i (List.replicate i vx ++ [.node k s n a l])))) C := TIn.mk (by decide) (by simp; omega) (RowTr.owned hrow hown (fun _ _ => trivial) (fun _ _ _ => trivial))
                obtain ⟨mc, hmc⟩ : ∃ b, b = (decide (1 ≤ j) && (decide (j ≤ 8) && decide (i ≤ 8))) := ⟨_, rfl⟩
                have M1 : Calls Tryd.prog 26 #[.agg #[.int .i64 7, .string ⟨#[]⟩, .int .i64 0, .int .i64 0, .slice C (j + 1) cc]] wr fun e w' => e = .returned (.bool mc) ∧ Below wr.heap.size wr w' := by
                  have h := tmay_any (.node 7 ⟨#[]⟩ 0 0 ((.node k s n a l) :: List.replicate j (altT i (List.replicate i vx ++ [.node k s n a l])))) C cc wr hTc hsg
                  rw [may_c i j _ HMV.out, ← hmc] at h
                  have e : tv (.node 7 ⟨#[]⟩ 0 0 ((.node k s n a l) :: List.replicate j (altT i (List.replicate i vx ++ [.node k s n a l])))) C cc = .agg #[.int .i64 7, .string ⟨#[]⟩, .int .i64 0, .int .i64 0, .slice C (j + 1) cc] := by simp [tv, Tr.kind, Tr.name, Tr.n, Tr.place, Tr.parts]
                  rw [e] at h
                  exact h
                have M2 := Lib.hid (show ∀ W, Below wr.heap.size wr W → Calls Tryd.prog 26 #[.agg #[.int .i64 7, .string ⟨#[]⟩, .int .i64 0, .int .i64 0, .slice (some ⟨qr, 0, none⟩) 2 2]] W fun e w' => e = .returned (.bool false) ∧ Below W.heap.size W w' from fun W hb => by
                  have h := tmay_any (.node 7 ⟨#[]⟩ 0 0 [.node k s n a l, altT i (List.replicate i vx)]) (some ⟨qr, 0, none⟩) 2 W (TIn.below _ hTl' hb (Nat.le_refl _)) (hsg.below hb hsg.pos)
                  rw [may_less] at h
                  exact h)
                have M3 := Lib.hid (show ∀ W, Below wr.heap.size wr W → Calls Tryd.prog 26 #[.agg #[.int .i64 8, .string ⟨#[65]⟩, .int .i64 i, .int .i64 0, .slice B2 (i + 1) c2]] W fun e w' => e = .returned (.bool false) ∧ Below W.heap.size W w' from fun W hb => by
                  have h := tmay_any (altT i (List.replicate i vx ++ [.node k s n a l])) B2 c2 W (TIn.below _ hT8' hb (Nat.le_refl _)) (hsg.below hb hsg.pos)
                  rw [may_alone] at h
                  have e : tv (altT i (List.replicate i vx ++ [.node k s n a l])) B2 c2 = .agg #[.int .i64 8, .string ⟨#[65]⟩, .int .i64 i, .int .i64 0, .slice B2 (i + 1) c2] := by simp [altT, tv, Tr.kind, Tr.name, Tr.n, Tr.place, Tr.parts]
                  rw [e] at h
                  exact h)
                have M4 := Lib.hid (show ∀ W, Below wr.heap.size wr W → Calls Tryd.prog 26 #[.agg #[.int .i64 2, .string ⟨#[120]⟩, .int .i64 0, .int .i64 0, .slice (some ⟨W.heap.size, 0, none⟩) 1 1]] (W.alloc (.cells #[.int .i64 8, .string ⟨#[65]⟩, .int .i64 i, .int .i64 0, .slice B2 (i + 1) c2] 33)) fun e w' => e = .returned (.bool false) ∧ Below (W.alloc (.cells #[.int .i64 8, .string ⟨#[65]⟩, .int .i64 i, .int .i64 0, .slice B2 (i + 1) c2] 33)).heap.size (W.alloc (.cells #[.int .i64 8, .string ⟨#[65]⟩, .int .i64 i, .int .i64 0, .slice B2 (i + 1) c2] 33)) w' from fun W hb => by
                  have hba := hb.alloc hb.size (.cells #[.int .i64 8, .string ⟨#[65]⟩, .int .i64 i, .int .i64 0, .slice B2 (i + 1) c2] 33)
                  have h := tmay_any (.node 2 ⟨#[120]⟩ 0 0 [altT i (List.replicate i vx ++ [.node k s n a l])]) (some ⟨W.heap.size, 0, none⟩) 1 (W.alloc (.cells #[.int .i64 8, .string ⟨#[65]⟩, .int .i64 i, .int .i64 0, .slice B2 (i + 1) c2] 33)) (TIn.mk (by decide) (by simp) (LIn.one (c1 := c2) (Lies.new W 33 #[.int .i64 8, .string ⟨#[65]⟩, .int .i64 i, .int .i64 0, .slice B2 (i + 1) c2]) hy.symm trivial (TIn.below _ hT8' hba (Nat.le_refl _)))) (hsg.below hba hsg.pos)
                  rw [may_lam] at h
                  exact h)
                obtain ⟨⟨y0, y1, y2, y3, y4⟩, _⟩ := l10.five
                clear hTc hrow hy hT8 hTl hT8' hTl' l7 l9 hown hlto hlen hnb l10
                by_cases h1 : 1 ≤ j
                · have h1' : (1 : Int) ≤ (j : Int) := by omega
                  by_cases h2 : j ≤ 8
                  · have h2' : (j : Int) ≤ 8 := by omega
                    by_cases h3 : i ≤ 8
                    · have h3' : (i : Int) ≤ 8 := by omega
                      obtain rfl : mc = true := by rw [hmc]; simp [h1, h2, h3]
                      clear hmc
                      go_wp2_with fail
                      refine M1.mono ?_
                      rintro e wa ⟨rfl, hba⟩
                      obtain ⟨⟨x0, x1, x2, x3, x4⟩, _⟩ := (m9.below hba m9.lt).five
                      go_wp2_with fail
                      refine (M2.out _ hba).mono ?_
                      rintro e wb ⟨rfl, hbb⟩
                      have hbb' := hba.trans (hbb.mono hba.size)
                      clear x0 x1 x2 x3 x4
                      obtain ⟨⟨x0, x1, x2, x3, x4⟩, _⟩ := (m7.below hbb' m7.lt).five
                      go_wp2_with fail
                      refine (M3.out _ hbb').mono ?_
                      rintro e wd ⟨rfl, hbd⟩
                      have hbd' := hbb'.trans (hbd.mono hbb'.size)
                      clear x0 x1 x2 x3 x4
                      obtain ⟨⟨x0, x1, x2, x3, x4⟩, _⟩ := (m7.below hbd' m7.lt).five
                      go_wp2_with fail
                      refine (M4.out _ hbd').mono ?_
                      rintro e we ⟨rfl, hbe⟩
                      clear x0 x1 x2 x3 x4
                      go_wp2_with fail
                      go_ret
                      exact ⟨by first | rfl | (simp; omega), (hA'.step (below_al hbd' hbe)).bw⟩
                    · have h3' : ¬ (i : Int) ≤ 8 := by omega
                      obtain rfl : mc = false := by rw [hmc]; simp [h3]
                      clear hmc
                      go_wp2_with fail
                      refine M1.mono ?_
                      rintro e wa ⟨rfl, hba⟩
                      obtain ⟨⟨x0, x1, x2, x3, x4⟩, _⟩ := (m9.below hba m9.lt).five
                      go_wp2_with fail
                      refine (M2.out _ hba).mono ?_
                      rintro e wb ⟨rfl, hbb⟩
                      have hbb' := hba.trans (hbb.mono hba.size)
                      clear x0 x1 x2 x3 x4
                      obtain ⟨⟨x0, x1, x2, x3, x4⟩, _⟩ := (m7.below hbb' m7.lt).five
                      go_wp2_with fail
                      refine (M3.out _ hbb').mono ?_
                      rintro e wd ⟨rfl, hbd⟩
                      have hbd' := hbb'.trans (hbd.mono hbb'.size)
                      clear x0 x1 x2 x3 x4
                      obtain ⟨⟨x0, x1, x2, x3, x4⟩, _⟩ := (m7.below hbd' m7.lt).five
                      go_wp2_with fail
                      refine (M4.out _ hbd').mono ?_
                      rintro e we ⟨rfl, hbe⟩
                      clear x0 x1 x2 x3 x4
                      go_wp2_with fail
                      go_ret
                      exact ⟨by first | rfl | (simp; omega), (hA'.step (below_al hbd' hbe)).bw⟩
                  · have h2' : ¬ (j : Int) ≤ 8 := by omega
                    obtain rfl : mc = false := by rw [hmc]; simp [h2]
                    clear hmc
                    go_wp2_with fail
                    refine M1.mono ?_
                    rintro e wa ⟨rfl, hba⟩
                    obtain ⟨⟨x0, x1, x2, x3, x4⟩, _⟩ := (m9.below hba m9.lt).five
                    go_wp2_with fail
                    refine (M2.out _ hba).mono ?_
                    rintro e wb ⟨rfl, hbb⟩
                    have hbb' := hba.trans (hbb.mono hba.size)
                    clear x0 x1 x2 x3 x4
                    obtain ⟨⟨x0, x1, x2, x3, x4⟩, _⟩ := (m7.below hbb' m7.lt).five
                    go_wp2_with fail
                    refine (M3.out _ hbb').mono ?_
                    rintro e wd ⟨rfl, hbd⟩
                    have hbd' := hbb'.trans (hbd.mono hbb'.size)
                    clear x0 x1 x2 x3 x4
                    obtain ⟨⟨x0, x1, x2, x3, x4⟩, _⟩ := (m7.below hbd' m7.lt).five
                    go_wp2_with fail
                    refine (M4.out _ hbd').mono ?_
                    rintro e we ⟨rfl, hbe⟩
                    clear x0 x1 x2 x3 x4
                    go_wp2_with fail
                    go_ret
                    exact ⟨by first | rfl | (simp; omega), (hA'.step (below_al hbd' hbe)).bw⟩
                · have h1' : ¬ (1 : Int) ≤ (j : Int) := by omega
                  obtain rfl : mc = false := by rw [hmc]; simp [h1]
                  clear hmc
                  go_wp2_with fail
                  refine M1.mono ?_
                  rintro e wa ⟨rfl, hba⟩
                  obtain ⟨⟨x0, x1, x2, x3, x4⟩, _⟩ := (m9.below hba m9.lt).five
                  go_wp2_with fail
                  refine (M2.out _ hba).mono ?_
                  rintro e wb ⟨rfl, hbb⟩
                  have hbb' := hba.trans (hbb.mono hba.size)
                  clear x0 x1 x2 x3 x4
                  obtain ⟨⟨x0, x1, x2, x3, x4⟩, _⟩ := (m7.below hbb' m7.lt).five
                  go_wp2_with fail
                  refine (M3.out _ hbb').mono ?_
                  rintro e wd ⟨rfl, hbd⟩
                  have hbd' := hbb'.trans (hbd.mono hbb'.size)
                  clear x0 x1 x2 x3 x4
                  obtain ⟨⟨x0, x1, x2, x3, x4⟩, _⟩ := (m7.below hbd' m7.lt).five
                  go_wp2_with fail
                  refine (M4.out _ hbd').mono ?_
                  rintro e we ⟨rfl, hbe⟩
                  clear x0 x1 x2 x3 x4
                  go_wp2_with fail
                  go_ret
                  exact ⟨by first | rfl | (simp; omega), (hA'.step (below_al hbd' hbe)).bw⟩
end Lx
end Go.Proofs.YtnljlocogfacfaaDoor
