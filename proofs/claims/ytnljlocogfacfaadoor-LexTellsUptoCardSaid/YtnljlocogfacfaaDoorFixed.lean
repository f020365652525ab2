/-
  Walk of fixed: the calls whose answers the document fixes.
-/
import Derived.Test.YtnljlocogfacfaaDoorBld
import Derived.Test.YtnljlocogfacfaaDoorAllRow
import Derived.WalkSmall
namespace Go.Proofs.YtnljlocogfacfaaDoor
open Go.RowKit
namespace Lx
set_option maxRecDepth 100000
def ts1 : List Tok := [⟨5, [92], 0, 0⟩, ⟨1, [120], 0, 1⟩, ⟨5, [46], 0, 2⟩, ⟨1, [120], 0, 3⟩]
def ts5 : List Tok := [⟨4, [108, 101, 116, 114, 101, 99], 0, 0⟩, ⟨2, [65, 98], 0, 7⟩, ⟨5, [45, 62], 0, 9⟩, ⟨3, [52, 48], 40, 11⟩]
theorem fix1 : allK [92, 120, 46, 120] = .ok ts1 := by kernel_rfl
theorem fix2 : allK [108, 101, 116, 32, 48, 49] = .error (4, 11) := by kernel_rfl
theorem fix3 : allK [32, 32, 63] = .error (2, 10) := by kernel_rfl
theorem fix4 : allK [120, 32, 49, 97] = .error (2, 10) := by kernel_rfl
theorem fix5 : allK [108, 101, 116, 114, 101, 99, 32, 65, 98, 45, 62, 52, 48] = .ok ts5 := by kernel_rfl

theorem same_self (A B : Option Addr) (a : List Tok) (n c d : Nat) (hn : a.length = n) (w : World) (ha : Row w A a) (hb : Row w B a) (hs : n ≤ 60000) :
    Calls Tryd.prog 14 #[.slice A n c, .slice B n d] w fun e w' => e = .returned (.bool true) ∧ ∃ k, w' = w.drewN k := by
  refine (same_any A B a a n n c d hn.symm hn.symm w ha hb hs hs).mono ?_
  rintro e w' ⟨rfl, hk⟩
  exact ⟨by simp, hk⟩

theorem want_row (w : World) : Row (w.alloc (.cells #[.int .i64 5, .string ⟨#[92]⟩, .int .i64 0, .int .i64 0, .int .i64 1, .string ⟨#[120]⟩, .int .i64 0, .int .i64 1, .int .i64 5, .string ⟨#[46]⟩, .int .i64 0, .int .i64 2, .int .i64 1, .string ⟨#[120]⟩, .int .i64 0, .int .i64 3] 48)) (some ⟨w.heap.size, 0, none⟩) ts1 := by
  intro _
  refine ⟨w.heap.size, 0, rfl, fun n u hu => ?_⟩
  rw [Nat.zero_add, (Lies.new w 48 _).cell n, ← hu, ← Array.getElem?_toList]
  rfl

set_option maxHeartbeats 4000000 in
theorem fixed_any (w : World) (hg : Signs w) : Calls Tryd.prog 11 #[] w fun e w' => e = .returned (.bool true) ∧ Below w.heap.size w w' := by
  have hpos := hg.pos
  go_enter Tryd.func11, Tryd.ntmps11
  go_wp2_with fail
  refine (all_good' _ ts1 4 rfl w (by decide) hg fix1).mono ?_
  rintro e w1 ⟨A1, c1, rfl, hr1, hb1⟩
  have hg1 : Signs w1 := hg.below hb1 hpos
  have hs1 := hb1.size
  clear hg
  go_wp2_with fail
  have hr2 := want_row w1
  have hg2 := hg1.below ((Below.refl _ w1).alloc (Nat.le_refl _) (.cells #[.int .i64 5, .string ⟨#[92]⟩, .int .i64 0, .int .i64 0, .int .i64 1, .string ⟨#[120]⟩, .int .i64 0, .int .i64 1, .int .i64 5, .string ⟨#[46]⟩, .int .i64 0, .int .i64 2, .int .i64 1, .string ⟨#[120]⟩, .int .i64 0, .int .i64 3] 48)) (by omega)
  refine (all_bad _ 4 11 _ (by decide) hg2 fix2).mono ?_
  rintro e w2 ⟨rfl, hb2⟩
  have hs2 := hb2.size
  have hr1' := (hr1.below ((Below.refl _ w1).alloc (Nat.le_refl _) _) (Nat.le_refl _)).below hb2 (Nat.le_refl _)
  have hr2' := hr2.below hb2 (Nat.le_refl _)
  have hg3 := hg2.below hb2 (by simp)
  have hB2 : Below w.heap.size w w2 := ((hb1.alloc hs1 _).trans (hb2.mono (by simp; omega)))
  simp at hs2
  clear hr1 hr2 hg1 hg2 hb1 hb2
  go_wp2_with fail
  refine (all_bad _ 2 10 _ (by decide) hg3 fix3).mono ?_
  rintro e w3 ⟨rfl, hb3⟩
  have hs3 := hb3.size
  have hr1 := hr1'.below hb3 (Nat.le_refl _)
  have hr2 := hr2'.below hb3 (Nat.le_refl _)
  have hg4 := hg3.below hb3 (by omega)
  have hB3 := hB2.trans (hb3.mono (by omega))
  clear hr1' hr2' hg3 hB2 hb3
  go_wp2_with fail
  refine (all_bad _ 2 10 _ (by decide) hg4 fix4).mono ?_
  rintro e w4 ⟨rfl, hb4⟩
  have hs4 := hb4.size
  have hr1' := hr1.below hb4 (Nat.le_refl _)
  have hr2' := hr2.below hb4 (Nat.le_refl _)
  have hg5 := hg4.below hb4 (by omega)
  have hB4 := hB3.trans (hb4.mono (by omega))
  clear hr1 hr2 hg4 hB3 hb4
  go_wp2_with fail
  refine (all_good' _ ts5 4 rfl _ (by decide) hg5 fix5).mono ?_
  rintro e w5 ⟨A5, c5, rfl, hr5, hb5⟩
  have hs5 := hb5.size
  have hr1 := hr1'.below hb5 (Nat.le_refl _)
  have hr2 := hr2'.below hb5 (Nat.le_refl _)
  have hB5 := hB4.trans (hb5.mono (by omega))
  clear hr1' hr2' hg5 hB4 hb5
  go_wp2_with fail
  refine (same_self A1 _ ts1 4 c1 4 rfl _ hr1 hr2 (by decide)).mono ?_
  rintro e w6 ⟨rfl, k, rfl⟩
  obtain ⟨g, o, hA, d00, d01, d02, d03⟩ := hr5.at_ (i := 0) (by decide)
  subst hA
  obtain ⟨g', o', hA, d10, d11, d12, d13⟩ := hr5.at_ (i := 1) (by decide)
  injection hA with hA
  injection hA with hA1 hA2
  subst hA1 hA2
  obtain ⟨g', o', hA, d20, d21, d22, d23⟩ := hr5.at_ (i := 2) (by decide)
  injection hA with hA
  injection hA with hA1 hA2
  subst hA1 hA2
  obtain ⟨g', o', hA, d30, d31, d32, d33⟩ := hr5.at_ (i := 3) (by decide)
  injection hA with hA
  injection hA with hA1 hA2
  subst hA1 hA2
  simp [ts5] at d00 d10 d21 d32
  clear hr5 hr1 d01 d02 d03 d11 d12 d13 d20 d22 d23 d30 d31 d33
  go_wp2_with fail
  have hr2k : Row (w5.drewN k) (some ⟨w1.heap.size, 0, none⟩) ts1 := hr2
  refine (text_any _ ts1 4 4 rfl _ hr2k (by decide) (by decide)).mono ?_
  rintro e w6 ⟨rfl, hb6⟩
  have hB6 : Below w.heap.size w w6 := (below_drewN hB5 k).trans (hb6.mono (by simp; omega))
  rw [show textS ts1 = [92, 32, 120, 32, 46, 32, 120] from rfl]
  clear hr2 hr2k hb6 hB5
  go_wp2_with fail
  refine (word_any _ _).mono ?_
  rintro e w' ⟨rfl, rfl⟩
  rw [show wordS (⟨#[111, 102]⟩ : ByteArray).data.toList = true from rfl]
  go_wp2_with fail
  refine (word_any _ _).mono ?_
  rintro e w' ⟨rfl, rfl⟩
  rw [show wordS (⟨#[111, 102, 102]⟩ : ByteArray).data.toList = false from rfl]
  go_wp2_with fail
  go_ret
  exact ⟨rfl, hB6⟩
end Lx
end Go.Proofs.YtnljlocogfacfaaDoor
