/-
  What the document fixes of layer 12.
-/
import Derived.Test.YtceblpjlklogpaaDoorC6
import Derived.Test.YtceblpjlklogpaaDoorC3
namespace Go.Proofs.YtceblpjlklogpaaDoor
open Go Go.RowKit
namespace Lx
set_option maxRecDepth 100000
def nRoot : Nd := ⟨1, 0, 0, ⟨#[]⟩, [], [(1, 0)]⟩
def nLam : Nd := ⟨2, 2, 0, ⟨#[]⟩, [], [(0, 0), (0, 0), (0, 0)]⟩
def nInt : Nd := ⟨10, 0, 5, ⟨#[]⟩, [], [(0, 0)]⟩
def nFl : Nd := ⟨13, 0, 0, ⟨#[]⟩, [], [(0, 0)]⟩
def nsN : List Nd := [nRoot, nFl]
def nsA : List Nd := [nRoot, nFl, nLam]
def nsC : List Nd := [nRoot, Nd.zero, nLam]
def nsD : List Nd := [nRoot, nInt, nLam]
theorem fx_small (l : List Nd) (h : l = nsN ∨ l = nsA ∨ l = nsC ∨ l = nsD) : ∀ i, i < l.length → (ndAt l i).to.length ≤ 100000 ∧ (ndAt l i).alts.length ≤ 100000 := by
  rcases h with rfl | rfl | rfl | rfl <;> decide
theorem fx_nd (k l n : Int) (w : World) : NdIn w AnyB ⟨k, l, n, ⟨#[]⟩, [], []⟩ none none := ⟨⟨by show (⟨#[]⟩ : ByteArray).size ≤ _; decide, by show 0 ≤ _; decide, by show 0 ≤ _; decide⟩, AltIn.nil, ToIn.nil⟩
theorem fx1 : makeV nsN 3 (⟨2, 2, 0, ⟨#[]⟩, [], []⟩ : Nd) = (nsA, 2, 0) := by rfl
theorem fx2 : makeV nsA 3 (⟨7, 0, 0, ⟨#[]⟩, [], []⟩ : Nd) = (nsA, 0, 121) := by rfl
theorem fx3 : makeV nsN 3 (⟨8, 0, 0, ⟨#[]⟩, [], []⟩ : Nd) = (nsN, 0, 122) := by rfl
theorem fx4 : freeV nsA 2 = (nsN, 0) := by rfl
theorem fx5 : freeV nsA 1 = (nsC, 0) := by rfl
theorem fx6 : makeV nsC 3 (⟨10, 0, 5, ⟨#[]⟩, [], []⟩ : Nd) = (nsD, 1, 0) := by rfl
theorem fx7 : checkI nsN 3 = 0 := by rfl
theorem fx8 : checkI nsA 3 = 120 := by rfl
set_option maxHeartbeats 16000000 in
theorem fixed12_any (w : World) (hT : PTab w) : Calls Tryd.prog 8 #[] w fun e w' => e = .returned (.bool true) ∧ Below w.heap.size w w' := by
  have HBW := Lib.hid (Below.refl w.heap.size w)
  have HC1 : Hid (Calls Tryd.prog 18 #[.int .i64 3] w (GivesNet nsN 3 [.int .i64 0] w)) := Lib.hid (new_any 3 w (by decide))
  go_enter Tryd.func8, Tryd.ntmps8
  go_wp2_with fail
  refine HC1.out.mono ?_
  rintro e u1 ⟨A1, d1, he, hN1, hb1⟩
  obtain ⟨c1, hc1⟩ : ∃ c, c = capN 2 d1 := ⟨_, rfl⟩
  have he2 : e = .returned (.tuple #[.agg #[.slice A1 2 c1, .int .i64 3], .int .i64 0]) := by rw [hc1]; exact he
  subst he2
  clear he hc1 HC1 
  go_upto_region 2 with fail
  obtain ⟨V1, hV1⟩ : ∃ V, V = u1.alloc (.cells #[.slice A1 2 c1, .int .i64 3] 24) := ⟨_, rfl⟩
  have hbv1 : Below u1.heap.size u1 V1 := by rw [hV1]; exact (Below.refl _ u1).alloc (Nat.le_refl _) _
  have HL1 : Hid (Lies V1 u1.heap.size 24 #[.slice A1 2 c1, .int .i64 3]) := Lib.hid (by rw [hV1]; exact Lies.new _ _ _)
  have HN1 : Hid (NdsIn V1 AnyB nsN A1) := Lib.hid (hN1.any.below hbv1 (Nat.le_refl _))
  have hs1 := hb1.trans (hbv1.mono hb1.size)
  replace HBW := Lib.hid (HBW.out.trans (hs1.mono HBW.out.size))
  rw [← hV1]
  obtain ⟨g1, hg1⟩ : ∃ g, g = u1.heap.size := ⟨_, rfl⟩
  rw [← hg1] at HL1 ⊢
  clear hV1 hb1 hbv1 hs1 hN1 hg1
  obtain ⟨p1, q1⟩ := two_cells HL1.out
  have HC2 : Hid (Calls Tryd.prog 12 #[.agg #[.slice A1 2 c1, .int .i64 3], .agg #[.int .i64 2, .int .i64 2, .int .i64 0, .string ⟨#[]⟩, .slice none 0 0, .slice none 0 0]] V1 (GivesNet nsA 3 [.int .i64 2, .int .i64 0] V1)) := Lib.hid (by
    have h := make_any nsN A1 2 c1 3 (⟨2, 2, 0, ⟨#[]⟩, [], []⟩ : Nd) none none 0 0 V1 rfl (by decide) (by decide) (fx_small _ (by simp)) HN1.out (fx_nd _ _ _ _) (by decide) (by decide) (hT.below HBW.out (Nat.le_refl _))
    rw [fx1] at h
    exact h)
  go_wp2_with fail
  refine HC2.out.mono ?_
  rintro e u2 ⟨A2, d2, he, hN2, hb2⟩
  obtain ⟨c2, hc2⟩ : ∃ c, c = capN 3 d2 := ⟨_, rfl⟩
  have he2 : e = .returned (.tuple #[.agg #[.slice A2 3 c2, .int .i64 3], .int .i64 2, .int .i64 0]) := by rw [hc2]; exact he
  subst he2
  clear he hc2 HC2 p1 q1
  go_upto_region 3 with fail
  obtain ⟨V2, hV2⟩ : ∃ V, V = u2.alloc (.cells #[.slice A2 3 c2, .int .i64 3] 24) := ⟨_, rfl⟩
  have hbv2 : Below u2.heap.size u2 V2 := by rw [hV2]; exact (Below.refl _ u2).alloc (Nat.le_refl _) _
  have HL2 : Hid (Lies V2 u2.heap.size 24 #[.slice A2 3 c2, .int .i64 3]) := Lib.hid (by rw [hV2]; exact Lies.new _ _ _)
  have HN2 : Hid (NdsIn V2 AnyB nsA A2) := Lib.hid (hN2.any.below hbv2 (Nat.le_refl _))
  have hs2 := hb2.trans (hbv2.mono hb2.size)
  replace HL1 := Lib.hid (HL1.out.below hs2 HL1.out.lt)
  replace HN1 := Lib.hid (HN1.out.below hs2 (Nat.le_refl _))
  replace HBW := Lib.hid (HBW.out.trans (hs2.mono HBW.out.size))
  rw [← hV2]
  obtain ⟨g2, hg2⟩ : ∃ g, g = u2.heap.size := ⟨_, rfl⟩
  rw [← hg2] at HL2 ⊢
  clear hV2 hb2 hbv2 hs2 hN2 hg2
  obtain ⟨p2, q2⟩ := two_cells HL2.out
  have HC3 : Hid (Calls Tryd.prog 12 #[.agg #[.slice A2 3 c2, .int .i64 3], .agg #[.int .i64 7, .int .i64 0, .int .i64 0, .string ⟨#[]⟩, .slice none 0 0, .slice none 0 0]] V2 (GivesNet nsA 3 [.int .i64 0, .int .i64 121] V2)) := Lib.hid (by
    have h := make_any nsA A2 3 c2 3 (⟨7, 0, 0, ⟨#[]⟩, [], []⟩ : Nd) none none 0 0 V2 rfl (by decide) (by decide) (fx_small _ (by simp)) HN2.out (fx_nd _ _ _ _) (by decide) (by decide) (hT.below HBW.out (Nat.le_refl _))
    rw [fx2] at h
    exact h)
  go_wp2_with fail
  refine HC3.out.mono ?_
  rintro e u3 ⟨A3, d3, he, hN3, hb3⟩
  obtain ⟨c3, hc3⟩ : ∃ c, c = capN 3 d3 := ⟨_, rfl⟩
  have he2 : e = .returned (.tuple #[.agg #[.slice A3 3 c3, .int .i64 3], .int .i64 0, .int .i64 121]) := by rw [hc3]; exact he
  subst he2
  clear he hc3 HC3 p2 q2
  go_upto_region 4 with fail
  obtain ⟨V3, hV3⟩ : ∃ V, V = u3.alloc (.cells #[.slice A3 3 c3, .int .i64 3] 24) := ⟨_, rfl⟩
  have hbv3 : Below u3.heap.size u3 V3 := by rw [hV3]; exact (Below.refl _ u3).alloc (Nat.le_refl _) _
  have HL3 : Hid (Lies V3 u3.heap.size 24 #[.slice A3 3 c3, .int .i64 3]) := Lib.hid (by rw [hV3]; exact Lies.new _ _ _)
  have HN3 : Hid (NdsIn V3 AnyB nsA A3) := Lib.hid (hN3.any.below hbv3 (Nat.le_refl _))
  have hs3 := hb3.trans (hbv3.mono hb3.size)
  replace HL1 := Lib.hid (HL1.out.below hs3 HL1.out.lt)
  replace HN1 := Lib.hid (HN1.out.below hs3 (Nat.le_refl _))
  replace HL2 := Lib.hid (HL2.out.below hs3 HL2.out.lt)
  replace HN2 := Lib.hid (HN2.out.below hs3 (Nat.le_refl _))
  replace HBW := Lib.hid (HBW.out.trans (hs3.mono HBW.out.size))
  rw [← hV3]
  obtain ⟨g3, hg3⟩ : ∃ g, g = u3.heap.size := ⟨_, rfl⟩
  rw [← hg3] at HL3 ⊢
  clear hV3 hb3 hbv3 hs3 hN3 hg3
  obtain ⟨p1, q1⟩ := two_cells HL1.out
  have HC4 : Hid (Calls Tryd.prog 12 #[.agg #[.slice A1 2 c1, .int .i64 3], .agg #[.int .i64 8, .int .i64 0, .int .i64 0, .string ⟨#[]⟩, .slice none 0 0, .slice none 0 0]] V3 (GivesNet nsN 3 [.int .i64 0, .int .i64 122] V3)) := Lib.hid (by
    have h := make_any nsN A1 2 c1 3 (⟨8, 0, 0, ⟨#[]⟩, [], []⟩ : Nd) none none 0 0 V3 rfl (by decide) (by decide) (fx_small _ (by simp)) HN1.out (fx_nd _ _ _ _) (by decide) (by decide) (hT.below HBW.out (Nat.le_refl _))
    rw [fx3] at h
    exact h)
  go_wp2_with fail
  refine HC4.out.mono ?_
  rintro e u4 ⟨A4, d4, he, hN4, hb4⟩
  obtain ⟨c4, hc4⟩ : ∃ c, c = capN 2 d4 := ⟨_, rfl⟩
  have he2 : e = .returned (.tuple #[.agg #[.slice A4 2 c4, .int .i64 3], .int .i64 0, .int .i64 122]) := by rw [hc4]; exact he
  subst he2
  clear he hc4 HC4 p1 q1
  go_upto_region 5 with fail
  obtain ⟨V4, hV4⟩ : ∃ V, V = u4.alloc (.cells #[.slice A4 2 c4, .int .i64 3] 24) := ⟨_, rfl⟩
  have hbv4 : Below u4.heap.size u4 V4 := by rw [hV4]; exact (Below.refl _ u4).alloc (Nat.le_refl _) _
  have HL4 : Hid (Lies V4 u4.heap.size 24 #[.slice A4 2 c4, .int .i64 3]) := Lib.hid (by rw [hV4]; exact Lies.new _ _ _)
  have HN4 : Hid (NdsIn V4 AnyB nsN A4) := Lib.hid (hN4.any.below hbv4 (Nat.le_refl _))
  have hs4 := hb4.trans (hbv4.mono hb4.size)
  replace HL1 := Lib.hid (HL1.out.below hs4 HL1.out.lt)
  replace HN1 := Lib.hid (HN1.out.below hs4 (Nat.le_refl _))
  replace HL2 := Lib.hid (HL2.out.below hs4 HL2.out.lt)
  replace HN2 := Lib.hid (HN2.out.below hs4 (Nat.le_refl _))
  replace HL3 := Lib.hid (HL3.out.below hs4 HL3.out.lt)
  replace HN3 := Lib.hid (HN3.out.below hs4 (Nat.le_refl _))
  replace HBW := Lib.hid (HBW.out.trans (hs4.mono HBW.out.size))
  rw [← hV4]
  obtain ⟨g4, hg4⟩ : ∃ g, g = u4.heap.size := ⟨_, rfl⟩
  rw [← hg4] at HL4 ⊢
  clear hV4 hb4 hbv4 hs4 hN4 hg4
  obtain ⟨p2, q2⟩ := two_cells HL2.out
  have HC5 : Hid (Calls Tryd.prog 17 #[.agg #[.slice A2 3 c2, .int .i64 3], .int .i64 2] V4 (GivesNet nsN 3 [.int .i64 0] V4)) := Lib.hid (by
    have h := free_any nsA A2 3 c2 3 2 V4 rfl (by decide) (by decide) (fx_small _ (by simp)) HN2.out
    rw [fx4] at h
    exact h)
  go_wp2_with fail
  refine HC5.out.mono ?_
  rintro e u5 ⟨A5, d5, he, hN5, hb5⟩
  obtain ⟨c5, hc5⟩ : ∃ c, c = capN 2 d5 := ⟨_, rfl⟩
  have he2 : e = .returned (.tuple #[.agg #[.slice A5 2 c5, .int .i64 3], .int .i64 0]) := by rw [hc5]; exact he
  subst he2
  clear he hc5 HC5 p2 q2
  go_upto_region 6 with fail
  obtain ⟨V5, hV5⟩ : ∃ V, V = u5.alloc (.cells #[.slice A5 2 c5, .int .i64 3] 24) := ⟨_, rfl⟩
  have hbv5 : Below u5.heap.size u5 V5 := by rw [hV5]; exact (Below.refl _ u5).alloc (Nat.le_refl _) _
  have HL5 : Hid (Lies V5 u5.heap.size 24 #[.slice A5 2 c5, .int .i64 3]) := Lib.hid (by rw [hV5]; exact Lies.new _ _ _)
  have HN5 : Hid (NdsIn V5 AnyB nsN A5) := Lib.hid (hN5.any.below hbv5 (Nat.le_refl _))
  have hs5 := hb5.trans (hbv5.mono hb5.size)
  replace HL1 := Lib.hid (HL1.out.below hs5 HL1.out.lt)
  replace HN1 := Lib.hid (HN1.out.below hs5 (Nat.le_refl _))
  replace HL2 := Lib.hid (HL2.out.below hs5 HL2.out.lt)
  replace HN2 := Lib.hid (HN2.out.below hs5 (Nat.le_refl _))
  replace HL3 := Lib.hid (HL3.out.below hs5 HL3.out.lt)
  replace HN3 := Lib.hid (HN3.out.below hs5 (Nat.le_refl _))
  replace HL4 := Lib.hid (HL4.out.below hs5 HL4.out.lt)
  replace HN4 := Lib.hid (HN4.out.below hs5 (Nat.le_refl _))
  replace HBW := Lib.hid (HBW.out.trans (hs5.mono HBW.out.size))
  rw [← hV5]
  obtain ⟨g5, hg5⟩ : ∃ g, g = u5.heap.size := ⟨_, rfl⟩
  rw [← hg5] at HL5 ⊢
  clear hV5 hb5 hbv5 hs5 hN5 hg5

  have HC6 : Hid (Calls Tryd.prog 18 #[.int .i64 1] V5 (GivesNet [] 0 [.int .i64 1] V5)) := Lib.hid (newNo_any 1 V5 (by decide))
  go_wp2_with fail
  refine HC6.out.mono ?_
  rintro e u6 ⟨A6, d6, he, hN6, hb6⟩
  obtain ⟨c6, hc6⟩ : ∃ c, c = capN 0 d6 := ⟨_, rfl⟩
  have he2 : e = .returned (.tuple #[.agg #[.slice A6 0 c6, .int .i64 0], .int .i64 1]) := by rw [hc6]; exact he
  subst he2
  clear he hc6 HC6 
  go_upto_region 7 with fail
  obtain ⟨V6, hV6⟩ : ∃ V, V = u6.alloc (.cells #[.slice A6 0 c6, .int .i64 0] 24) := ⟨_, rfl⟩
  have hbv6 : Below u6.heap.size u6 V6 := by rw [hV6]; exact (Below.refl _ u6).alloc (Nat.le_refl _) _
  have HL6 : Hid (Lies V6 u6.heap.size 24 #[.slice A6 0 c6, .int .i64 0]) := Lib.hid (by rw [hV6]; exact Lies.new _ _ _)
  have HN6 : Hid (NdsIn V6 AnyB ([] : List Nd) A6) := Lib.hid (hN6.any.below hbv6 (Nat.le_refl _))
  have hs6 := hb6.trans (hbv6.mono hb6.size)
  replace HL1 := Lib.hid (HL1.out.below hs6 HL1.out.lt)
  replace HN1 := Lib.hid (HN1.out.below hs6 (Nat.le_refl _))
  replace HL2 := Lib.hid (HL2.out.below hs6 HL2.out.lt)
  replace HN2 := Lib.hid (HN2.out.below hs6 (Nat.le_refl _))
  replace HL3 := Lib.hid (HL3.out.below hs6 HL3.out.lt)
  replace HN3 := Lib.hid (HN3.out.below hs6 (Nat.le_refl _))
  replace HL4 := Lib.hid (HL4.out.below hs6 HL4.out.lt)
  replace HN4 := Lib.hid (HN4.out.below hs6 (Nat.le_refl _))
  replace HL5 := Lib.hid (HL5.out.below hs6 HL5.out.lt)
  replace HN5 := Lib.hid (HN5.out.below hs6 (Nat.le_refl _))
  replace HBW := Lib.hid (HBW.out.trans (hs6.mono HBW.out.size))
  rw [← hV6]
  obtain ⟨g6, hg6⟩ : ∃ g, g = u6.heap.size := ⟨_, rfl⟩
  rw [← hg6] at HL6 ⊢
  clear hV6 hb6 hbv6 hs6 hN6 hg6
  obtain ⟨p2, q2⟩ := two_cells HL2.out
  have HC7 : Hid (Calls Tryd.prog 17 #[.agg #[.slice A2 3 c2, .int .i64 3], .int .i64 1] V6 (GivesNet nsC 3 [.int .i64 0] V6)) := Lib.hid (by
    have h := free_any nsA A2 3 c2 3 1 V6 rfl (by decide) (by decide) (fx_small _ (by simp)) HN2.out
    rw [fx5] at h
    exact h)
  go_wp2_with fail
  refine HC7.out.mono ?_
  rintro e u7 ⟨A7, d7, he, hN7, hb7⟩
  obtain ⟨c7, hc7⟩ : ∃ c, c = capN 3 d7 := ⟨_, rfl⟩
  have he2 : e = .returned (.tuple #[.agg #[.slice A7 3 c7, .int .i64 3], .int .i64 0]) := by rw [hc7]; exact he
  subst he2
  clear he hc7 HC7 p2 q2
  go_upto_region 8 with fail
  obtain ⟨V7, hV7⟩ : ∃ V, V = u7.alloc (.cells #[.slice A7 3 c7, .int .i64 3] 24) := ⟨_, rfl⟩
  have hbv7 : Below u7.heap.size u7 V7 := by rw [hV7]; exact (Below.refl _ u7).alloc (Nat.le_refl _) _
  have HL7 : Hid (Lies V7 u7.heap.size 24 #[.slice A7 3 c7, .int .i64 3]) := Lib.hid (by rw [hV7]; exact Lies.new _ _ _)
  have HN7 : Hid (NdsIn V7 AnyB nsC A7) := Lib.hid (hN7.any.below hbv7 (Nat.le_refl _))
  have hs7 := hb7.trans (hbv7.mono hb7.size)
  replace HL1 := Lib.hid (HL1.out.below hs7 HL1.out.lt)
  replace HN1 := Lib.hid (HN1.out.below hs7 (Nat.le_refl _))
  replace HL2 := Lib.hid (HL2.out.below hs7 HL2.out.lt)
  replace HN2 := Lib.hid (HN2.out.below hs7 (Nat.le_refl _))
  replace HL3 := Lib.hid (HL3.out.below hs7 HL3.out.lt)
  replace HN3 := Lib.hid (HN3.out.below hs7 (Nat.le_refl _))
  replace HL4 := Lib.hid (HL4.out.below hs7 HL4.out.lt)
  replace HN4 := Lib.hid (HN4.out.below hs7 (Nat.le_refl _))
  replace HL5 := Lib.hid (HL5.out.below hs7 HL5.out.lt)
  replace HN5 := Lib.hid (HN5.out.below hs7 (Nat.le_refl _))
  replace HL6 := Lib.hid (HL6.out.below hs7 HL6.out.lt)
  replace HN6 := Lib.hid (HN6.out.below hs7 (Nat.le_refl _))
  replace HBW := Lib.hid (HBW.out.trans (hs7.mono HBW.out.size))
  rw [← hV7]
  obtain ⟨g7, hg7⟩ : ∃ g, g = u7.heap.size := ⟨_, rfl⟩
  rw [← hg7] at HL7 ⊢
  clear hV7 hb7 hbv7 hs7 hN7 hg7
  obtain ⟨p7, q7⟩ := two_cells HL7.out
  have HC8 : Hid (Calls Tryd.prog 12 #[.agg #[.slice A7 3 c7, .int .i64 3], .agg #[.int .i64 10, .int .i64 0, .int .i64 5, .string ⟨#[]⟩, .slice none 0 0, .slice none 0 0]] V7 (GivesNet nsD 3 [.int .i64 1, .int .i64 0] V7)) := Lib.hid (by
    have h := make_any nsC A7 3 c7 3 (⟨10, 0, 5, ⟨#[]⟩, [], []⟩ : Nd) none none 0 0 V7 rfl (by decide) (by decide) (fx_small _ (by simp)) HN7.out (fx_nd _ _ _ _) (by decide) (by decide) (hT.below HBW.out (Nat.le_refl _))
    rw [fx6] at h
    exact h)
  go_wp2_with fail
  refine HC8.out.mono ?_
  rintro e u8 ⟨A8, d8, he, hN8, hb8⟩
  obtain ⟨c8, hc8⟩ : ∃ c, c = capN 3 d8 := ⟨_, rfl⟩
  have he2 : e = .returned (.tuple #[.agg #[.slice A8 3 c8, .int .i64 3], .int .i64 1, .int .i64 0]) := by rw [hc8]; exact he
  subst he2
  clear he hc8 HC8 p7 q7
  obtain ⟨V8, hV8⟩ : ∃ V, V = u8.alloc (.cells #[.slice A8 3 c8, .int .i64 3] 24) := ⟨_, rfl⟩
  have hbv8 : Below u8.heap.size u8 V8 := by rw [hV8]; exact (Below.refl _ u8).alloc (Nat.le_refl _) _
  have HL8 : Hid (Lies V8 u8.heap.size 24 #[.slice A8 3 c8, .int .i64 3]) := Lib.hid (by rw [hV8]; exact Lies.new _ _ _)
  have HN8 : Hid (NdsIn V8 AnyB nsD A8) := Lib.hid (hN8.any.below hbv8 (Nat.le_refl _))
  have hs8 := hb8.trans (hbv8.mono hb8.size)
  replace HL1 := Lib.hid (HL1.out.below hs8 HL1.out.lt)
  replace HN1 := Lib.hid (HN1.out.below hs8 (Nat.le_refl _))
  replace HL2 := Lib.hid (HL2.out.below hs8 HL2.out.lt)
  replace HN2 := Lib.hid (HN2.out.below hs8 (Nat.le_refl _))
  replace HL5 := Lib.hid (HL5.out.below hs8 HL5.out.lt)
  replace HN5 := Lib.hid (HN5.out.below hs8 (Nat.le_refl _))
  replace HL7 := Lib.hid (HL7.out.below hs8 HL7.out.lt)
  replace HN7 := Lib.hid (HN7.out.below hs8 (Nat.le_refl _))
  replace HBW := Lib.hid (HBW.out.trans (hs8.mono HBW.out.size))
  have HBX := Lib.hid hs8
  clear hb8 hbv8 hs8 hN8
  obtain ⟨gd0, od0, _, _, _, _, _, _, hA80, _, _⟩ := NdsIn.get HN8.out 1 (by decide)
  subst hA80
  have HD : Hid (Calls Tryd.prog 19 #[.agg #[.slice A1 2 c1, .int .i64 3]] V8 fun e w' => e = .returned (.int .i64 0) ∧ Below V8.heap.size V8 w') := Lib.hid (by
    have h := check_any nsN A1 2 c1 3 V8 rfl (by decide) HN1.out (hT.below HBW.out (Nat.le_refl _))
    exact h)
  rw [hV8] at HD
  obtain ⟨p1, q1⟩ := two_cells HL1.out
  obtain ⟨p2, q2⟩ := two_cells HL2.out
  obtain ⟨p5, q5⟩ := two_cells HL5.out
  obtain ⟨p7, q7⟩ := two_cells HL7.out
  obtain ⟨p8, q8⟩ := two_cells HL8.out
  have zd : V8.cell? ⟨gd0, od0 + 1 * 6 + 2, none⟩ = some (.int .i64 5) := by
    obtain ⟨gd, od, xd, Bd, bd, Cd, cd, hxd, hAd, _, ⟨_, _, z, _, _, _⟩, _⟩ := NdsIn.get HN8.out 1 (by decide)
    cases hAd
    rw [hxd] at z
    exact z
  simp only [Nat.one_mul] at zd
  rw [hV8] at p1 q1 p2 q2 p5 q5 p7 q7 p8 q8 zd
  go_wp2_with fail
  refine HD.out.mono ?_
  rintro e y0 ⟨rfl, hy0⟩
  clear p1 q1 p2 q2 p5 q5 p7 q7 p8 q8 zd
  clear HD
  rw [← hV8] at hy0
  replace HL1 := Lib.hid (HL1.out.below hy0 HL1.out.lt)
  replace HN1 := Lib.hid (HN1.out.below hy0 (Nat.le_refl _))
  replace HL2 := Lib.hid (HL2.out.below hy0 HL2.out.lt)
  replace HN2 := Lib.hid (HN2.out.below hy0 (Nat.le_refl _))
  replace HL5 := Lib.hid (HL5.out.below hy0 HL5.out.lt)
  replace HN5 := Lib.hid (HN5.out.below hy0 (Nat.le_refl _))
  replace HL7 := Lib.hid (HL7.out.below hy0 HL7.out.lt)
  replace HN7 := Lib.hid (HN7.out.below hy0 (Nat.le_refl _))
  replace HL8 := Lib.hid (HL8.out.below hy0 HL8.out.lt)
  replace HN8 := Lib.hid (HN8.out.below hy0 (Nat.le_refl _))
  replace HBW := Lib.hid (HBW.out.trans (hy0.mono HBW.out.size))
  clear hy0
  have HD : Hid (Calls Tryd.prog 15 #[.agg #[.slice A1 2 c1, .int .i64 3]] y0 fun e w' => e = .returned (.int .i64 2) ∧ Below y0.heap.size y0 w') := Lib.hid (by
    have h := used_any nsN A1 2 c1 3 y0 rfl (by decide) HN1.out
    exact h)
  obtain ⟨p1, q1⟩ := two_cells HL1.out
  obtain ⟨p2, q2⟩ := two_cells HL2.out
  obtain ⟨p5, q5⟩ := two_cells HL5.out
  obtain ⟨p7, q7⟩ := two_cells HL7.out
  obtain ⟨p8, q8⟩ := two_cells HL8.out
  have zd : y0.cell? ⟨gd0, od0 + 1 * 6 + 2, none⟩ = some (.int .i64 5) := by
    obtain ⟨gd, od, xd, Bd, bd, Cd, cd, hxd, hAd, _, ⟨_, _, z, _, _, _⟩, _⟩ := NdsIn.get HN8.out 1 (by decide)
    cases hAd
    rw [hxd] at z
    exact z
  simp only [Nat.one_mul] at zd
  go_wp2_with fail
  refine HD.out.mono ?_
  rintro e y1 ⟨rfl, hy1⟩
  clear p1 q1 p2 q2 p5 q5 p7 q7 p8 q8 zd
  clear HD
  replace HL1 := Lib.hid (HL1.out.below hy1 HL1.out.lt)
  replace HN1 := Lib.hid (HN1.out.below hy1 (Nat.le_refl _))
  replace HL2 := Lib.hid (HL2.out.below hy1 HL2.out.lt)
  replace HN2 := Lib.hid (HN2.out.below hy1 (Nat.le_refl _))
  replace HL5 := Lib.hid (HL5.out.below hy1 HL5.out.lt)
  replace HN5 := Lib.hid (HN5.out.below hy1 (Nat.le_refl _))
  replace HL7 := Lib.hid (HL7.out.below hy1 HL7.out.lt)
  replace HN7 := Lib.hid (HN7.out.below hy1 (Nat.le_refl _))
  replace HL8 := Lib.hid (HL8.out.below hy1 HL8.out.lt)
  replace HN8 := Lib.hid (HN8.out.below hy1 (Nat.le_refl _))
  replace HBW := Lib.hid (HBW.out.trans (hy1.mono HBW.out.size))
  clear hy1
  have HD : Hid (Calls Tryd.prog 15 #[.agg #[.slice A2 3 c2, .int .i64 3]] y1 fun e w' => e = .returned (.int .i64 3) ∧ Below y1.heap.size y1 w') := Lib.hid (by
    have h := used_any nsA A2 3 c2 3 y1 rfl (by decide) HN2.out
    exact h)
  obtain ⟨p1, q1⟩ := two_cells HL1.out
  obtain ⟨p2, q2⟩ := two_cells HL2.out
  obtain ⟨p5, q5⟩ := two_cells HL5.out
  obtain ⟨p7, q7⟩ := two_cells HL7.out
  obtain ⟨p8, q8⟩ := two_cells HL8.out
  have zd : y1.cell? ⟨gd0, od0 + 1 * 6 + 2, none⟩ = some (.int .i64 5) := by
    obtain ⟨gd, od, xd, Bd, bd, Cd, cd, hxd, hAd, _, ⟨_, _, z, _, _, _⟩, _⟩ := NdsIn.get HN8.out 1 (by decide)
    cases hAd
    rw [hxd] at z
    exact z
  simp only [Nat.one_mul] at zd
  go_wp2_with fail
  refine HD.out.mono ?_
  rintro e y2 ⟨rfl, hy2⟩
  clear p1 q1 p2 q2 p5 q5 p7 q7 p8 q8 zd
  clear HD
  replace HL1 := Lib.hid (HL1.out.below hy2 HL1.out.lt)
  replace HN1 := Lib.hid (HN1.out.below hy2 (Nat.le_refl _))
  replace HL2 := Lib.hid (HL2.out.below hy2 HL2.out.lt)
  replace HN2 := Lib.hid (HN2.out.below hy2 (Nat.le_refl _))
  replace HL5 := Lib.hid (HL5.out.below hy2 HL5.out.lt)
  replace HN5 := Lib.hid (HN5.out.below hy2 (Nat.le_refl _))
  replace HL7 := Lib.hid (HL7.out.below hy2 HL7.out.lt)
  replace HN7 := Lib.hid (HN7.out.below hy2 (Nat.le_refl _))
  replace HL8 := Lib.hid (HL8.out.below hy2 HL8.out.lt)
  replace HN8 := Lib.hid (HN8.out.below hy2 (Nat.le_refl _))
  replace HBW := Lib.hid (HBW.out.trans (hy2.mono HBW.out.size))
  clear hy2
  have HD : Hid (Calls Tryd.prog 14 #[.agg #[.slice A5 2 c5, .int .i64 3], .agg #[.slice A1 2 c1, .int .i64 3]] y2 fun e w' => e = .returned (.bool true) ∧ Below y2.heap.size y2 w') := Lib.hid (by
    have h := same_any nsN A5 A1 2 c5 c1 3 y2 rfl (by decide) HN5.out HN1.out
    exact h)
  obtain ⟨p1, q1⟩ := two_cells HL1.out
  obtain ⟨p2, q2⟩ := two_cells HL2.out
  obtain ⟨p5, q5⟩ := two_cells HL5.out
  obtain ⟨p7, q7⟩ := two_cells HL7.out
  obtain ⟨p8, q8⟩ := two_cells HL8.out
  have zd : y2.cell? ⟨gd0, od0 + 1 * 6 + 2, none⟩ = some (.int .i64 5) := by
    obtain ⟨gd, od, xd, Bd, bd, Cd, cd, hxd, hAd, _, ⟨_, _, z, _, _, _⟩, _⟩ := NdsIn.get HN8.out 1 (by decide)
    cases hAd
    rw [hxd] at z
    exact z
  simp only [Nat.one_mul] at zd
  go_wp2_with fail
  refine HD.out.mono ?_
  rintro e y3 ⟨rfl, hy3⟩
  clear p1 q1 p2 q2 p5 q5 p7 q7 p8 q8 zd
  clear HD
  replace HL1 := Lib.hid (HL1.out.below hy3 HL1.out.lt)
  replace HN1 := Lib.hid (HN1.out.below hy3 (Nat.le_refl _))
  replace HL2 := Lib.hid (HL2.out.below hy3 HL2.out.lt)
  replace HN2 := Lib.hid (HN2.out.below hy3 (Nat.le_refl _))
  replace HL5 := Lib.hid (HL5.out.below hy3 HL5.out.lt)
  replace HN5 := Lib.hid (HN5.out.below hy3 (Nat.le_refl _))
  replace HL7 := Lib.hid (HL7.out.below hy3 HL7.out.lt)
  replace HN7 := Lib.hid (HN7.out.below hy3 (Nat.le_refl _))
  replace HL8 := Lib.hid (HL8.out.below hy3 HL8.out.lt)
  replace HN8 := Lib.hid (HN8.out.below hy3 (Nat.le_refl _))
  replace HBW := Lib.hid (HBW.out.trans (hy3.mono HBW.out.size))
  clear hy3
  have HD : Hid (Calls Tryd.prog 19 #[.agg #[.slice A2 3 c2, .int .i64 3]] y3 fun e w' => e = .returned (.int .i64 120) ∧ Below y3.heap.size y3 w') := Lib.hid (by
    have h := check_any nsA A2 3 c2 3 y3 rfl (by decide) HN2.out (hT.below HBW.out (Nat.le_refl _))
    exact h)
  obtain ⟨p1, q1⟩ := two_cells HL1.out
  obtain ⟨p2, q2⟩ := two_cells HL2.out
  obtain ⟨p5, q5⟩ := two_cells HL5.out
  obtain ⟨p7, q7⟩ := two_cells HL7.out
  obtain ⟨p8, q8⟩ := two_cells HL8.out
  have zd : y3.cell? ⟨gd0, od0 + 1 * 6 + 2, none⟩ = some (.int .i64 5) := by
    obtain ⟨gd, od, xd, Bd, bd, Cd, cd, hxd, hAd, _, ⟨_, _, z, _, _, _⟩, _⟩ := NdsIn.get HN8.out 1 (by decide)
    cases hAd
    rw [hxd] at z
    exact z
  simp only [Nat.one_mul] at zd
  go_wp2_with fail
  refine HD.out.mono ?_
  rintro e y4 ⟨rfl, hy4⟩
  clear p1 q1 p2 q2 p5 q5 p7 q7 p8 q8 zd
  clear HD
  replace HL1 := Lib.hid (HL1.out.below hy4 HL1.out.lt)
  replace HN1 := Lib.hid (HN1.out.below hy4 (Nat.le_refl _))
  replace HL2 := Lib.hid (HL2.out.below hy4 HL2.out.lt)
  replace HN2 := Lib.hid (HN2.out.below hy4 (Nat.le_refl _))
  replace HL5 := Lib.hid (HL5.out.below hy4 HL5.out.lt)
  replace HN5 := Lib.hid (HN5.out.below hy4 (Nat.le_refl _))
  replace HL7 := Lib.hid (HL7.out.below hy4 HL7.out.lt)
  replace HN7 := Lib.hid (HN7.out.below hy4 (Nat.le_refl _))
  replace HL8 := Lib.hid (HL8.out.below hy4 HL8.out.lt)
  replace HN8 := Lib.hid (HN8.out.below hy4 (Nat.le_refl _))
  replace HBW := Lib.hid (HBW.out.trans (hy4.mono HBW.out.size))
  clear hy4
  obtain ⟨p1, q1⟩ := two_cells HL1.out
  obtain ⟨p2, q2⟩ := two_cells HL2.out
  obtain ⟨p5, q5⟩ := two_cells HL5.out
  obtain ⟨p7, q7⟩ := two_cells HL7.out
  obtain ⟨p8, q8⟩ := two_cells HL8.out
  have zd : y4.cell? ⟨gd0, od0 + 1 * 6 + 2, none⟩ = some (.int .i64 5) := by
    obtain ⟨gd, od, xd, Bd, bd, Cd, cd, hxd, hAd, _, ⟨_, _, z, _, _, _⟩, _⟩ := NdsIn.get HN8.out 1 (by decide)
    cases hAd
    rw [hxd] at z
    exact z
  simp only [Nat.one_mul] at zd
  have HD : Hid (Calls Tryd.prog 21 #[.agg #[.int .i64 9, .int .i64 0, .int .i64 0, .string ⟨#[]⟩, .slice (some ⟨y4.heap.size, 0, none⟩) 1 1, .slice none 0 0]] (y4.alloc (.cells #[.string ⟨#[65]⟩, .int .i64 0] 50)) fun e w' => e = .returned (.int .i64 3) ∧ Below (y4.alloc (.cells #[.string ⟨#[65]⟩, .int .i64 0] 50)).heap.size (y4.alloc (.cells #[.string ⟨#[65]⟩, .int .i64 0] 50)) w') := Lib.hid (by
    have h := ports_any (⟨9, 0, 0, ⟨#[]⟩, [(⟨#[65]⟩, 0)], []⟩ : Nd) (some ⟨y4.heap.size, 0, none⟩) none 1 0 (y4.alloc (.cells #[.string ⟨#[65]⟩, .int .i64 0] 50)) ⟨by show (⟨#[]⟩ : ByteArray).size ≤ _; decide, by show 1 ≤ _; decide, by show 0 ≤ _; decide⟩ ((hT.below HBW.out (Nat.le_refl _)).below ((Below.refl _ y4).alloc (Nat.le_refl _) _) (Nat.le_refl _))
    exact h)
  go_wp2_with fail
  refine HD.out.mono ?_
  rintro e y9 ⟨rfl, hy9⟩
  have HBA : Hid (Below y4.heap.size y4 y9) := Lib.hid (((Below.refl _ y4).alloc (Nat.le_refl _) _).trans (hy9.mono (by simp)))
  clear p1 q1 p2 q2 p5 q5 p7 q7 p8 q8 zd
  clear HD hy9
  go_wp2_with fail
  go_ret
  exact ⟨rfl, HBW.out.trans (HBA.out.mono HBW.out.size)⟩
end Lx
end Go.Proofs.YtceblpjlklogpaaDoor
