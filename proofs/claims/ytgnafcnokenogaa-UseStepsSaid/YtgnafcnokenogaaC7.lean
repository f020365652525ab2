/-
  Texts that lie one behind the other: UsY SuUp OwnLe DepthE SuR6 BelN RDp UsH SuPl RegW.
-/
import Derived.Test.YtgnafcnokenogaaC6
import Derived.Test.YtgnafcnokenogaaC2
import Derived.Test.YtgnafcnokenogaaC1
import Derived.Deep.Cut
import Derived.Deep.RegionHeld3
import Derived.Deep.DrawnRows
import Derived.Maps.AppendAt
import Derived.Deep.AppendLies
import Derived.Deep.QuietTactic
import Derived.BigQuiet
namespace Go.Proofs.Ytgnafcnokenogaa
open Go Go.RowKit
namespace Lx
set_option maxRecDepth 100000
theorem rowI_new (u : World) (xs : List Int) : RowI (u.alloc (.cells (vI xs).toArray 3)) (some ⟨u.heap.size, 0, none⟩) xs := fun j hj => by
  refine ⟨u.heap.size, 0, rfl, ?_⟩
  rw [Nat.zero_add]
  exact ((Lies.new u 3 (vI xs).toArray).cell j).trans (by simp [vI, hj])
theorem of_fixT (A : Option Addr) (c : Nat) (w : World) (h : EIn w Any fixT A) : Calls Try.prog 15 #[ev fixT A c] w (GivesI [2, 0] w) := by
  have := of_any fixT A c w fine_T.1.dep fine_T.1.siz fine_T.1.tame h
  rwa [fix_vals.1] at this
theorem of_fixA (A : Option Addr) (c : Nat) (w : World) (h : EIn w Any fixA A) : Calls Try.prog 15 #[ev fixA A c] w (GivesI [0, 2] w) := by
  have := of_any fixA A c w fine_T.2.1.dep fine_T.2.1.siz fine_T.2.1.tame h
  rwa [fix_vals.2.2.2.2.2.1] at this
theorem free_fixA (A : Option Addr) (c : Nat) (w : World) (h : EIn w Any fixA A) : Calls Try.prog 18 #[ev fixA A c] w (GivesI [3] w) := by
  have := useFree_any fixA A c w fine_T.2.1.dep fine_T.2.1.siz fine_T.2.1.tame h
  rwa [fix_free.1] at this
theorem free_fixB (A : Option Addr) (c : Nat) (w : World) (h : EIn w Any fixB A) : Calls Try.prog 18 #[ev fixB A c] w (GivesI [1, 4] w) := by
  have := useFree_any fixB A c w fine_T.2.2.1.dep fine_T.2.2.1.siz fine_T.2.2.1.tame h
  rwa [fix_free.2.1] at this
theorem free_fixT (A : Option Addr) (c : Nat) (w : World) (h : EIn w Any fixT A) : Calls Try.prog 18 #[ev fixT A c] w (GivesI [] w) := by
  have := useFree_any fixT A c w fine_T.1.dep fine_T.1.siz fine_T.1.tame h
  rwa [fix_free.2.2] at this
theorem fans_fixT (A : Option Addr) (c : Nat) (w : World) (h : EIn w Any fixT A) : Calls Try.prog 16 #[ev fixT A c] w fun e w' => e = .returned (.int .i64 1) ∧ Below w.heap.size w w' := by
  have := fans_any fixT A c w fine_T.1.dep fine_T.1.siz fine_T.1.tame h
  rwa [fix_vals.2.1] at this
theorem drops_fixT (A : Option Addr) (c : Nat) (w : World) (h : EIn w Any fixT A) : Calls Try.prog 17 #[ev fixT A c] w fun e w' => e = .returned (.int .i64 1) ∧ Below w.heap.size w w' := by
  have := drops_any fixT A c w fine_T.1.dep fine_T.1.siz fine_T.1.tame h
  rwa [fix_vals.2.2.1] at this
theorem affine_fixT (A : Option Addr) (c : Nat) (w : World) (h : EIn w Any fixT A) : Calls Try.prog 8 #[ev fixT A c] w fun e w' => e = .returned (.bool false) ∧ Below w.heap.size w w' := by
  have := affine_any fixT A c w fine_T.1.dep fine_T.1.siz fine_T.1.tame h
  rwa [fix_vals.2.2.2.1] at this
theorem affine_fixI (A : Option Addr) (c : Nat) (w : World) (h : EIn w Any fixI A) : Calls Try.prog 8 #[ev fixI A c] w fun e w' => e = .returned (.bool true) ∧ Below w.heap.size w w' := by
  have := affine_any fixI A c w fine_T.2.2.2.dep fine_T.2.2.2.siz fine_T.2.2.2.tame h
  rwa [fix_vals.2.2.2.2.1] at this
set_option maxHeartbeats 8000000 in
theorem fixed11_any (w : World) : Calls Try.prog 4 #[] w fun e w' => e = .returned (.bool true) ∧ Below w.heap.size w w' := by
  go_enter Try.func4, Try.ntmps4
  go_wp2_with fail
  refine (vq_any 1 _ (by omega) (by omega)).mono ?_
  rintro e u1 ⟨A1, c1, rfl, e1, hb1⟩
  have He1 := Lib.hid e1
  clear e1
  go_wp2_with fail
  have e1 := He1.out
  clear He1
  refine (vq_any 1 _ (by omega) (by omega)).mono ?_
  rintro e u2 ⟨A2, c2, rfl, e2, hb2⟩
  replace e1 := EIn.below _ e1 hb2 (Nat.le_refl _)
  have He1 := Lib.hid e1
  clear e1
  have He2 := Lib.hid e2
  clear e2
  go_wp2_with fail
  have e1 := He1.out
  clear He1
  have e2 := He2.out
  clear He2
  refine (appq_any (vE 1) (vE 1) _ _ _ _ _ e1 e2).mono ?_
  rintro e u3 ⟨A3, c3, rfl, e3, hb3⟩
  clear e1
  clear e2
  have He3 := Lib.hid e3
  clear e3
  go_wp2_with fail
  have e3 := He3.out
  clear He3
  refine (lamq_any (appE (vE 1) (vE 1)) _ _ _ e3).mono ?_
  rintro e u4 ⟨A4, c4, he4, e4, hb4⟩
  clear e3
  subst he4
  have He4 := Lib.hid e4
  clear e4
  go_wp2_with fail
  have e4 := He4.out
  clear He4
  refine (lamq_any (lamE (appE (vE 1) (vE 1))) _ _ _ e4).mono ?_
  rintro e u5 ⟨A5, c5, he5, e5, hb5⟩
  clear e4
  change e = .returned (.agg #[.int .i64 2, .int .i64 0, .string ⟨#[]⟩, .slice A5 1 (capF 1 c5)]) at he5
  subst he5
  go_upto_region 2 with fail
  have B1 : BxT (u5.alloc (.cells #[.int .i64 2, .int .i64 0, .string ⟨#[]⟩, .slice A5 1 (capF 1 c5)] 24)) u5.heap.size fixT A5 c5 := BxT.new e5 rfl
  have hz1 : Below u5.heap.size u5 (u5.alloc (.cells #[.int .i64 2, .int .i64 0, .string ⟨#[]⟩, .slice A5 1 (capF 1 c5)] 24)) := (Below.refl _ _).alloc (Nat.le_refl _) _
  generalize u5.alloc (.cells #[.int .i64 2, .int .i64 0, .string ⟨#[]⟩, .slice A5 1 (capF 1 c5)] 24) = z1 at B1 hz1 ⊢
  clear e5
  have HB1 := Lib.hid B1
  clear B1
  go_wp2_with fail
  have B1 := HB1.out
  clear HB1
  refine (vq_any 0 _ (by omega) (by omega)).mono ?_
  rintro e u6 ⟨A6, c6, rfl, e6, hb6⟩
  replace B1 := B1.step hb6 (Nat.le_refl _)
  have HB1 := Lib.hid B1
  clear B1
  have He6 := Lib.hid e6
  clear e6
  go_wp2_with fail
  have B1 := HB1.out
  clear HB1
  have e6 := He6.out
  clear He6
  refine (vq_any 0 _ (by omega) (by omega)).mono ?_
  rintro e u7 ⟨A7, c7, rfl, e7, hb7⟩
  replace B1 := B1.step hb7 (Nat.le_refl _)
  replace e6 := EIn.below _ e6 hb7 (Nat.le_refl _)
  have HB1 := Lib.hid B1
  clear B1
  have He6 := Lib.hid e6
  clear e6
  have He7 := Lib.hid e7
  clear e7
  go_wp2_with fail
  have B1 := HB1.out
  clear HB1
  have e6 := He6.out
  clear He6
  have e7 := He7.out
  clear He7
  refine (vq_any 5 _ (by omega) (by omega)).mono ?_
  rintro e u8 ⟨A8, c8, rfl, e8, hb8⟩
  replace B1 := B1.step hb8 (Nat.le_refl _)
  replace e6 := EIn.below _ e6 hb8 (Nat.le_refl _)
  replace e7 := EIn.below _ e7 hb8 (Nat.le_refl _)
  have HB1 := Lib.hid B1
  clear B1
  have He6 := Lib.hid e6
  clear e6
  have He7 := Lib.hid e7
  clear e7
  have He8 := Lib.hid e8
  clear e8
  go_wp2_with fail
  have B1 := HB1.out
  clear HB1
  have e6 := He6.out
  clear He6
  have e7 := He7.out
  clear He7
  have e8 := He8.out
  clear He8
  refine (appq_any (vE 0) (vE 5) _ _ _ _ _ e7 e8).mono ?_
  rintro e u9 ⟨A9, c9, rfl, e9, hb9⟩
  clear e7
  clear e8
  replace B1 := B1.step hb9 (Nat.le_refl _)
  replace e6 := EIn.below _ e6 hb9 (Nat.le_refl _)
  have HB1 := Lib.hid B1
  clear B1
  have He6 := Lib.hid e6
  clear e6
  have He9 := Lib.hid e9
  clear e9
  go_wp2_with fail
  have B1 := HB1.out
  clear HB1
  have e6 := He6.out
  clear He6
  have e9 := He9.out
  clear He9
  refine (appq_any (vE 0) (appE (vE 0) (vE 5)) _ _ _ _ _ e6 e9).mono ?_
  rintro e u10 ⟨A10, c10, he10, e10, hb10⟩
  change e = .returned (.agg #[.int .i64 3, .int .i64 0, .string ⟨#[]⟩, .slice A10 2 (capF 2 c10)]) at he10
  subst he10
  clear e6
  clear e9
  replace B1 := B1.step hb10 (Nat.le_refl _)
  have HB1 := Lib.hid B1
  clear B1
  have He10 := Lib.hid e10
  clear e10
  go_upto_region 3 with fail
  have B1 := HB1.out
  clear HB1
  have e10 := He10.out
  clear He10
  have hz2 : Below u10.heap.size u10 ((u10.alloc (.cells #[.int .i64 3, .int .i64 0, .string ⟨#[]⟩, .slice A10 2 (capF 2 c10)] 24)).alloc (.cells #[.int .i64 6, .int .i64 2, .string ⟨#[65]⟩, .slice (some ⟨u10.heap.size, 0, none⟩) 1 1] 24)) := ((Below.refl _ _).alloc (Nat.le_refl _) _).alloc (by simp) _
  have B2 : BxT ((u10.alloc (.cells #[.int .i64 3, .int .i64 0, .string ⟨#[]⟩, .slice A10 2 (capF 2 c10)] 24)).alloc (.cells #[.int .i64 6, .int .i64 2, .string ⟨#[65]⟩, .slice (some ⟨u10.heap.size, 0, none⟩) 1 1] 24)) (u10.heap.size + 1) fixA (some ⟨u10.heap.size, 0, none⟩) 1 := ⟨lies_next _ _ _ _ (by simp), ein_mk (by decide) (by decide) (by decide) (by decide) (ein_lies1 (c := c10) (A := A10) (t := appE (vE 0) (appE (vE 0) (vE 5))) (ty := 24) ((Lies.new _ _ _).old _) trivial (EIn.below _ e10 hz2 (Nat.le_refl _)))⟩
  clear e10
  replace B1 := B1.step hz2 (Nat.le_refl _)
  generalize (u10.alloc (.cells #[.int .i64 3, .int .i64 0, .string ⟨#[]⟩, .slice A10 2 (capF 2 c10)] 24)).alloc (.cells #[.int .i64 6, .int .i64 2, .string ⟨#[65]⟩, .slice (some ⟨u10.heap.size, 0, none⟩) 1 1] 24) = z2 at B1 B2 hz2 ⊢
  have dB1 := B1.lies.four
  have dB2 := B2.lies.four
  have HB1 := Lib.hid B1
  clear B1
  have HB2 := Lib.hid B2
  clear B2
  go_wp2_with fail
  have B1 := HB1.out
  clear HB1
  have B2 := HB2.out
  clear HB2
  clear dB1
  clear dB2
  refine (of_fixT _ _ _ B1.ein).mono ?_
  rintro e u11 ⟨A11, c11, rfl, hr11, hb11⟩
  replace B1 := B1.step hb11 (Nat.le_refl _)
  replace B2 := B2.step hb11 (Nat.le_refl _)
  have r11 := rowI_own hr11
  have dB1 := B1.lies.four
  have dB2 := B2.lies.four
  have HB1 := Lib.hid B1
  clear B1
  have HB2 := Lib.hid B2
  clear B2
  have Hr11 := Lib.hid r11
  clear r11
  go_wp2_with fail
  have B1 := HB1.out
  clear HB1
  have B2 := HB2.out
  clear HB2
  have r11 := Hr11.out
  clear Hr11
  clear dB1
  clear dB2
  have hn12 : Below u11.heap.size u11 (u11.alloc (.cells #[.int .i64 2, .int .i64 0] 3)) := (Below.refl _ _).alloc (Nat.le_refl _) _
  have rn12 : RowI (u11.alloc (.cells #[.int .i64 2, .int .i64 0] 3)) (some ⟨u11.heap.size, 0, none⟩) [2, 0] := rowI_new u11 [2, 0]
  replace B1 := B1.step hn12 (Nat.le_refl _)
  replace B2 := B2.step hn12 (Nat.le_refl _)
  replace r11 := r11.below hn12 (Nat.le_refl _)
  refine (ints_any A11 _ c11 2 [2, 0] [2, 0] _ r11 rn12 (by decide) (by decide)).mono ?_
  rintro e u12 ⟨he12, hb12⟩
  rw [show decide (([2, 0] : List Int) = [2, 0]) = true from by decide] at he12
  subst he12
  clear rn12 r11
  replace B1 := B1.step hb12 (Nat.le_refl _)
  replace B2 := B2.step hb12 (Nat.le_refl _)
  replace hb12 := hn12.trans (hb12.mono hn12.size)
  clear hn12
  have dB1 := B1.lies.four
  have dB2 := B2.lies.four
  have HB1 := Lib.hid B1
  clear B1
  have HB2 := Lib.hid B2
  clear B2
  go_wp2_with fail
  have B1 := HB1.out
  clear HB1
  have B2 := HB2.out
  clear HB2
  clear dB1
  clear dB2
  refine (fans_fixT _ _ _ B1.ein).mono ?_
  rintro e u13 ⟨rfl, hb13⟩
  replace B1 := B1.step hb13 (Nat.le_refl _)
  replace B2 := B2.step hb13 (Nat.le_refl _)
  have dB1 := B1.lies.four
  have dB2 := B2.lies.four
  have HB1 := Lib.hid B1
  clear B1
  have HB2 := Lib.hid B2
  clear B2
  go_wp2_with fail
  have B1 := HB1.out
  clear HB1
  have B2 := HB2.out
  clear HB2
  clear dB1
  clear dB2
  refine (drops_fixT _ _ _ B1.ein).mono ?_
  rintro e u14 ⟨rfl, hb14⟩
  replace B1 := B1.step hb14 (Nat.le_refl _)
  replace B2 := B2.step hb14 (Nat.le_refl _)
  have dB1 := B1.lies.four
  have dB2 := B2.lies.four
  have HB1 := Lib.hid B1
  clear B1
  have HB2 := Lib.hid B2
  clear B2
  go_wp2_with fail
  have B1 := HB1.out
  clear HB1
  have B2 := HB2.out
  clear HB2
  clear dB1
  clear dB2
  refine (affine_fixT _ _ _ B1.ein).mono ?_
  rintro e u15 ⟨rfl, hb15⟩
  replace B1 := B1.step hb15 (Nat.le_refl _)
  replace B2 := B2.step hb15 (Nat.le_refl _)
  have dB1 := B1.lies.four
  have dB2 := B2.lies.four
  have HB1 := Lib.hid B1
  clear B1
  have HB2 := Lib.hid B2
  clear B2
  go_wp2_with fail
  have B1 := HB1.out
  clear HB1
  have B2 := HB2.out
  clear HB2
  clear dB1
  clear dB2
  refine (vq_any 0 _ (by omega) (by omega)).mono ?_
  rintro e u16 ⟨A16, c16, rfl, e16, hb16⟩
  replace B1 := B1.step hb16 (Nat.le_refl _)
  replace B2 := B2.step hb16 (Nat.le_refl _)
  have dB1 := B1.lies.four
  have dB2 := B2.lies.four
  have HB1 := Lib.hid B1
  clear B1
  have HB2 := Lib.hid B2
  clear B2
  have He16 := Lib.hid e16
  clear e16
  go_wp2_with fail
  have B1 := HB1.out
  clear HB1
  have B2 := HB2.out
  clear HB2
  have e16 := He16.out
  clear He16
  clear dB1
  clear dB2
  refine (lamq_any (vE 0) _ _ _ e16).mono ?_
  rintro e u17 ⟨A17, c17, he17, e17, hb17⟩
  clear e16
  subst he17
  replace B1 := B1.step hb17 (Nat.le_refl _)
  replace B2 := B2.step hb17 (Nat.le_refl _)
  have dB1 := B1.lies.four
  have dB2 := B2.lies.four
  have HB1 := Lib.hid B1
  clear B1
  have HB2 := Lib.hid B2
  clear B2
  have He17 := Lib.hid e17
  clear e17
  go_wp2_with fail
  have B1 := HB1.out
  clear HB1
  have B2 := HB2.out
  clear HB2
  have e17 := He17.out
  clear He17
  clear dB1
  clear dB2
  refine (affine_fixI _ _ _ e17).mono ?_
  rintro e u18 ⟨rfl, hb18⟩
  clear e17
  replace B1 := B1.step hb18 (Nat.le_refl _)
  replace B2 := B2.step hb18 (Nat.le_refl _)
  have dB1 := B1.lies.four
  have dB2 := B2.lies.four
  have HB1 := Lib.hid B1
  clear B1
  have HB2 := Lib.hid B2
  clear B2
  go_wp2_with fail
  have B1 := HB1.out
  clear HB1
  have B2 := HB2.out
  clear HB2
  clear dB1
  clear dB2
  refine (of_fixA _ _ _ B2.ein).mono ?_
  rintro e u19 ⟨A19, c19, rfl, hr19, hb19⟩
  replace B1 := B1.step hb19 (Nat.le_refl _)
  replace B2 := B2.step hb19 (Nat.le_refl _)
  have r19 := rowI_own hr19
  have dB1 := B1.lies.four
  have dB2 := B2.lies.four
  have HB1 := Lib.hid B1
  clear B1
  have HB2 := Lib.hid B2
  clear B2
  have Hr19 := Lib.hid r19
  clear r19
  go_wp2_with fail
  have B1 := HB1.out
  clear HB1
  have B2 := HB2.out
  clear HB2
  have r19 := Hr19.out
  clear Hr19
  clear dB1
  clear dB2
  have hn20 : Below u19.heap.size u19 (u19.alloc (.cells #[.int .i64 0, .int .i64 2] 3)) := (Below.refl _ _).alloc (Nat.le_refl _) _
  have rn20 : RowI (u19.alloc (.cells #[.int .i64 0, .int .i64 2] 3)) (some ⟨u19.heap.size, 0, none⟩) [0, 2] := rowI_new u19 [0, 2]
  replace B1 := B1.step hn20 (Nat.le_refl _)
  replace B2 := B2.step hn20 (Nat.le_refl _)
  replace r19 := r19.below hn20 (Nat.le_refl _)
  refine (ints_any A19 _ c19 2 [0, 2] [0, 2] _ r19 rn20 (by decide) (by decide)).mono ?_
  rintro e u20 ⟨he20, hb20⟩
  rw [show decide (([0, 2] : List Int) = [0, 2]) = true from by decide] at he20
  subst he20
  clear rn20 r19
  replace B1 := B1.step hb20 (Nat.le_refl _)
  replace B2 := B2.step hb20 (Nat.le_refl _)
  replace hb20 := hn20.trans (hb20.mono hn20.size)
  clear hn20
  have dB1 := B1.lies.four
  have dB2 := B2.lies.four
  have HB1 := Lib.hid B1
  clear B1
  have HB2 := Lib.hid B2
  clear B2
  go_wp2_with fail
  have B1 := HB1.out
  clear HB1
  have B2 := HB2.out
  clear HB2
  clear dB1
  clear dB2
  refine (free_fixA _ _ _ B2.ein).mono ?_
  rintro e u21 ⟨A21, c21, rfl, hr21, hb21⟩
  replace B1 := B1.step hb21 (Nat.le_refl _)
  replace B2 := B2.step hb21 (Nat.le_refl _)
  have r21 := rowI_own hr21
  have dB1 := B1.lies.four
  have dB2 := B2.lies.four
  have HB1 := Lib.hid B1
  clear B1
  have HB2 := Lib.hid B2
  clear B2
  have Hr21 := Lib.hid r21
  clear r21
  go_wp2_with fail
  have B1 := HB1.out
  clear HB1
  have B2 := HB2.out
  clear HB2
  have r21 := Hr21.out
  clear Hr21
  clear dB1
  clear dB2
  have hn22 : Below u21.heap.size u21 (u21.alloc (.cells #[.int .i64 3] 3)) := (Below.refl _ _).alloc (Nat.le_refl _) _
  have rn22 : RowI (u21.alloc (.cells #[.int .i64 3] 3)) (some ⟨u21.heap.size, 0, none⟩) [3] := rowI_new u21 [3]
  replace B1 := B1.step hn22 (Nat.le_refl _)
  replace B2 := B2.step hn22 (Nat.le_refl _)
  replace r21 := r21.below hn22 (Nat.le_refl _)
  refine (ints_any A21 _ c21 1 [3] [3] _ r21 rn22 (by decide) (by decide)).mono ?_
  rintro e u22 ⟨he22, hb22⟩
  rw [show decide (([3] : List Int) = [3]) = true from by decide] at he22
  subst he22
  clear rn22 r21
  replace B1 := B1.step hb22 (Nat.le_refl _)
  replace B2 := B2.step hb22 (Nat.le_refl _)
  replace hb22 := hn22.trans (hb22.mono hn22.size)
  clear hn22
  have dB1 := B1.lies.four
  have dB2 := B2.lies.four
  have HB1 := Lib.hid B1
  clear B1
  have HB2 := Lib.hid B2
  clear B2
  go_wp2_with fail
  have B1 := HB1.out
  clear HB1
  have B2 := HB2.out
  clear HB2
  clear dB1
  clear dB2
  refine (vq_any 4 _ (by omega) (by omega)).mono ?_
  rintro e u23 ⟨A23, c23, rfl, e23, hb23⟩
  replace B1 := B1.step hb23 (Nat.le_refl _)
  replace B2 := B2.step hb23 (Nat.le_refl _)
  have dB1 := B1.lies.four
  have dB2 := B2.lies.four
  have HB1 := Lib.hid B1
  clear B1
  have HB2 := Lib.hid B2
  clear B2
  have He23 := Lib.hid e23
  clear e23
  go_wp2_with fail
  have B1 := HB1.out
  clear HB1
  have B2 := HB2.out
  clear HB2
  have e23 := He23.out
  clear He23
  clear dB1
  clear dB2
  refine (vq_any 1 _ (by omega) (by omega)).mono ?_
  rintro e u24 ⟨A24, c24, rfl, e24, hb24⟩
  replace B1 := B1.step hb24 (Nat.le_refl _)
  replace B2 := B2.step hb24 (Nat.le_refl _)
  replace e23 := EIn.below _ e23 hb24 (Nat.le_refl _)
  have dB1 := B1.lies.four
  have dB2 := B2.lies.four
  have HB1 := Lib.hid B1
  clear B1
  have HB2 := Lib.hid B2
  clear B2
  have He23 := Lib.hid e23
  clear e23
  have He24 := Lib.hid e24
  clear e24
  go_wp2_with fail
  have B1 := HB1.out
  clear HB1
  have B2 := HB2.out
  clear HB2
  have e23 := He23.out
  clear He23
  have e24 := He24.out
  clear He24
  clear dB1
  clear dB2
  refine (vq_any 4 _ (by omega) (by omega)).mono ?_
  rintro e u25 ⟨A25, c25, rfl, e25, hb25⟩
  replace B1 := B1.step hb25 (Nat.le_refl _)
  replace B2 := B2.step hb25 (Nat.le_refl _)
  replace e23 := EIn.below _ e23 hb25 (Nat.le_refl _)
  replace e24 := EIn.below _ e24 hb25 (Nat.le_refl _)
  have dB1 := B1.lies.four
  have dB2 := B2.lies.four
  have HB1 := Lib.hid B1
  clear B1
  have HB2 := Lib.hid B2
  clear B2
  have He23 := Lib.hid e23
  clear e23
  have He24 := Lib.hid e24
  clear e24
  have He25 := Lib.hid e25
  clear e25
  go_wp2_with fail
  have B1 := HB1.out
  clear HB1
  have B2 := HB2.out
  clear HB2
  have e23 := He23.out
  clear He23
  have e24 := He24.out
  clear He24
  have e25 := He25.out
  clear He25
  clear dB1
  clear dB2
  refine (appq_any (vE 1) (vE 4) _ _ _ _ _ e24 e25).mono ?_
  rintro e u26 ⟨A26, c26, rfl, e26, hb26⟩
  clear e24
  clear e25
  replace B1 := B1.step hb26 (Nat.le_refl _)
  replace B2 := B2.step hb26 (Nat.le_refl _)
  replace e23 := EIn.below _ e23 hb26 (Nat.le_refl _)
  have dB1 := B1.lies.four
  have dB2 := B2.lies.four
  have HB1 := Lib.hid B1
  clear B1
  have HB2 := Lib.hid B2
  clear B2
  have He23 := Lib.hid e23
  clear e23
  have He26 := Lib.hid e26
  clear e26
  go_wp2_with fail
  have B1 := HB1.out
  clear HB1
  have B2 := HB2.out
  clear HB2
  have e23 := He23.out
  clear He23
  have e26 := He26.out
  clear He26
  clear dB1
  clear dB2
  refine (appq_any (vE 4) (appE (vE 1) (vE 4)) _ _ _ _ _ e23 e26).mono ?_
  rintro e u27 ⟨A27, c27, rfl, e27, hb27⟩
  clear e23
  clear e26
  replace B1 := B1.step hb27 (Nat.le_refl _)
  replace B2 := B2.step hb27 (Nat.le_refl _)
  have dB1 := B1.lies.four
  have dB2 := B2.lies.four
  have HB1 := Lib.hid B1
  clear B1
  have HB2 := Lib.hid B2
  clear B2
  have He27 := Lib.hid e27
  clear e27
  go_wp2_with fail
  have B1 := HB1.out
  clear HB1
  have B2 := HB2.out
  clear HB2
  have e27 := He27.out
  clear He27
  clear dB1
  clear dB2
  refine (free_fixB _ _ _ e27).mono ?_
  rintro e u28 ⟨A28, c28, rfl, hr28, hb28⟩
  replace B1 := B1.step hb28 (Nat.le_refl _)
  replace B2 := B2.step hb28 (Nat.le_refl _)
  replace e27 := EIn.below _ e27 hb28 (Nat.le_refl _)
  have r28 := rowI_own hr28
  clear e27
  have dB1 := B1.lies.four
  have dB2 := B2.lies.four
  have HB1 := Lib.hid B1
  clear B1
  have HB2 := Lib.hid B2
  clear B2
  have Hr28 := Lib.hid r28
  clear r28
  go_wp2_with fail
  have B1 := HB1.out
  clear HB1
  have B2 := HB2.out
  clear HB2
  have r28 := Hr28.out
  clear Hr28
  clear dB1
  clear dB2
  have hn29 : Below u28.heap.size u28 (u28.alloc (.cells #[.int .i64 1, .int .i64 4] 3)) := (Below.refl _ _).alloc (Nat.le_refl _) _
  have rn29 : RowI (u28.alloc (.cells #[.int .i64 1, .int .i64 4] 3)) (some ⟨u28.heap.size, 0, none⟩) [1, 4] := rowI_new u28 [1, 4]
  replace B1 := B1.step hn29 (Nat.le_refl _)
  replace B2 := B2.step hn29 (Nat.le_refl _)
  replace r28 := r28.below hn29 (Nat.le_refl _)
  refine (ints_any A28 _ c28 2 [1, 4] [1, 4] _ r28 rn29 (by decide) (by decide)).mono ?_
  rintro e u29 ⟨he29, hb29⟩
  rw [show decide (([1, 4] : List Int) = [1, 4]) = true from by decide] at he29
  subst he29
  clear rn29 r28
  replace B1 := B1.step hb29 (Nat.le_refl _)
  replace B2 := B2.step hb29 (Nat.le_refl _)
  replace hb29 := hn29.trans (hb29.mono hn29.size)
  clear hn29
  have dB1 := B1.lies.four
  have dB2 := B2.lies.four
  have HB1 := Lib.hid B1
  clear B1
  have HB2 := Lib.hid B2
  clear B2
  go_wp2_with fail
  have B1 := HB1.out
  clear HB1
  have B2 := HB2.out
  clear HB2
  clear dB1
  clear dB2
  refine (free_fixT _ _ _ B1.ein).mono ?_
  rintro e u30 ⟨A30, c30, rfl, hr30, hb30⟩
  replace B1 := B1.step hb30 (Nat.le_refl _)
  replace B2 := B2.step hb30 (Nat.le_refl _)
  have r30 := rowI_own hr30
  clear B1 B2 r30
  go_wp2_with fail
  go_ret
  refine ⟨rfl, ?_⟩
  exact (below_on (below_on (below_on (below_on (below_on (below_on (below_on (below_on (below_on (below_on (below_on (below_on (below_on (below_on (below_on (below_on (below_on (below_on (below_on (below_on (below_on (below_on (below_on (below_on (below_on (below_on (below_on (below_on (below_on (below_on (below_on hb1 hb2) hb3) hb4) hb5) hz1) hb6) hb7) hb8) hb9) hb10) hz2) hb11) hb12) hb13) hb14) hb15) hb16) hb17) hb18) hb19) hb20) hb21) hb22) hb23) hb24) hb25) hb26) hb27) hb28) hb29) hb30)
end Lx
end Go.Proofs.Ytgnafcnokenogaa
namespace Go.Proofs.Ytgnafcnokenogaa
open Go.RowKit
namespace Lx
set_option maxRecDepth 100000
theorem res_term2 {fn : Func} {p q : Tmp} (h : fn.results = #[.cell p 24, .tmp q]) {tmps : Array Value} {g : Nat} {a b c d : Value} {w : World} (hp : tmps.getD p undef = .pointer (some ⟨g, 0, none⟩)) (L : Lies w g 24 #[a, b, c, d]) :
    (results fn tmps).run Try.prog w = .ok (.tuple #[.agg #[a, b, c, d], tmps.getD q undef]) w := by
  have hl := run_loadVar_row (P := Try.prog) w g 24 24 #[a, b, c, d] (0, 0) _ L Try.underlying24 rfl (by kernel_rfl)
  have hp' : tmps[p]?.getD undef = .pointer (some ⟨g, 0, none⟩) := by simpa using hp
  simp only [results, h]
  simp [hp', asAddr, hl]
theorem below2_new {w : World} (o o' : Obj) : Below w.heap.size w ((w.alloc o).alloc o') := ((Below.refl _ w).alloc (Nat.le_refl _) _).alloc (by simp) _
/-- An answer is stored in the result's box. -/
theorem gives_all {u : Te} {A2 : Option Addr} {c2 : Nat} {w W w2 : World} {g : Nat} (hT : EIn w2 (fun b => W.heap.size ≤ b) u A2) (h0 : w.heap.size ≤ g) (h1 : g < W.heap.size) (hb : Below w.heap.size w w2) (a b c d : Value) :
    GivesE u w (.returned (ev u A2 c2)) ((((w2.setCell ⟨g, 0, none⟩ a).setCell ⟨g, 1, none⟩ b).setCell ⟨g, 2, none⟩ c).setCell ⟨g, 3, none⟩ d) := by
  refine ⟨A2, c2, rfl, EIn.keep _ hT fun g' j hX _ => ?_, Below.all hb h0 _ _ _ _⟩
  have hX' : W.heap.size ≤ g' := hX
  have hne : ∀ q, (⟨g, q, none⟩ : Addr) ≠ ⟨g', j, none⟩ := fun q e => by injection e with e; omega
  refine ⟨?_, by omega⟩
  rw [World.cell?_setCell_other _ _ _ _ (hne _), World.cell?_setCell_other _ _ _ _ (hne _), World.cell?_setCell_other _ _ _ _ (hne _), World.cell?_setCell_other _ _ _ _ (hne _)]
end Lx
end Go.Proofs.Ytgnafcnokenogaa
namespace Go.Proofs.Ytgnafcnokenogaa
open Go.RowKit
namespace Lx
theorem own_le {w : World} {base : Nat} {e : TypeId} {size : Nat} {A : Option Addr} {m c : Nat} {n : Nat} {xs : List Value} (h : w.ownsRow base e size (.slice A m c) n xs) : n ≤ c := by
  rcases h.2 with ⟨h1, rfl⟩ | ⟨g, cap, cur, h1, _, _, hle, _⟩
  · exact Nat.zero_le _
  · injection h1 with _ _ h2
    omega
theorem tv_own {k n pc : Int} {nm : ByteArray} {pl : List Tr} {B : Option Addr} {bc : Nat} (h : pl.length ≤ bc) : Ending.returned (.agg #[.int .i64 k, .string nm, .int .i64 n, .int .i64 pc, .slice B pl.length bc]) = .returned (tv (.node k nm n pc pl) B bc) := by
  unfold tv
  simp only [Tr.kind, Tr.name, Tr.n, Tr.place, Tr.parts]
  rw [capF_of h]
end Lx
end Go.Proofs.Ytgnafcnokenogaa
namespace Go.Proofs.Ytgnafcnokenogaa
open Go.RowKit
namespace Lx
set_option maxRecDepth 100000
theorem ebelow_al {w wr w2 : World} {o : Obj} (hbw : Below w.heap.size w wr) (hb2 : Below (wr.alloc o).heap.size (wr.alloc o) w2) : Below w.heap.size w w2 :=
  (hbw.alloc hbw.size _).trans (hb2.mono (by have := hbw.size; simp; omega))
set_option maxHeartbeats 1000000 in
theorem efew_stop (k n L D : Int) (s : ByteArray) (A : Option Addr) (m c : Nat) (w : World) (h : L < 1 ∨ D < 1) :
    Calls Try.prog 19 #[.agg #[.int .i64 k, .int .i64 n, .string s, .slice A m c], .int .i64 L, .int .i64 D] w fun e w' => e = .returned (.int .i64 (-1)) ∧ Below w.heap.size w w' := by
  have hb : Below w.heap.size w (w.alloc (.cells #[.int .i64 k, .int .i64 n, .string s, .slice A m c] 24)) := (Below.refl _ w).alloc (Nat.le_refl _) _
  by_cases h1 : L < 1
  · clear h
    go_enter Try.func19, Try.ntmps19
    go_wp2_with fail
    go_ret
    exact ⟨rfl, hb⟩
  · have h2 : D < 1 := h.resolve_left h1
    clear h
    go_enter Try.func19, Try.ntmps19
    go_wp2_with fail
    go_ret
    exact ⟨rfl, hb⟩

set_option maxHeartbeats 1000000 in
theorem efew_any (d : Nat) : ∀ (t : Te) (A : Option Addr) (c : Nat) (L D : Int) (w : World), depthE t ≤ d → EIn w Any t A → -1000 ≤ L → L ≤ 100000 → -1000 ≤ D → D ≤ 1000 →
    Calls Try.prog 19 #[ev t A c, .int .i64 L, .int .i64 D] w fun e w' => e = .returned (.int .i64 (fewE t L D)) ∧ Below w.heap.size w w' := by
  induction d with
  | zero => intro t A c _ _ w h; have := depthE_pos t; omega
  | succ d ih =>
    intro t A c L D w hd hI hL1 hL2 hD1 hD2
    obtain ⟨k, n, s, l⟩ := t
    have hdL : depthEL l ≤ d := by rw [depthE] at hd; omega
    have hlen : l.length ≤ 140737488351232 := by rw [EIn] at hI; exact hI.2.1
    have HI := Lib.hid hI
    clear hI hd
    show Calls Try.prog 19 #[.agg #[.int .i64 k, .int .i64 n, .string s, .slice A l.length (capF l.length c)], .int .i64 L, .int .i64 D] w _
    generalize capF l.length c = c
    by_cases hst : L < 1 ∨ D < 1
    · refine (efew_stop k n L D s A _ c w hst).mono ?_
      rintro e w' ⟨rfl, hb⟩
      exact ⟨ret_int (by rw [fewE, if_pos hst]), hb⟩
    · have hL3 : ¬ L < 1 := fun h => hst (.inl h)
      have hD3 : ¬ D < 1 := fun h => hst (.inr h)
      have HE : Hid (fewE (.node k n s l) L D = fewEL l (L - 1) (D - 1)) := by
        show _ = _
        rw [fewE, if_neg hst]
      clear hst
      obtain ⟨m, hm⟩ : ∃ m, m = l.length := ⟨_, rfl⟩
      rw [← hm] at hlen ⊢
      have hm1 : m ≤ l.length := by omega
      have hm2 : l.length ≤ m := by omega
      clear hm
      go_enter Try.func19, Try.ntmps19
      go_wp2_with fail
      go_loopw [1, 7] (fun v x wr => ∃ (i : Nat) (F : Int), i ≤ m ∧ x = .int .i64 i ∧ v = .int .i64 F ∧ 0 ≤ F ∧ F ≤ 100000 ∧ Hid (fewEL l (L - 1) (D - 1) = fewEL (l.drop i) F (D - 1)) ∧ Below (w.heap.size + 1) (w.alloc (.cells #[.int .i64 k, .int .i64 n, .string s, .slice A m c] 24)) wr) (fun _ x _ => m - (intOf x).toNat)
      case atStart => exact ⟨0, L - 1, by omega, rfl, rfl, by omega, by omega, by exact rfl, Below.refl _ _⟩
      case round =>
        obtain ⟨i, F, hi, rfl, rfl, hF1, hF2, HQ, hbx⟩ := hrel
        have hbw : Below w.heap.size w wr := below_ac (by simpa using hbx)
        have c4 := ((Lies.new w 24 #[.int .i64 k, .int .i64 n, .string s, .slice A m c]).below hbx (by omega)).cell 3
        have hbxs := hbx.size
        simp at c4 hbxs
        by_cases hlt : i < m
        · have hia : i < l.length := by omega
          obtain ⟨g, o, A', c', ⟨hA, _⟩, d0, d1, d2, d3, hIn⟩ := EIn.part (EIn.below _ HI.out hbw (Nat.le_refl _)) i hia
          subst hA
          have hm3 := depthEL_mem l (l[i]'hia) (List.getElem_mem hia)
          have HS : Hid (fewEL (l.drop i) F (D - 1) = if fewE (l[i]'hia) F (D - 1) < 0 then -1 else fewEL (l.drop (i + 1)) (fewE (l[i]'hia) F (D - 1)) (D - 1)) := by
            show _ = _
            rw [List.drop_eq_getElem_cons hia, fewEL]
          have hfs := fewE_size (l[i]'hia) F (D - 1)
          simp only [Te.parts] at d0 d1 d2 d3 hIn
          obtain ⟨tr, hu⟩ : ∃ tr, tr = l[i]'hia := ⟨_, rfl⟩
          rw [← hu] at d0 d1 d2 d3 hIn hm3 HS hfs
          clear hu
          obtain ⟨tk, tn, ts, tl⟩ := tr
          simp only [Te.kind, Te.n, Te.name] at d0 d1 d2 d3
          obtain ⟨G, hG⟩ : ∃ G, G = fewE (.node tk tn ts tl) F (D - 1) := ⟨_, rfl⟩
          rw [← hG] at HS hfs
          have hih := ih (.node tk tn ts tl) A' c' F (D - 1) wr (by omega) hIn (by omega) (by omega) (by omega) (by omega)
          rw [← hG] at hih
          have HG := Lib.hid hG
          have HIH := Lib.hid hih
          have HFS := Lib.hid hfs
          clear hG hih hfs
          by_cases hneg : G < 0
          · go_wp2_with fail
            refine HIH.out.mono ?_
            rintro e w2 ⟨rfl, hb2⟩
            go_wp2_with fail
            go_ret
            refine ⟨ret_int ?_, hbw.trans (hb2.mono (by omega))⟩
            rw [HE.out, HQ.out, HS.out, if_pos hneg]
          · go_wp2_with fail
            refine HIH.out.mono ?_
            rintro e w2 ⟨rfl, hb2⟩
            go_wp2_with fail
            go_roundw
            case rel =>
              have h1 := HFS.out (by omega)
              refine ⟨i + 1, G, by omega, by go_num, rfl, by omega, by omega, ?_, hbx.trans (hb2.mono (by omega))⟩
              show _ = _
              rw [HQ.out, HS.out, if_neg (by omega)]
            case measure => simp [intOf]; omega
        · go_wp2_with fail
          go_ret
          obtain rfl : i = m := by omega
          refine ⟨ret_int ?_, hbw⟩
          rw [HE.out, HQ.out, List.drop_eq_nil_of_le (by omega), fewEL]

theorem esmall_any (t : Te) (A : Option Addr) (c : Nat) (L : Int) (w : World) (hI : EIn w Any t A) (hL1 : 0 ≤ L) (hL2 : L ≤ 100000) :
    Calls Try.prog 5 #[ev t A c, .int .i64 L] w fun e w' => e = .returned (.bool (decide (0 ≤ fewE t L 600))) ∧ Below w.heap.size w w' := by
  obtain ⟨k, n, s, l⟩ := t
  have hF := efew_any (depthE (.node k n s l)) (.node k n s l) A c L 600 (w.alloc (.cells #[.int .i64 k, .int .i64 n, .string s, .slice A l.length (capF l.length c)] 24)) (Nat.le_refl _)
    (EIn.below _ hI ((Below.refl _ w).alloc (Nat.le_refl _) _) (Nat.le_refl _)) (by omega) hL2 (by omega) (by omega)
  have HF := Lib.hid hF
  clear hF hI
  show Calls Try.prog 5 #[.agg #[.int .i64 k, .int .i64 n, .string s, .slice A l.length (capF l.length c)], .int .i64 L] w _
  go_enter Try.func5, Try.ntmps5
  go_wp2_with fail
  refine HF.out.mono ?_
  rintro e w2 ⟨rfl, hb2⟩
  go_wp2_with fail
  go_ret
  exact ⟨rfl, below_ac hb2⟩
end Lx
end Go.Proofs.Ytgnafcnokenogaa
namespace Go.Proofs.Ytgnafcnokenogaa
open Go.RowKit
namespace Lx
set_option maxRecDepth 100000
theorem sameFL_len : ∀ l l' : List Te, l.length ≠ l'.length → sameEL l l' = false := fun l l' h => by
  cases hq : sameEL l l'
  · rfl
  · exact absurd (sameEL_len l l' hq) h
theorem strE_ne {s t : ByteArray} (h : s ≠ t) : ¬ s.toList = t.toList := by
  intro e
  rw [data_list, data_list] at e
  apply h
  obtain ⟨⟨a⟩⟩ := s
  obtain ⟨⟨b⟩⟩ := t
  simp at e
  rw [e]
set_option maxHeartbeats 2000000 in
theorem rsize6_any (d : Nat) : ∀ (t : Te) (A : Option Addr) (c : Nat) (w : World), depthE t ≤ d → sizeE t ≤ 1000000000000 → EIn w Any t A →
    Calls Try.prog 10 #[ev t A c] w fun e w' => e = .returned (.int .i64 (sizeE t)) ∧ Below w.heap.size w w' := by
  induction d with
  | zero => intro t A c w h; have := depthE_pos t; omega
  | succ d ih =>
    intro t A c w hd hs hI
    obtain ⟨k, n, s, l⟩ := t
    have hdL : depthEL l ≤ d := by rw [depthE] at hd; omega
    have hsL : sizeEL l + 1 ≤ 1000000000000 := by rw [sizeE] at hs; omega
    have hlen := sizeEL_len l
    have HI := Lib.hid hI
    have HE : Hid (sizeE (.node k n s l) = sizeEL l + 1) := by rw [sizeE]; exact rfl
    clear hI hd hs
    show Calls Try.prog 10 #[.agg #[.int .i64 k, .int .i64 n, .string s, .slice A l.length (capF l.length c)]] w _
    generalize capF l.length c = c
    obtain ⟨m, hm⟩ : ∃ m, m = l.length := ⟨_, rfl⟩
    rw [← hm]
    have hm1 : m ≤ l.length := by omega
    have hm2 : l.length ≤ m := by omega
    clear hm
    have l0 := Lies.new w 24 #[.int .i64 k, .int .i64 n, .string s, .slice A m c]
    have hb0 : Below w.heap.size w (w.alloc (.cells #[.int .i64 k, .int .i64 n, .string s, .slice A m c] 24)) := (Below.refl _ w).alloc (Nat.le_refl _) _
    go_enter Try.func10, Try.ntmps10
    go_wp2_with fail
    go_loopw [3, 4] (fun v x wr => ∃ i : Nat, i ≤ m ∧ x = .int .i64 i ∧ v = .int .i64 (sizeEL (l.take i) + 1) ∧ Lies wr w.heap.size 24 #[.int .i64 k, .int .i64 n, .string s, .slice A m c] ∧ Below w.heap.size w wr) (fun _ x _ => m - (intOf x).toNat)
    case atStart => exact ⟨0, by omega, rfl, by simp [sizeEL], l0, hb0⟩
    case round =>
      obtain ⟨i, hi, rfl, rfl, l2, hbw⟩ := hrel
      have hbs := hbw.size
      have c3 := l2.cell 3
      simp at c3
      have hdt := sizeEL_take l i
      have hdt2 := sizeEL_take l (i + 1)
      by_cases hlt : i < m
      · have hia : i < l.length := by omega
        obtain ⟨g, o, A', c', ⟨hA, _⟩, d0, d1, d2, d3, hIn⟩ := EIn.part (EIn.below _ HI.out hbw (Nat.le_refl _)) i hia
        subst hA
        have hm3 := depthEL_mem l (l[i]'hia) (List.getElem_mem hia)
        have hm4 := sizeEL_mem l (l[i]'hia) (List.getElem_mem hia)
        have HS : Hid (sizeEL (l.take (i + 1)) = sizeEL (l.take i) + sizeE (l[i]'hia)) := by
          rw [List.take_succ_eq_append_getElem hia]; exact sizeEL_snoc _ _
        have hq := HS.out
        rw [hq] at hdt2
        simp only [Te.parts] at d0 d1 d2 d3 hIn
        obtain ⟨tr, hu⟩ : ∃ tr, tr = l[i]'hia := ⟨_, rfl⟩
        rw [← hu] at d0 d1 d2 d3 hIn hm3 hm4 HS hdt2
        clear hu hq
        obtain ⟨tk, tn, ts, tl⟩ := tr
        simp only [Te.kind, Te.n, Te.name] at d0 d1 d2 d3
        have HIH := Lib.hid (ih (.node tk tn ts tl) A' c' wr (by omega) (by omega) hIn)
        have L2 := Lib.hid l2
        clear l2 hIn
        go_wp2_with fail
        refine HIH.out.mono ?_
        rintro e w2 ⟨rfl, hb2⟩
        go_wp2_with fail
        go_roundw
        case rel => exact ⟨i + 1, by omega, by go_num, by rw [HS.out]; exact congrArg (Value.int .i64) (by omega), L2.out.below hb2 L2.out.lt, hbw.trans (hb2.mono hbs)⟩
        case measure => simp [intOf]; omega
      · go_wp2_with fail
        go_ret
        obtain rfl : i = m := by omega
        refine ⟨?_, hbw⟩
        rw [List.take_of_length_le (by omega)]
        rw [HE.out]
        exact ret_int (by omega)
end Lx
end Go.Proofs.Ytgnafcnokenogaa
namespace Go.Proofs.Ytgnafcnokenogaa
open Go.RowKit
namespace Lx
theorem belowN {w W : World} (h : Below w.heap.size w W) (n : Nat) : Below w.heap.size w (W.drewN n) := h.trans ⟨rfl, rfl, rfl, Nat.le_refl _, fun _ _ => rfl⟩
end Lx
end Go.Proofs.Ytgnafcnokenogaa
namespace Go.Proofs.Ytgnafcnokenogaa
open Go.RowKit
namespace Lx
set_option maxRecDepth 100000
set_option maxHeartbeats 1000000 in
theorem rdepth6_any (d : Nat) : ∀ (t : Te) (A : Option Addr) (c : Nat) (w : World), depthE t ≤ d → sizeE t ≤ 100000 → EIn w Any t A →
    Calls Try.prog 6 #[ev t A c] w fun e w' => e = .returned (.int .i64 (depthE t)) ∧ Below w.heap.size w w' := by
  induction d with
  | zero => intro t A c w h; have := depthE_pos t; omega
  | succ d ih =>
    intro t A c w hd hs hI
    obtain ⟨k, n, s, l⟩ := t
    have hdL : depthEL l ≤ d := by rw [depthE] at hd; omega
    have hsL : sizeEL l ≤ 100000 := by rw [sizeE] at hs; omega
    have hlen := sizeEL_len l
    have hdl := depthEL_le_size l
    have HI := Lib.hid hI
    have HE : Hid (depthE (.node k n s l) = depthEL l + 1) := by rw [depthE]; exact rfl
    clear hI hd hs
    show Calls Try.prog 6 #[.agg #[.int .i64 k, .int .i64 n, .string s, .slice A l.length (capF l.length c)]] w _
    generalize capF l.length c = c
    obtain ⟨m, hm⟩ : ∃ m, m = l.length := ⟨_, rfl⟩
    rw [← hm]
    have hm1 : m ≤ l.length := by omega
    have hm2 : l.length ≤ m := by omega
    clear hm
    have l0 := Lies.new w 24 #[.int .i64 k, .int .i64 n, .string s, .slice A m c]
    go_enter Try.func6, Try.ntmps6
    go_wp2_with fail
    go_loopw [3, 4] (fun v x wr => ∃ i : Nat, i ≤ m ∧ x = .int .i64 i ∧ v = .int .i64 (depthEL (l.take i)) ∧ Lies wr w.heap.size 24 #[.int .i64 k, .int .i64 n, .string s, .slice A m c] ∧ Below w.heap.size w wr) (fun _ x _ => m - (intOf x).toNat)
    case atStart => exact ⟨0, by omega, rfl, by simp [depthEL], l0, (Below.refl _ w).alloc (Nat.le_refl _) _⟩
    case round =>
      obtain ⟨i, hi, rfl, rfl, l2, hbw⟩ := hrel
      have c3 := l2.cell 3
      simp at c3
      have hbs := hbw.size
      have hdt := depthEL_take l i
      by_cases hlt : i < m
      · have hia : i < l.length := by omega
        obtain ⟨g, o, A', c', ⟨hA, _⟩, d0, d1, d2, d3, hIn⟩ := EIn.part (EIn.below _ HI.out hbw (Nat.le_refl _)) i hia
        subst hA
        have hm3 := depthEL_mem l (l[i]'hia) (List.getElem_mem hia)
        have hm4 := sizeEL_mem l (l[i]'hia) (List.getElem_mem hia)
        have HS : Hid (depthEL (l.take (i + 1)) = max (depthEL (l.take i)) (depthE (l[i]'hia))) := by
          rw [List.take_succ_eq_append_getElem hia]; exact depthEL_snoc _ _
        simp only [Te.parts] at d0 d1 d2 d3 hIn
        obtain ⟨tr, hu⟩ : ∃ tr, tr = l[i]'hia := ⟨_, rfl⟩
        rw [← hu] at d0 d1 d2 d3 hIn hm3 hm4 HS
        clear hu
        obtain ⟨tk, tn, ts, tl⟩ := tr
        simp only [Te.kind, Te.n, Te.name] at d0 d1 d2 d3
        have HIH := Lib.hid (ih (.node tk tn ts tl) A' c' wr (by omega) (by omega) hIn)
        have L2 := Lib.hid l2
        clear l2 hIn
        go_wp2_with fail
        refine HIH.out.mono ?_
        rintro e w2 ⟨rfl, hb2⟩
        go_wp2_with fail
        go_roundw
        case rel => exact ⟨i + 1, by omega, by go_num, by rw [HS.out]; exact congrArg (Value.int .i64) (by omega), L2.out.below hb2 L2.out.lt, hbw.trans (hb2.mono hbs)⟩
        case measure => simp [intOf]; omega
      · go_wp2_with fail
        go_ret
        obtain rfl : i = m := by omega
        refine ⟨?_, hbw⟩
        rw [List.take_of_length_le (by omega)]
        rw [HE.out]
        exact ret_int (by omega)
end Lx
end Go.Proofs.Ytgnafcnokenogaa
namespace Go.Proofs.Ytgnafcnokenogaa
open Go Go.RowKit
namespace Lx
set_option maxRecDepth 100000
structure Bx8 (w W : World) (g : Nat) (k n : Int) (s : ByteArray) (l : List Te) (A : Option Addr) (c : Nat) : Prop where
  box : Lies W g 24 #[.int .i64 k, .int .i64 n, .string s, .slice A l.length (capF l.length c)]
  tin : EIn W Any (.node k n s l) A
  bw : Below w.heap.size w W
theorem Bx8.step {w W W' : World} {g : Nat} {k n : Int} {s : ByteArray} {l : List Te} {A : Option Addr} {c : Nat} (h : Bx8 w W g k n s l A c) (hb : Below W.heap.size W W') : Bx8 w W' g k n s l A c :=
  ⟨h.box.below hb h.box.lt, EIn.below _ h.tin hb (Nat.le_refl _), h.bw.trans (hb.mono h.bw.size)⟩
theorem Bx8.new {w V : World} {k n : Int} {s : ByteArray} {l : List Te} {A : Option Addr} {c g : Nat} (hI : EIn w Any (.node k n s l) A) (hb : Below w.heap.size w V) (hg : g = V.heap.size) :
    Bx8 w (V.alloc (.cells #[.int .i64 k, .int .i64 n, .string s, .slice A l.length (capF l.length c)] 24)) g k n s l A c :=
  ⟨lies_next _ _ _ _ hg, EIn.below _ hI (hb.alloc hb.size _) (Nat.le_refl _), hb.alloc hb.size _⟩
theorem Bx8.old {w W : World} {g : Nat} {k n : Int} {s : ByteArray} {l : List Te} {A : Option Addr} {c : Nat} (h : Bx8 w W g k n s l A c) (o : Obj) : Bx8 w (W.alloc o) g k n s l A c := h.step ((Below.refl _ W).alloc (Nat.le_refl _) o)
/-- Its four cells. -/
def Bx84 (g : Nat) (k n : Int) (s : ByteArray) (m : Nat) (A : Option Addr) (c : Nat) (V : World) : Prop :=
  V.cell? ⟨g, 0, none⟩ = some (.int .i64 k) ∧ V.cell? ⟨g, 1, none⟩ = some (.int .i64 n) ∧ V.cell? ⟨g, 2, none⟩ = some (.string s) ∧ V.cell? ⟨g, 3, none⟩ = some (.slice A m c)
section
variable {w W : World} {g : Nat} {k n : Int} {s : ByteArray} {l : List Te} {A : Option Addr} {c : Nat}
theorem Bx8.four (h : Bx8 w W g k n s l A c) : Bx84 g k n s l.length A (capF l.length c) W := ⟨h.box.cell 0, h.box.cell 1, h.box.cell 2, h.box.cell 3⟩
theorem Bx8.small (h : Bx8 w W g k n s l A c) (L : Int) (h0 : 0 ≤ L) (h1 : L ≤ 100000) : Calls Try.prog 5 #[.agg #[.int .i64 k, .int .i64 n, .string s, .slice A l.length (capF l.length c)], .int .i64 L] W fun e w' => e = .returned (.bool (decide (0 ≤ fewE (.node k n s l) L 600))) ∧ Below W.heap.size W w' :=
  esmall_any (.node k n s l) A c L W h.tin h0 h1
end
theorem small8 {t : Te} {L : Int} (h : decide (0 ≤ fewE t L 600) = true) (_ : L ≤ 1000) : sizeE t ≤ L ∧ depthE t ≤ 600 := by
  have := fewE_size t L 600 (of_decide_eq_true h)
  have := of_decide_eq_true h
  omega
end Lx
end Go.Proofs.Ytgnafcnokenogaa
namespace Go.Proofs.Ytgnafcnokenogaa
namespace Lx
set_option maxRecDepth 100000
mutual
/-- Variables have no parts; alternatives have no number below 0. -/
def wfE : Te → Prop
  | .node k n _ l => (k = 1 → l = []) ∧ (k = 6 → 0 ≤ n) ∧ wfEL l
def wfEL : List Te → Prop
  | [] => True
  | t :: r => wfE t ∧ wfEL r
end
mutual
/-- All variables are bound, or among the first f. -/
def clE : Te → Int → Prop
  | .node k n _ l, f => (k = 1 → 0 ≤ n ∧ n < f ∧ l = []) ∧ (k = 6 → 0 ≤ n ∧ n ≤ 8) ∧ clEL l (f + moreE k n)
def clEL : List Te → Int → Prop
  | [], _ => True
  | t :: r, f => clE t f ∧ clEL r f
end
theorem more_nn {k n : Int} (h : k = 6 → 0 ≤ n) : 0 ≤ moreE k n := by
  rw [moreE]
  split
  · omega
  · split
    · rename_i h6; exact h h6
    · omega
mutual
theorem clE_wf : ∀ (t : Te) (f : Int), clE t f → wfE t
  | .node k n s l, f, h => by
    rw [clE] at h; rw [wfE]
    exact ⟨fun e => (h.1 e).2.2, fun e => (h.2.1 e).1, clEL_wf l _ h.2.2⟩
theorem clEL_wf : ∀ (l : List Te) (f : Int), clEL l f → wfEL l
  | [], _, _ => by rw [wfEL]; trivial
  | t :: r, f, h => by rw [clEL] at h; rw [wfEL]; exact ⟨clE_wf t f h.1, clEL_wf r f h.2⟩
end
mutual
theorem clE_tame : ∀ (t : Te) (f : Int), clE t f → tameE (f + 8 * depthE t + 1000) 8 t
  | .node k n s l, f, h => by
    rw [clE] at h; rw [tameE]
    have hm : moreE k n ≤ 8 := by
      rw [moreE]
      split
      · omega
      · split
        · rename_i h6; exact (h.2.1 h6).2
        · omega
    have hd : depthE (.node k n s l) = depthEL l + 1 := by rw [depthE]
    refine ⟨fun e => ?_, fun e => by have := h.2.1 e; omega, tameEL_mono (by omega) (Int.le_refl _) l (clEL_tame l _ h.2.2)⟩
    have := h.1 e
    exact ⟨by omega, by omega, this.2.2⟩
theorem clEL_tame : ∀ (l : List Te) (f : Int), clEL l f → tameEL (f + 8 * depthEL l + 1000) 8 l
  | [], _, _ => by rw [tameEL]; trivial
  | t :: r, f, h => by
    rw [clEL] at h; rw [tameEL, depthEL]
    exact ⟨tameE_mono (by omega) (Int.le_refl _) t (clE_tame t f h.1), tameEL_mono (by omega) (Int.le_refl _) r (clEL_tame r f h.2)⟩
end
mutual
/-- What is gone through twice, is as gone through once, if it is so at variables. -/
theorem ch_comp {F G H : Int → ByteArray → Int → Te} {p q r : Int} (hv : ∀ n s b, 0 ≤ b → chE G (F n s (p + b)) (q + b) = H n s (r + b)) : ∀ (t : Te) (b : Int), 0 ≤ b → wfE t → chE G (chE F t (p + b)) (q + b) = chE H t (r + b)
  | .node k n s l, b, hb, hw => by
    rw [wfE] at hw
    by_cases hk : k = 1
    · rw [chE.eq_1 F, chE.eq_1 H, if_pos hk, if_pos hk]; exact hv n s b hb
    · have hm := more_nn hw.2.1
      rw [chE.eq_1 F, if_neg hk, chE.eq_1 G, if_neg hk, chE.eq_1 H, if_neg hk]
      have := ch_compL hv l (b + moreE k n) (by omega) hw.2.2
      rw [show p + (b + moreE k n) = p + b + moreE k n by omega, show q + (b + moreE k n) = q + b + moreE k n by omega, show r + (b + moreE k n) = r + b + moreE k n by omega] at this
      rw [this]
theorem ch_compL {F G H : Int → ByteArray → Int → Te} {p q r : Int} (hv : ∀ n s b, 0 ≤ b → chE G (F n s (p + b)) (q + b) = H n s (r + b)) : ∀ (l : List Te) (b : Int), 0 ≤ b → wfEL l → chEL G (chEL F l (p + b)) (q + b) = chEL H l (r + b)
  | [], _, _, _ => by rw [chEL, chEL, chEL]
  | t :: r', b, hb, hw => by rw [wfEL] at hw; rw [chEL.eq_2 F, chEL.eq_2 G, chEL.eq_2 H, ch_comp hv t b hb hw.1, ch_compL hv r' b hb hw.2]
end
mutual
/-- Two ways to go through twice agree, if they do at variables. -/
theorem ch_two {F G F' G' : Int → ByteArray → Int → Te} {p q p' q' : Int} (hv : ∀ n s b, 0 ≤ b → chE G (F n s (p + b)) (q + b) = chE G' (F' n s (p' + b)) (q' + b)) : ∀ (t : Te) (b : Int), 0 ≤ b → wfE t → chE G (chE F t (p + b)) (q + b) = chE G' (chE F' t (p' + b)) (q' + b)
  | .node k n s l, b, hb, hw => by
    rw [wfE] at hw
    by_cases hk : k = 1
    · rw [chE.eq_1 F, chE.eq_1 F', if_pos hk, if_pos hk]; exact hv n s b hb
    · have hm := more_nn hw.2.1
      rw [chE.eq_1 F, if_neg hk, chE.eq_1 G, if_neg hk, chE.eq_1 F', if_neg hk, chE.eq_1 G', if_neg hk]
      have := ch_twoL hv l (b + moreE k n) (by omega) hw.2.2
      rw [show p + (b + moreE k n) = p + b + moreE k n by omega, show q + (b + moreE k n) = q + b + moreE k n by omega, show p' + (b + moreE k n) = p' + b + moreE k n by omega, show q' + (b + moreE k n) = q' + b + moreE k n by omega] at this
      rw [this]
theorem ch_twoL {F G F' G' : Int → ByteArray → Int → Te} {p q p' q' : Int} (hv : ∀ n s b, 0 ≤ b → chE G (F n s (p + b)) (q + b) = chE G' (F' n s (p' + b)) (q' + b)) : ∀ (l : List Te) (b : Int), 0 ≤ b → wfEL l → chEL G (chEL F l (p + b)) (q + b) = chEL G' (chEL F' l (p' + b)) (q' + b)
  | [], _, _, _ => by simp only [chEL]
  | t :: r', b, hb, hw => by rw [wfEL] at hw; rw [chEL.eq_2 F, chEL.eq_2 G, chEL.eq_2 F', chEL.eq_2 G', ch_two hv t b hb hw.1, ch_twoL hv r' b hb hw.2]
end
mutual
/-- What changes no variable changes nothing. -/
theorem ch_id {F : Int → ByteArray → Int → Te} {p f : Int} (hv : ∀ n s b, 0 ≤ b → 0 ≤ n → n < f + b → F n s (p + b) = .node 1 n s []) : ∀ (t : Te) (b : Int), 0 ≤ b → clE t (f + b) → chE F t (p + b) = t
  | .node k n s l, b, hb, hw => by
    rw [clE] at hw
    by_cases hk : k = 1
    · have := hw.1 hk
      rw [chE, if_pos hk, hv n s b hb this.1 this.2.1, hk, this.2.2]
    · have hm := more_nn (fun e => (hw.2.1 e).1)
      have := ch_idL hv l (b + moreE k n) (by omega) (by rw [show f + (b + moreE k n) = f + b + moreE k n by omega]; exact hw.2.2)
      rw [show p + (b + moreE k n) = p + b + moreE k n by omega] at this
      rw [chE, if_neg hk, this]
theorem ch_idL {F : Int → ByteArray → Int → Te} {p f : Int} (hv : ∀ n s b, 0 ≤ b → 0 ≤ n → n < f + b → F n s (p + b) = .node 1 n s []) : ∀ (l : List Te) (b : Int), 0 ≤ b → clEL l (f + b) → chEL F l (p + b) = l
  | [], _, _, _ => by rw [chEL]
  | t :: r', b, hb, hw => by rw [clEL] at hw; rw [chEL, ch_id hv t b hb hw.1, ch_idL hv r' b hb hw.2]
end
mutual
theorem ch_same : ∀ (t : Te) (b : Int), wfE t → chE (fun n s _ => .node 1 n s []) t b = t
  | .node k n s l, b, h => by
    rw [wfE] at h
    by_cases hk : k = 1
    · rw [chE, if_pos hk, hk, h.1 hk]
    · rw [chE, if_neg hk, ch_sameL l _ h.2.2]
theorem ch_sameL : ∀ (l : List Te) (b : Int), wfEL l → chEL (fun n s _ => .node 1 n s []) l b = l
  | [], _, _ => by rw [chEL]
  | t :: r, b, h => by rw [wfEL] at h; rw [chEL, ch_same t b h.1, ch_sameL r b h.2]
end
theorem v_up (u n : Int) (s : ByteArray) (f : Int) : chE (upF u) (.node 1 n s []) f = .node 1 (if f ≤ n then n + u else n) s [] := by rw [chE, if_pos rfl, upF]
theorem v_put (k : Int) (x : Te) (n : Int) (s : ByteArray) (b : Int) : chE (putF k x) (.node 1 n s []) b = putF k x n s b := by rw [chE, if_pos rfl]
/-- Moved up twice, from one place on. -/
theorem up_up {t : Te} (hw : wfE t) (u d g : Int) (hu : 0 ≤ u) (hg : 0 ≤ g) : chE (upF d) (chE (upF u) t g) g = chE (upF (u + d)) t g := by
  have := ch_comp (F := upF u) (G := upF d) (H := upF (u + d)) (p := 0) (q := 0) (r := 0) (fun n s b _ => by
    rw [upF, v_up, upF]; congr 1; (repeat' split) <;> omega) t g hg hw
  simpa using this
/-- Moved up, and then from where that leads. -/
theorem up_after {t : Te} (hw : wfE t) (e d : Int) (he : 0 ≤ e) : chE (upF d) (chE (upF e) t 0) e = chE (upF (e + d)) t 0 := by
  have := ch_comp (F := upF e) (G := upF d) (H := upF (e + d)) (p := 0) (q := e) (r := 0) (fun n s b _ => by
    rw [upF, v_up, upF]; congr 1; (repeat' split) <;> omega) t 0 (by omega) hw
  simpa using this
/-- What was moved up past the place has nothing there. -/
theorem put_past {t x : Te} (hw : wfE t) (d : Int) (hd : 0 ≤ d) : chE (putF 0 x) (chE (upF (d + 1)) t 0) d = chE (upF d) t 0 := by
  have := ch_comp (F := upF (d + 1)) (G := putF 0 x) (H := upF d) (p := 0) (q := d) (r := 0) (fun n s b hb => by
    rw [upF, v_put, putF, upF, if_neg (by split <;> omega)]; congr 1; (repeat' split) <;> omega) t 0 (by omega) hw
  simpa using this
/-- To put, and to move up, in either order. -/
theorem put_up_swap {t c : Te} (hw : wfE t) (hc : wfE c) (k d : Int) (hk : 0 ≤ k) (hd : 0 ≤ d) : chE (putF k c) (chE (upF d) t 0) d = chE (upF d) (chE (putF k c) t 0) 0 := by
  have := ch_two (F := upF d) (G := putF k c) (F' := putF k c) (G' := upF d) (p := 0) (q := d) (p' := 0) (q' := 0) (fun n s b hb => by
    simp only [Int.zero_add]
    rw [upF, v_put, putF, putF]
    by_cases h : n = k + b
    · rw [if_pos (show (if b ≤ n then n + d else n) = k + (d + b) by split <;> omega), if_pos h, upE, upE, up_after hc b d hb]
      congr 2; omega
    · rw [if_neg (show ¬ (if b ≤ n then n + d else n) = k + (d + b) by split <;> omega), if_neg h, v_up]
      congr 1; (repeat' split) <;> omega) t 0 (by omega) hw
  simpa using this
/-- Put where it was moved up by one. -/
theorem put_back {t x : Te} {f : Int} (hw : wfE t) (hl : clE t f) (k : Int) : chE (putF k x) (chE (upF 1) t k) 0 = t := by
  have h1 := ch_comp (F := upF 1) (G := putF k x) (H := fun n s _ => .node 1 n s []) (p := k) (q := 0) (r := 0) (fun n s b hb => by
    rw [upF, v_put, putF, if_neg (by split <;> omega)]; congr 1; (repeat' split) <;> omega) t 0 (by omega) hw
  rw [ch_id (F := fun n s _ => .node 1 n s []) (f := f) (fun n s b _ _ _ => rfl) t 0 (by omega) (by simpa using hl)] at h1
  simpa using h1
mutual
theorem wf_up : ∀ (t : Te) (u f : Int), wfE t → wfE (chE (upF u) t f)
  | .node k n s l, u, f, h => by
    rw [chE]
    rw [wfE] at h
    split
    · rw [upF, wfE, wfEL]; exact ⟨fun _ => rfl, fun e => by omega, trivial⟩
    · rename_i hk; rw [wfE]; exact ⟨fun e => absurd e hk, h.2.1, wf_upL l u _ h.2.2⟩
theorem wf_upL : ∀ (l : List Te) (u f : Int), wfEL l → wfEL (chEL (upF u) l f)
  | [], _, _, _ => by rw [chEL, wfEL]; trivial
  | t :: r, u, f, h => by rw [wfEL] at h; rw [chEL, wfEL]; exact ⟨wf_up t u f h.1, wf_upL r u f h.2⟩
end
mutual
theorem wf_put : ∀ (t : Te) (k : Int) (x : Te) (b : Int), wfE x → wfE t → wfE (chE (putF k x) t b)
  | .node k' n s l, k, x, b, hx, h => by
    rw [chE]
    rw [wfE] at h
    split
    · rw [putF]
      split
      · exact wf_up x b 0 hx
      · rw [wfE, wfEL]; exact ⟨fun _ => rfl, fun e => by omega, trivial⟩
    · rename_i hk; rw [wfE]; exact ⟨fun e => absurd e hk, h.2.1, wf_putL l k x _ hx h.2.2⟩
theorem wf_putL : ∀ (l : List Te) (k : Int) (x : Te) (b : Int), wfE x → wfEL l → wfEL (chEL (putF k x) l b)
  | [], _, _, _, _, _ => by rw [chEL, wfEL]; trivial
  | t :: r, k, x, b, hx, h => by rw [wfEL] at h; rw [chEL, wfEL]; exact ⟨wf_put t k x b hx h.1, wf_putL r k x b hx h.2⟩
end
/-- The stage's theorem, plainly. -/
theorem put_put {a b c : Te} (ha : wfE a) (hb : wfE b) (hc : wfE c) : putE (putE a 0 b) 0 c = putE (putE a 1 (upE c 1 0)) 0 (putE b 0 c) := by
  have := ch_two (F := putF 0 b) (G := putF 0 c) (F' := putF 1 (upE c 1 0)) (G' := putF 0 (putE b 0 c)) (p := 0) (q := 0) (p' := 0) (q' := 0) (fun n s d hd => by
    simp only [Int.zero_add]
    have L : putF 0 b n s d = (if n = d then upE b d 0 else .node 1 (if d < n then n - 1 else n) s []) := by rw [putF, Int.zero_add]
    have R : putF 1 (upE c 1 0) n s d = (if n = 1 + d then upE (upE c 1 0) d 0 else .node 1 (if 1 + d < n then n - 1 else n) s []) := by rw [putF]
    rw [L, R]
    by_cases h0 : n = d
    · rw [if_pos h0, if_neg (show ¬ n = 1 + d by omega), if_neg (show ¬ 1 + d < n by omega), v_put, putF, if_pos (show n = 0 + d by omega), upE, upE, put_up_swap hb hc 0 d (by omega) hd]
      rfl
    · by_cases h1 : n = 1 + d
      · rw [if_neg h0, if_pos h1, if_pos (show d < n by omega), v_put, putF, if_pos (show n - 1 = 0 + d by omega), upE, upE, upE, up_up hc 1 d 0 (by omega) (by omega), Int.add_comm 1 d, put_past hc d hd]
      · rw [if_neg h0, if_neg h1, v_put, v_put, putF, putF]
        by_cases h2 : n < d
        · rw [if_neg (show ¬ d < n by omega), if_neg (show ¬ 1 + d < n by omega), if_neg (show ¬ n = 0 + d by omega), if_neg (show ¬ n = 0 + d by omega)]
        · rw [if_pos (show d < n by omega), if_pos (show 1 + d < n by omega), if_neg (show ¬ n - 1 = 0 + d by omega), if_neg (show ¬ n - 1 = 0 + d by omega)]) a 0 (by omega) ha
  simpa [putE] using this
theorem up_none {t : Te} {f : Int} (h : clE t f) : upE t 0 0 = t := by
  have := ch_id (F := upF 0) (p := 0) (f := f) (fun n s b _ _ _ => by rw [upF]; congr 1; split <;> omega) t 0 (by omega) (by simpa using h)
  simpa [upE] using this
theorem up_far {t : Te} {f : Int} (h : clE t f) (u g : Int) (hg : f ≤ g) : upE t u g = t := by
  have := ch_id (F := upF u) (p := g) (f := f) (fun n s b _ _ _ => by rw [upF, if_neg (by omega)]) t 0 (by omega) (by simpa using h)
  simpa [upE] using this
theorem put_far {t : Te} (h : clE t 0) (k : Int) (x : Te) (hk : 0 ≤ k) : putE t k x = t := by
  have := ch_id (F := putF k x) (p := 0) (f := 0) (fun n s b _ _ _ => by rw [putF, if_neg (by omega), if_neg (by omega)]) t 0 (by omega) (by simpa using h)
  simpa [putE] using this
/-- Under a function. -/
theorem put_lam {t x : Te} (ht : wfE t) (hx : wfE x) (k : Int) : chE (putF k x) t 1 = putE t (k + 1) (upE x 1 0) := by
  have := ch_comp (F := fun n s _ => .node 1 n s []) (G := putF k x) (H := putF (k + 1) (upE x 1 0)) (p := 0) (q := 1) (r := 0) (fun n s b hb => by
    rw [v_put, putF, putF]
    by_cases h : n = k + (1 + b)
    · rw [if_pos h, if_pos (show n = k + 1 + (0 + b) by omega), upE, upE, upE, up_up hx 1 (0 + b) 0 (by omega) (by omega)]; simp
    · rw [if_neg h, if_neg (show ¬ n = k + 1 + (0 + b) by omega)]; congr 1; (repeat' split) <;> omega) t 0 (by omega) ht
  have h2 : ∀ t : Te, wfE t → chE (fun n s _ => .node 1 n s []) t (0 + 0) = t := by
    intro t h
    have := ch_same t 0 h
    simpa using this
  rw [h2 t ht] at this
  simpa [putE] using this
end Lx
end Go.Proofs.Ytgnafcnokenogaa
namespace Go.Proofs.Ytgnafcnokenogaa
open Go
namespace Lx
set_option maxRecDepth 100000
section
variable {P : Program} {ops : Array Oper} {Q : Exit → Act → World → Prop} {md : Region.Mode} {S : World → Prop} {last : Nat}
/-- One operation alone may come up, and its guard lets it. -/
theorem wpAnyK_oneW {i : Nat} {o : Oper} {fuel : Nat} {listed : Array Bool} {a : Act} {w : World} (ho : ops[i]? = some o) (hw : Region.wanted o (yielded ops a.tmps) = true) (hr : Region.ready md ops listed = [i])
    (h : ∀ K' : Act → World → Prop, Shut (∀ a w, (i ≠ last → S w) → ((i ≠ last → S w) → wpAnyK P md ops Q S last fuel (listed.setIfInBounds i true) a w) → K' a w) → Oper.wp P o a w K' Q) :
    wpAnyK P md ops Q S last (fuel + 1) listed a w := by
  refine ⟨fun h0 => (by rw [hr] at h0; cases h0), fun j hj => ?_⟩
  rw [hr] at hj
  obtain rfl : j = i := by simpa using hj
  refine wpOp_step ho fun K' hK => ?_
  rw [if_pos hw]
  exact h K' (fun a w hS hW => hK a w ⟨hS, hW hS⟩)
/-- Two operations may come up, and their guards let them. -/
theorem wpAnyK_bothW {i j : Nat} {oi oj : Oper} {fuel : Nat} {listed : Array Bool} {a : Act} {w : World} (hoi : ops[i]? = some oi) (hoj : ops[j]? = some oj) (hgi : Region.wanted oi (yielded ops a.tmps) = true) (hgj : Region.wanted oj (yielded ops a.tmps) = true) (hr : Region.ready md ops listed = [i, j])
    (h1 : ∀ K' : Act → World → Prop, Shut (∀ a w, (i ≠ last → S w) → ((i ≠ last → S w) → wpAnyK P md ops Q S last fuel (listed.setIfInBounds i true) a w) → K' a w) → Oper.wp P oi a w K' Q)
    (h2 : ∀ K' : Act → World → Prop, Shut (∀ a w, (j ≠ last → S w) → ((j ≠ last → S w) → wpAnyK P md ops Q S last fuel (listed.setIfInBounds j true) a w) → K' a w) → Oper.wp P oj a w K' Q) :
    wpAnyK P md ops Q S last (fuel + 1) listed a w := by
  refine ⟨fun h0 => (by rw [hr] at h0; cases h0), fun k hk => ?_⟩
  rw [hr] at hk
  rcases List.mem_cons.1 hk with rfl | hk
  · refine wpOp_step hoi fun K' hK => ?_
    rw [if_pos hgi]
    exact h1 K' (fun a w hS hW => hK a w ⟨hS, hW hS⟩)
  · obtain rfl : k = j := by simpa using hk
    refine wpOp_step hoj fun K' hK => ?_
    rw [if_pos hgj]
    exact h2 K' (fun a w hS hW => hK a w ⟨hS, hW hS⟩)
end
end Lx
end Go.Proofs.Ytgnafcnokenogaa
