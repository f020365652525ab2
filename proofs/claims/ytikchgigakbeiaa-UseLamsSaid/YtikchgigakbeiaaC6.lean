/-
  Texts that lie one behind the other: ShelfU UsQ UsK SuLa UsS UsX UsY SuUp OwnLe DepthE SuR6 BelN RDp UsH.
-/
import Derived.Test.YtikchgigakbeiaaProg
import Derived.Test.YtikchgigakbeiaaC5
import Derived.Test.YtikchgigakbeiaaC1
import Derived.Test.YtikchgigakbeiaaC2
import Derived.Shelf.Small.Bits
import Derived.Shelf.Strconv.Itoa0
import Derived.Shelf.Sort.Plain
import Derived.Shelf.Slices.Reverse
import Derived.Shelf.Slices.CompactI
import Derived.Shelf.Slices.SearchI
import Derived.Shelf.Slices.Cells
import Derived.Shelf.Slices.In.SortNone
import Derived.Lib.SlicesCompact
import Derived.Deep.Cut
import Derived.Deep.RegionHeld3
import Derived.Deep.DrawnRows
import Derived.Maps.AppendAt
import Derived.Deep.AppendLies
import Derived.Deep.QuietTactic
import Derived.BigQuiet
namespace Go.Proofs
open Go.Shelf
def Try.lays189_ren : Go.Shelf.Ren := ⟨fun | 189 => 28 | 125 => 40 | 257 => 39 | 128 => 59 | 129 => 60 | 294 => 50 | 295 => 51 | 296 => 52 | 297 => 53 | 298 => 54 | 299 => 55 | 216 => 56 | 300 => 57 | 301 => 58 | 328 => 65 | 329 => 66 | 330 => 67 | 331 => 68 | 332 => 69 | 215 => 70 | 343 => 79 | n => n, fun | 28 => 28 | 3 => 3 | 46 => 60 | 0 => 0 | 51 => 77 | 53 => 79 | 4 => 4 | 183 => 70 | 182 => 69 | 131 => 74 | 5 => 5 | 9 => 9 | 218 => 88 | 222 => 92 | 228 => 100 | 229 => 101 | n => n, fun | n => n⟩
theorem Try.lays189 : Go.Proofs.Lays.n189 Try.prog Try.lays189_ren := {
  mixed := by kernel_rfl
  f125 := Try.func40.trans (congrArg some (by kernel_rfl))
  f128 := Try.func59.trans (congrArg some (by kernel_rfl))
  f129 := Try.func60.trans (congrArg some (by kernel_rfl))
  f189 := Try.func28.trans (congrArg some (by kernel_rfl))
  f215 := Try.func70.trans (congrArg some (by kernel_rfl))
  f216 := Try.func56.trans (congrArg some (by kernel_rfl))
  f257 := Try.func39.trans (congrArg some (by kernel_rfl))
  f294 := Try.func50.trans (congrArg some (by kernel_rfl))
  f295 := Try.func51.trans (congrArg some (by kernel_rfl))
  f296 := Try.func52.trans (congrArg some (by kernel_rfl))
  f297 := Try.func53.trans (congrArg some (by kernel_rfl))
  f298 := Try.func54.trans (congrArg some (by kernel_rfl))
  f299 := Try.func55.trans (congrArg some (by kernel_rfl))
  f300 := Try.func57.trans (congrArg some (by kernel_rfl))
  f301 := Try.func58.trans (congrArg some (by kernel_rfl))
  f328 := Try.func65.trans (congrArg some (by kernel_rfl))
  f329 := Try.func66.trans (congrArg some (by kernel_rfl))
  f330 := Try.func67.trans (congrArg some (by kernel_rfl))
  f331 := Try.func68.trans (congrArg some (by kernel_rfl))
  f332 := Try.func69.trans (congrArg some (by kernel_rfl))
  f343 := Try.func79.trans (congrArg some (by kernel_rfl))
  t0 := Try.underlying0
  a0 := Try.isAgg0
  z0 := Try.sizeOf0
  v0 := Try.zeroValue0
  t3 := Try.underlying3
  a3 := Try.isAgg3
  z3 := Try.sizeOf3
  v3 := Try.zeroValue3
  t4 := Try.underlying4
  a4 := Try.isAgg4
  z4 := Try.sizeOf4
  v4 := Try.zeroValue4
  t5 := Try.underlying5
  a5 := Try.isAgg5
  z5 := Try.sizeOf5
  v5 := Try.zeroValue5
  t9 := Try.underlying9
  a9 := Try.isAgg9
  z9 := Try.sizeOf9
  v9 := Try.zeroValue9
  t28 := Try.underlying28
  a28 := Try.isAgg28
  z28 := Try.sizeOf28
  v28 := Try.zeroValue28
  t46 := Try.underlying60
  a46 := Try.isAgg60
  z46 := Try.sizeOf60
  v46 := Try.zeroValue60
  t51 := Try.underlying77
  a51 := Try.isAgg77
  z51 := Try.sizeOf77
  v51 := Try.zeroValue77
  t53 := Try.underlying79
  a53 := Try.isAgg79
  z53 := Try.sizeOf79
  v53 := Try.zeroValue79
  t131 := Try.underlying74
  a131 := Try.isAgg74
  z131 := Try.sizeOf74
  v131 := Try.zeroValue74
  t182 := Try.underlying69
  a182 := Try.isAgg69
  z182 := Try.sizeOf69
  v182 := Try.zeroValue69
  t183 := Try.underlying70
  a183 := Try.isAgg70
  z183 := Try.sizeOf70
  v183 := Try.zeroValue70
  t218 := Try.underlying88
  a218 := Try.isAgg88
  z218 := Try.sizeOf88
  v218 := Try.zeroValue88
  t222 := Try.underlying92
  a222 := Try.isAgg92
  z222 := Try.sizeOf92
  v222 := Try.zeroValue92
  t228 := Try.underlying100
  a228 := Try.isAgg100
  z228 := Try.sizeOf100
  v228 := Try.zeroValue100
  t229 := Try.underlying101
  a229 := Try.isAgg101
  z229 := Try.sizeOf101
  v229 := Try.zeroValue101 }
open Go.Sort Go.RowKit in
theorem Try.slices_Sort_int (blk off cap : Nat) (zs : List Int) (w : World) (hH : Holds (Value.int .i64) w blk off zs.toArray) (hblk : blk < w.heap.size) (hsz : zs.length < 4611686018427387904) :
    Calls Try.prog 28 #[.slice (some ⟨blk, off, none⟩) zs.length cap] w fun e w' =>
      e = .returned (.tuple #[]) ∧ ∃ n os, w' = grow (putRow (Value.int .i64) (Sort.ahead w n) blk off (zs.mergeSort fun x y => decide (x ≤ y)).toArray) os := Any.slices_Sort_int Try.lays189 blk off cap zs w hH hblk hsz
def Try.lays112_ren : Go.Shelf.Ren := ⟨fun | 112 => 25 | n => n, fun | 28 => 28 | 3 => 3 | 4 => 4 | 0 => 0 | n => n, fun | n => n⟩
theorem Try.lays112 : Go.Proofs.Lays.n112 Try.prog Try.lays112_ren := {
  mixed := by kernel_rfl
  f112 := Try.func25.trans (congrArg some (by kernel_rfl))
  t0 := Try.underlying0
  a0 := Try.isAgg0
  z0 := Try.sizeOf0
  v0 := Try.zeroValue0
  t3 := Try.underlying3
  a3 := Try.isAgg3
  z3 := Try.sizeOf3
  v3 := Try.zeroValue3
  t4 := Try.underlying4
  a4 := Try.isAgg4
  z4 := Try.sizeOf4
  v4 := Try.zeroValue4
  t28 := Try.underlying28
  a28 := Try.isAgg28
  z28 := Try.sizeOf28
  v28 := Try.zeroValue28 }
open Go.RowKit Go.Lib Go.Sort in
theorem Try.slices_Reverse_int (blk off cap : Nat) (zs : List Int) (w : World) (hH : Holds (Value.int .i64) w blk off zs.toArray) (hsz : zs.length ≤ 9223372036854775807) :
    Calls Try.prog 25 #[.slice (some ⟨blk, off, none⟩) zs.length cap] w fun e w' => e = .returned (.tuple #[]) ∧ ∃ n, w' = putRow (Value.int .i64) (Sort.ahead w n) blk off zs.reverse.toArray := Any.slices_Reverse_int Try.lays112 blk off cap zs w hH hsz
open Go.RowKit Go.Lib Go.Sort in
theorem Try.slices_Reverse_int_empty (a : Option Addr) (cap : Nat) (w : World) :
    Calls Try.prog 25 #[.slice a 0 cap] w fun e w' => e = .returned (.tuple #[]) ∧ w' = w := Any.slices_Reverse_int_empty Try.lays112 a cap w
def Try.laysNm220_ren : Go.Shelf.Ren := ⟨fun | 20 => 29 | n => n, fun | 22 => 28 | 3 => 3 | 4 => 4 | 0 => 0 | n => n, fun | n => n⟩
theorem Try.laysNm220 : Go.Proofs.Lays2.n20 Try.prog Try.laysNm220_ren := {
  mixed := by kernel_rfl
  f20 := Try.func29.trans (congrArg some (by kernel_rfl))
  t0 := Try.underlying0
  a0 := Try.isAgg0
  z0 := Try.sizeOf0
  v0 := Try.zeroValue0
  t3 := Try.underlying3
  a3 := Try.isAgg3
  z3 := Try.sizeOf3
  v3 := Try.zeroValue3
  t4 := Try.underlying4
  a4 := Try.isAgg4
  z4 := Try.sizeOf4
  v4 := Try.zeroValue4
  t22 := Try.underlying28
  a22 := Try.isAgg28
  z22 := Try.sizeOf28
  v22 := Try.zeroValue28
  i3 := by kernel_rfl }
open Go.RowKit Go.Lib Go.Sort in
theorem Try.slices_Compact_int (blk off cap : Nat) (zs : List Int) (w : World) (hH : Holds (Value.int .i64) w blk off zs.toArray) (hsz : zs.length ≤ 9223372036854775807) (hcap : zs.length ≤ cap) :
    Calls Try.prog 29 #[.slice (some ⟨blk, off, none⟩) zs.length cap] w fun e w' => e = .returned (.slice (some ⟨blk, off, none⟩) (Lib.compact zs).length cap) ∧ ∃ q, w' = putRow (Value.int .i64) (Sort.ahead w q) blk off (Lib.compact zs ++ List.replicate (zs.length - (Lib.compact zs).length) 0).toArray := Any.slices_Compact_int Try.laysNm220 blk off cap zs w hH hsz hcap
open Go.RowKit Go.Lib Go.Sort in
theorem Try.slices_Compact_int_empty (a : Option Addr) (cap : Nat) (w : World) :
    Calls Try.prog 29 #[.slice a 0 cap] w fun e w' => e = .returned (.slice a 0 cap) ∧ w' = w := Any.slices_Compact_int_empty Try.laysNm220 a cap w
open Go.RowKit Go.Sort in
theorem Try.slices_Sort_int_none (p : Option Addr) (cap : Nat) (w : World) :
    Calls Try.prog 28 #[.slice p 0 cap] w fun e w' => e = .returned (.tuple #[]) ∧ w' = w := Any.slices_Sort_int_none Try.lays189 p cap w
end Go.Proofs
namespace Go.Proofs.Ytikchgigakbeiaa
open Go Go.RowKit
namespace Lx
set_option maxRecDepth 100000
attribute [local go_sem] run_store_fn
/-- The answer is a row of numbers in new memory. -/
def GivesI (xs : List Int) (w : World) (e : Ending) (w' : World) : Prop :=
  ∃ A c, e = .returned (.slice A xs.length c) ∧ w'.ownsRow w.heap.size 3 1 (.slice A xs.length c) xs.length (vI xs) ∧ Below w.heap.size w w'
theorem rev_any {w : World} {b : Nat} {A : Option Addr} {c n : Nat} {xs : List Int} (h : w.ownsRow b 3 1 (.slice A n c) n (vI xs)) (hn : n ≤ 1000000000000) :
    Calls Try.prog 25 #[.slice A n c] w fun e w' => e = .returned (.tuple #[]) ∧ w'.ownsRow b 3 1 (.slice A n c) n (vI xs.reverse) ∧ Below b w w' := by
  have hxl : xs.length = n := by have := h.1; simp [vI] at this; omega
  by_cases h0 : n = 0
  · subst h0
    obtain rfl : xs = [] := List.eq_nil_of_length_eq_zero hxl
    refine (Try.slices_Reverse_int_empty A c w).mono ?_
    rintro e w' ⟨rfl, rfl⟩
    exact ⟨rfl, h, Below.refl _ _⟩
  · obtain ⟨A', c', e1, e2⟩ := ownsRow_slice h
    injection e1 with e1 _ e3
    subst e1 e3
    obtain ⟨g, rfl⟩ := e2 (by omega)
    obtain ⟨hH, hg, _, _⟩ := row_holds h
    have hq := Try.slices_Reverse_int g 0 c xs w hH (by omega)
    rw [hxl] at hq
    refine hq.mono ?_
    rintro e w' ⟨rfl, q, rfl⟩
    have := row_put h q xs.reverse (by simp [hxl]) n (Nat.le_refl _) #[]
    rw [List.take_of_length_le (by simp [hxl]), Sort.grow_empty] at this
    exact ⟨rfl, this.1, this.2⟩
theorem sort_any {w : World} {b : Nat} {A : Option Addr} {c n : Nat} {xs : List Int} (h : w.ownsRow b 3 1 (.slice A n c) n (vI xs)) (hn : n ≤ 1000000000000) :
    Calls Try.prog 28 #[.slice A n c] w fun e w' => e = .returned (.tuple #[]) ∧ w'.ownsRow b 3 1 (.slice A n c) n (vI (xs.mergeSort fun x y => decide (x ≤ y))) ∧ Below b w w' := by
  have hxl : xs.length = n := by have := h.1; simp [vI] at this; omega
  by_cases h0 : n = 0
  · subst h0
    obtain rfl : xs = [] := List.eq_nil_of_length_eq_zero hxl
    refine (Try.slices_Sort_int_none A c w).mono ?_
    rintro e w' ⟨rfl, rfl⟩
    exact ⟨rfl, by simpa using h, Below.refl _ _⟩
  · obtain ⟨A', c', e1, e2⟩ := ownsRow_slice h
    injection e1 with e1 _ e3
    subst e1 e3
    obtain ⟨g, rfl⟩ := e2 (by omega)
    obtain ⟨hH, hg, _, _⟩ := row_holds h
    have hq := Try.slices_Sort_int g 0 c xs w hH hg (by omega)
    rw [hxl] at hq
    refine hq.mono ?_
    rintro e w' ⟨rfl, q, os, rfl⟩
    have hl : (xs.mergeSort fun x y => decide (x ≤ y)).length = n := by rw [List.length_mergeSort]; exact hxl
    have := row_put h q (xs.mergeSort fun x y => decide (x ≤ y)) hl n (Nat.le_refl _) os
    rw [List.take_of_length_le (Nat.le_of_eq hl)] at this
    exact ⟨rfl, this.1, this.2⟩
theorem compact_len (xs : List Int) : (Lib.compact xs).length ≤ xs.length := by
  unfold Lib.compact Lib.compactUpTo
  rw [List.length_map]
  exact Nat.le_trans (List.length_filter_le _ _) (by simp)
theorem compact_any {w : World} {b : Nat} {A : Option Addr} {c n : Nat} {xs : List Int} (h : w.ownsRow b 3 1 (.slice A n c) n (vI xs)) (hn : n ≤ 1000000000000) :
    Calls Try.prog 29 #[.slice A n c] w fun e w' => e = .returned (.slice A (Lib.compact xs).length c) ∧ w'.ownsRow b 3 1 (.slice A (Lib.compact xs).length c) (Lib.compact xs).length (vI (Lib.compact xs)) ∧ Below b w w' := by
  have hxl : xs.length = n := by have := h.1; simp [vI] at this; omega
  by_cases h0 : n = 0
  · subst h0
    obtain rfl : xs = [] := List.eq_nil_of_length_eq_zero hxl
    refine (Try.slices_Compact_int_empty A c w).mono ?_
    rintro e w' ⟨rfl, rfl⟩
    have e0 : Lib.compact ([] : List Int) = [] := by simp [Lib.compact, Lib.compactUpTo]
    rw [e0]
    exact ⟨rfl, h, Below.refl _ _⟩
  · obtain ⟨A', c', e1, e2⟩ := ownsRow_slice h
    injection e1 with e1 _ e3
    subst e1 e3
    obtain ⟨g, rfl⟩ := e2 (by omega)
    obtain ⟨hH, hg, _, hnc⟩ := row_holds h
    have hq := Try.slices_Compact_int g 0 c xs w hH (by omega) (by omega)
    rw [hxl] at hq
    refine hq.mono ?_
    rintro e w' ⟨rfl, q, rfl⟩
    have hcl := compact_len xs
    have := row_put h q (Lib.compact xs ++ List.replicate (n - (Lib.compact xs).length) 0) (by simp; omega) (Lib.compact xs).length (by omega) #[]
    rw [List.take_left, Sort.grow_empty] at this
    exact ⟨rfl, this.1, this.2⟩
set_option maxHeartbeats 4000000 in
theorem of_any (t : Te) (A : Option Addr) (c : Nat) (w : World) (hd : depthE t ≤ 4000) (hs : sizeE t ≤ 1000000) (ht : tameE 1099511627776 1099511627776 t) (hI : EIn w Any t A) :
    Calls Try.prog 9 #[ev t A c] w (GivesI (ofE t) w) := by
  obtain ⟨k, n, s, lst⟩ := t
  show Calls Try.prog 9 #[.agg #[.int .i64 k, .int .i64 n, .string s, .slice A lst.length (capF lst.length c)]] w _
  have hol := ofE_len (.node k n s lst)
  have hb1 : Below w.heap.size w (w.alloc (.cells #[.int .i64 k, .int .i64 n, .string s, .slice A lst.length (capF lst.length c)] 24)) := (Below.refl _ w).alloc (Nat.le_refl _) _
  have L0 := Lies.new w 24 #[.int .i64 k, .int .i64 n, .string s, .slice A lst.length (capF lst.length c)]
  have hI1 := EIn.below _ hI hb1 (Nat.le_refl _)
  go_enter Try.func9, Try.ntmps9
  go_upto_region 1 with fail
  generalize w.alloc (.cells #[.int .i64 k, .int .i64 n, .string s, .slice A lst.length (capF lst.length c)] 24) = V at L0 hb1 hI1 ⊢
  have c0 := L0.four
  have L2 := Lies.new V 24 #[.int .i64 k, .int .i64 n, .string s, .slice A lst.length (capF lst.length c)]
  have hbV : Below V.heap.size V (V.alloc (.cells #[.int .i64 k, .int .i64 n, .string s, .slice A lst.length (capF lst.length c)] 24)) := (Below.refl _ V).alloc (Nat.le_refl _) _
  have HC := Lib.hid (collect_any (.node k n s lst) A c V.heap.size _ hd hs ht (EIn.below _ (ein_lt hI1) hbV (Nat.le_refl _)) L2)
  have hb2 := hb1.trans (hbV.mono hb1.size)
  clear hI hI1 L2 L0 hbV
  go_wp2_with (first
    | (go_at_call 24; refine (usesF_any _ _ _ _ _ _ _).mono ?_; rintro e w' ⟨rfl, rfl⟩)
    | (go_at_call 23; refine HC.out.mono ?_; rintro e w1 ⟨A', c', rfl, hrow, hb⟩)
    | (go_at_call 25; refine (rev_any hrow (by omega)).mono ?_; rintro e w2 ⟨rfl, hrow2, hb3⟩))
  go_ret
  rw [List.reverse_reverse] at hrow2
  refine ⟨A', c', rfl, ownsRow_base hrow2 hb2.size, ?_⟩
  exact (hb2.trans (hb.mono hb2.size)).trans (hb3.mono hb2.size)
/-- The numbers of a term's free variables, rising, each once. -/
def freeE (t : Te) : List Int := Lib.compact ((fvE t 0).mergeSort fun x y => decide (x ≤ y))
set_option maxHeartbeats 4000000 in
theorem useFree_any (t : Te) (A : Option Addr) (c : Nat) (w : World) (hd : depthE t ≤ 4000) (hs : sizeE t ≤ 1000000) (ht : tameE 1099511627776 1099511627776 t) (hI : EIn w Any t A) :
    Calls Try.prog 11 #[ev t A c] w (GivesI (freeE t) w) := by
  obtain ⟨R, hR⟩ : ∃ R, R = GivesI (freeE t) w := ⟨_, rfl⟩
  rw [← hR]
  have HR := Lib.hid hR
  clear hR
  have hfl := fvE_len t 0
  obtain ⟨V, hV⟩ : ∃ V, V = (w.alloc (.cells #[.int .i64 t.kind, .int .i64 t.n, .string t.name, .slice A t.parts.length (capF t.parts.length c)] 24)).alloc (.cells #[.slice none 0 0] 28) := ⟨_, rfl⟩
  have hbV : Below w.heap.size w V := by rw [hV]; exact ((Below.refl _ w).alloc (Nat.le_refl _) _).alloc (by simp) _
  have hsV : V.heap.size = w.heap.size + 2 := by rw [hV]; simp
  have L0 : Lies V w.heap.size 24 #[.int .i64 t.kind, .int .i64 t.n, .string t.name, .slice A t.parts.length (capF t.parts.length c)] := by rw [hV]; exact (Lies.new _ _ _).old _
  have L1 : Lies V (w.heap.size + 1) 28 #[.slice none 0 0] := by rw [hV]; exact lies_next _ _ _ _ (by simp)
  obtain ⟨V3, hV3⟩ : ∃ V3, V3 = V.alloc (.cells #[.func (.func 26) #[] #[.pointer (some ⟨w.heap.size + 1, 0, none⟩), .pointer (some ⟨V.heap.size, 0, none⟩)]] 46) := ⟨_, rfl⟩
  have hbV3 : Below V.heap.size V V3 := by rw [hV3]; exact (Below.refl _ V).alloc (Nat.le_refl _) _
  have hs3 : V3.heap.size = w.heap.size + 3 := by rw [hV3, World.size_alloc, hsV]
  have M0 := L0.below hbV3 L0.lt
  have M1 := L1.below hbV3 L1.lt
  have M2 : Lies V3 V.heap.size 46 #[.func (.func 26) #[] #[.pointer (some ⟨w.heap.size + 1, 0, none⟩), .pointer (some ⟨V.heap.size, 0, none⟩)]] := by rw [hV3]; exact Lies.new _ _ _
  have hb3 : Below w.heap.size w V3 := hbV.trans (hbV3.mono hbV.size)
  have HF : Hid (Calls Try.prog 26 #[.agg #[.int .i64 t.kind, .int .i64 t.n, .string t.name, .slice A t.parts.length (capF t.parts.length c)], .int .i64 0, .pointer (some ⟨w.heap.size + 1, 0, none⟩), .pointer (some ⟨V.heap.size, 0, none⟩)] V3 fun e W' => (∃ v, e = .returned v) ∧ ∃ A' c', Lies W' (w.heap.size + 1) 28 #[.slice A' (fvE t 0).length c'] ∧ W'.ownsRow (w.heap.size + 3) 3 1 (.slice A' (fvE t 0).length c') (fvE t 0).length (vI (fvE t 0)) ∧ Below w.heap.size w W') := Lib.hid (by
    refine (free_any (w.heap.size + 1) V.heap.size (w.heap.size + 3) (depthE t) t A c 0 [] (fun q => q = w.heap.size + 1 ∨ (Value.slice none 0 0).ownBlock = some q) V3
      { dep := Nat.le_refl _, dep4 := hd, siz := by simp; omega, tame := ht, b0 := by omega, b1 := by omega
        lies := EIn.wide _ (EIn.below _ (ein_lt hI) hb3 (Nat.le_refl _)) fun q hq _ => by omega
        box := ⟨none, 0, rfl, M1, ⟨by omega, by omega⟩, World.ownsRow_nil _ _ _ _⟩
        tb := M2.cell 0, tbase := by omega, tl := by omega }).mono ?_
    rintro e W' ⟨hv, Z', hG, A', c', rfl, LW, _, hrow⟩
    simp only [List.nil_append] at LW hrow
    exact ⟨hv, A', c', LW, hrow, gz_below hb3 (fun q hq => hq.elim (fun h => by omega) (fun h => by cases h)) hG⟩)
  have c0 := L0.four
  have L4 := Lies.new V 46 #[.nilFunc]
  have x0 : (V.alloc (.cells #[.nilFunc] 46)).cell? ⟨V.heap.size, 0, none⟩ = some .nilFunc := L4.cell 0
  have x1 : (V.alloc (.cells #[.nilFunc] 46)).frozen? ⟨V.heap.size, 0, none⟩ = false := L4.frozen 0
  have d0 := M0.four
  have m2 := M2.cell 0
  simp at m2
  have hfe : freeE t = Lib.compact ((fvE t 0).mergeSort fun x y => decide (x ≤ y)) := rfl
  have HFE := Lib.hid hfe
  clear L0 L1 M0 M1 M2 hbV hbV3 hsV hs3 hI hb3 L4 hfe
  generalize fvE t 0 = fv at HF HFE hfl
  show Calls Try.prog 11 #[.agg #[.int .i64 t.kind, .int .i64 t.n, .string t.name, .slice A t.parts.length (capF t.parts.length c)]] w _
  have HV := Lib.hid hV
  have HV3 := Lib.hid hV3
  clear hV hV3
  go_enter Try.func11, Try.ntmps11
  go_upto_region 2 with fail
  rw [← HV.out]
  go_upto_region 4 with fail
  rw [← HV3.out]
  go_wp2_with (first
    | (go_at_call 26; refine HF.out.mono ?_; rintro e w1 ⟨⟨vv, rfl⟩, A', c', LW, hrow, hbW⟩; have y0 := LW.cell 0; simp at y0; have HLW := Lib.hid LW; clear LW)
    | (go_at_call 28; refine (sort_any hrow (by omega)).mono ?_; rintro e w2 ⟨rfl, hrow2, hb2⟩; have z0 := (HLW.out.below hb2 (by omega)).cell 0; simp at z0)
    | (go_at_call 29; refine (compact_any hrow2 (by omega)).mono ?_; rintro e w3 ⟨rfl, hrow3, hb3⟩))
  rw [HR.out, GivesI, HFE.out]
  exact ⟨A', c', rfl, ownsRow_base hrow3 (by omega), (hbW.trans (hb2.mono (by omega))).trans (hb3.mono (by omega))⟩
end Lx
end Go.Proofs.Ytikchgigakbeiaa
namespace Go.Proofs.Ytikchgigakbeiaa
open Go Go.RowKit
namespace Lx
set_option maxRecDepth 100000
/-- The numbers of xs lie from A on. -/
def RowI (W : World) (A : Option Addr) (xs : List Int) : Prop := ∀ (j : Nat) (h : j < xs.length), ∃ g o, A = some ⟨g, o, none⟩ ∧ W.cell? ⟨g, o + j, none⟩ = some (.int .i64 (xs[j]'h))
theorem RowI.below {W W' : World} {A : Option Addr} {xs : List Int} {B : Nat} (h : RowI W A xs) (hb : Below B W W') (hB : W.heap.size ≤ B) : RowI W' A xs := fun j hj => by
  obtain ⟨g, o, e, hc⟩ := h j hj
  exact ⟨g, o, e, (hb.cell (p := ⟨g, o + j, none⟩) (by have := World.block_lt_of_cell? W _ hc; simp at this ⊢; omega)).trans hc⟩
theorem rowI_own {W : World} {b n c : Nat} {A : Option Addr} {xs : List Int} (h : W.ownsRow b 3 1 (.slice A n c) n (vI xs)) : RowI W A xs := fun j hj => by
  have hxl : xs.length = n := by have := h.1; simp [vI] at this; omega
  obtain ⟨A', c', e1, e2⟩ := ownsRow_slice h
  injection e1 with e1 _ e3
  subst e1 e3
  obtain ⟨g, rfl⟩ := e2 (by omega)
  have hH := (row_holds h).1 j (by simpa using hj)
  exact ⟨g, 0, rfl, by rw [hH.1]; simp [encV, hj]⟩
theorem take_eq_of {xs ys : List Int} {i : Nat} (h : xs.take i = ys.take i) (hx : i < xs.length) (hy : i < ys.length) (he : xs[i] = ys[i]) : xs.take (i + 1) = ys.take (i + 1) := by
  rw [List.take_succ_eq_append_getElem hx, List.take_succ_eq_append_getElem hy, h, he]
set_option maxHeartbeats 4000000 in
theorem ints_any (A B : Option Addr) (c d : Nat) (xs ys : List Int) (w : World) (hx : RowI w A xs) (hy : RowI w B ys) (hxl : xs.length ≤ 1000000000000) (_hyl : ys.length ≤ 1000000000000) :
    Calls Try.prog 14 #[.slice A xs.length c, .slice B ys.length d] w fun e w' => e = .returned (.bool (decide (xs = ys))) ∧ Below w.heap.size w w' := by
  have HX := Lib.hid hx
  have HY := Lib.hid hy
  clear hx hy
  by_cases hl : xs.length = ys.length
  · have HE := Lib.hid hl
    obtain ⟨n, hn⟩ : ∃ n, n = xs.length := ⟨_, rfl⟩
    have hn2 : n = ys.length := by omega
    rw [← hn, ← hn2]
    have HN := Lib.hid hn
    have HN2 := Lib.hid hn2
    have hnb : n ≤ 1000000000000 := by omega
    clear hl hn hn2 hxl
    go_enter Try.func14, Try.ntmps14
    go_wp2_with fail
    go_loopw [5] (fun x wr => ∃ i : Nat, i ≤ n ∧ x = .int .i64 i ∧ Hid (xs.take i = ys.take i) ∧ Below w.heap.size w wr) (fun x _ => n - (intOf x).toNat)
    case atStart => exact ⟨0, Nat.zero_le _, rfl, Lib.hid (by simp), Below.refl _ _⟩
    case round =>
      obtain ⟨i, hi, rfl, hT, hb⟩ := hrel
      by_cases hlt : i < n
      · have hix : i < xs.length := by rw [← HN.out]; exact hlt
        have hiy : i < ys.length := by rw [← HN2.out]; exact hlt
        obtain ⟨g, o, rfl, c0⟩ := HX.out i hix
        obtain ⟨g', o', rfl, c1⟩ := HY.out i hiy
        have hgl := World.block_lt_of_cell? w _ c0
        have hgl' := World.block_lt_of_cell? w _ c1
        replace c0 := (hb.cell (p := ⟨g, o + i, none⟩) hgl).trans c0
        replace c1 := (hb.cell (p := ⟨g', o' + i, none⟩) hgl').trans c1
        obtain ⟨xi, hxi⟩ : ∃ xi, xi = xs[i]'hix := ⟨_, rfl⟩
        obtain ⟨yi, hyi⟩ : ∃ yi, yi = ys[i]'hiy := ⟨_, rfl⟩
        rw [← hxi] at c0
        rw [← hyi] at c1
        have HXI := Lib.hid hxi
        have HYI := Lib.hid hyi
        clear hxi hyi hgl hgl'
        have hbd := hb.drew
        go_upto_region 6 with fail
        go_region
        all_goals
          by_cases hne : xi = yi
          · have hne1 : (xi != yi) = false := by simp [hne]
            have hix : i < xs.length := by rw [← HN.out]; exact hlt
            have hiy : i < ys.length := by rw [← HN2.out]; exact hlt
            have HT1 : Hid (xs.take (i + 1) = ys.take (i + 1)) := Lib.hid (take_eq_of hT.out hix hiy (by rw [← HXI.out, ← HYI.out, hne]))
            clear hne
            go_wp2_with fail
            go_roundw
            case rel => exact ⟨i + 1, by omega, by go_num, HT1, hbd⟩
            case measure => simp [intOf]; omega
          · have hne1 : (xi != yi) = true := by simp [hne]
            have hD : decide (xs = ys) = false := decide_eq_false fun e => hne (by rw [HXI.out, HYI.out]; subst e; rfl)
            clear hne
            go_wp2_with fail
            go_ret
            exact ⟨by rw [hD]; rfl, hbd⟩
      · go_wp2_with fail
        go_ret
        have hD : xs = ys := by
          have h1 := hT.out
          rwa [List.take_of_length_le (by rw [← HN.out]; omega), List.take_of_length_le (by rw [← HN2.out]; omega)] at h1
        exact ⟨by simp [hD], hb⟩
  · have hD : decide (xs = ys) = false := decide_eq_false fun e => hl (by rw [e])
    rw [hD]
    have hne1 : ((xs.length : Int) != (ys.length : Int)) = true := by simp; omega
    go_enter Try.func14, Try.ntmps14
    go_wp2_with fail
    go_ret
    exact ⟨rfl, Below.refl _ _⟩
end Lx
end Go.Proofs.Ytikchgigakbeiaa
namespace Go.Proofs.Ytikchgigakbeiaa
namespace Lx
abbrev n0B : ByteArray := ⟨#[]⟩
def vE (n : Int) : Te := .node 1 n n0B []
def lamE (b : Te) : Te := .node 2 0 n0B [b]
def appE (a b : Te) : Te := .node 3 0 n0B [a, b]
end Lx
end Go.Proofs.Ytikchgigakbeiaa
namespace Go.Proofs.Ytikchgigakbeiaa
open Go
namespace Lx
set_option maxRecDepth 100000
theorem strict_ext : ∀ (l m : List Int), l.Pairwise (· < ·) → m.Pairwise (· < ·) → (∀ x, x ∈ l ↔ x ∈ m) → l = m
  | [], [], _, _, _ => rfl
  | [], b :: s, _, _, h => absurd ((h b).2 (by simp)) (by simp)
  | a :: r, [], _, _, h => absurd ((h a).1 (by simp)) (by simp)
  | a :: r, b :: s, hl, hm, h => by
    rw [List.pairwise_cons] at hl hm
    have h1 : a = b := by
      have ha := (h a).1 (by simp)
      have hb := (h b).2 (by simp)
      rcases List.mem_cons.1 ha with e | ha
      · exact e
      · rcases List.mem_cons.1 hb with e | hb
        · exact e.symm
        · have := hl.1 b hb; have := hm.1 a ha; omega
    subst h1
    congr 1
    refine strict_ext r s hl.2 hm.2 fun x => ⟨fun hx => ?_, fun hx => ?_⟩
    · rcases List.mem_cons.1 ((h x).1 (List.mem_cons_of_mem _ hx)) with e | h'
      · have := hl.1 x hx; omega
      · exact h'
    · rcases List.mem_cons.1 ((h x).2 (List.mem_cons_of_mem _ hx)) with e | h'
      · have := hm.1 x hx; omega
      · exact h'
theorem upTo_ok (d : Array Int) (hs : ∀ i j, i ≤ j → j < d.size → d[i]! ≤ d[j]!) : ∀ m, m ≤ d.size →
    (Lib.compactUpTo d m).Pairwise (· < ·) ∧ (∀ x ∈ Lib.compactUpTo d m, 0 < m ∧ x ≤ d[m - 1]!) ∧ (∀ j, j < m → d[j]! ∈ Lib.compactUpTo d m) ∧ (∀ x ∈ Lib.compactUpTo d m, ∃ j, j < m ∧ x = d[j]!)
  | 0, _ => by
    have e : Lib.compactUpTo d 0 = [] := by simp [Lib.compactUpTo]
    rw [e]
    simp
  | m + 1, hm => by
    obtain ⟨h1, h2, h3, h4⟩ := upTo_ok d hs m (by omega)
    rw [Lib.compactUpTo_succ]
    by_cases hk : Lib.keeps d m = true
    · rw [if_pos hk]
      have hlt : ∀ x ∈ Lib.compactUpTo d m, x < d[m]! := fun x hx => by
        have ⟨h5, h6⟩ := h2 x hx
        have h7 := hs (m - 1) m (by omega) (by omega)
        have hne : d[m]! ≠ d[m - 1]! := by
          simp only [Lib.keeps, decide_eq_true_eq] at hk
          rcases hk with hk | hk
          · omega
          · exact hk
        omega
      refine ⟨List.pairwise_append.2 ⟨h1, by simp, fun a ha b hb => by simp at hb; subst hb; exact hlt a ha⟩, fun x hx => ⟨by omega, ?_⟩, fun j hj => ?_, fun x hx => ?_⟩
      · simp only [Nat.add_sub_cancel]
        rcases List.mem_append.1 hx with hx | hx
        · have := hlt x hx; omega
        · simp at hx; omega
      · by_cases hjm : j = m
        · subst hjm; simp
        · exact List.mem_append_left _ (h3 j (by omega))
      · rcases List.mem_append.1 hx with hx | hx
        · obtain ⟨j, hj, e⟩ := h4 x hx; exact ⟨j, by omega, e⟩
        · simp at hx; exact ⟨m, by omega, hx⟩
    · rw [if_neg hk, List.append_nil]
      have he : 0 < m ∧ d[m]! = d[m - 1]! := by
        have : Lib.keeps d m = false := by simpa using hk
        simp only [Lib.keeps, decide_eq_false_iff_not] at this
        omega
      refine ⟨h1, fun x hx => ⟨by omega, ?_⟩, fun j hj => ?_, fun x hx => ?_⟩
      · have ⟨h5, h6⟩ := h2 x hx
        simp only [Nat.add_sub_cancel]
        omega
      · by_cases hjm : j = m
        · subst hjm; rw [he.2]; exact h3 (j - 1) (by omega)
        · exact h3 j (by omega)
      · obtain ⟨j, hj, e⟩ := h4 x hx; exact ⟨j, by omega, e⟩
theorem once_ok (l : List Int) : (Lib.compact (l.mergeSort fun x y => decide (x ≤ y))).Pairwise (· < ·) ∧ ∀ x, x ∈ Lib.compact (l.mergeSort fun x y => decide (x ≤ y)) ↔ x ∈ l := by
  have hp := List.mergeSort_perm l (fun x y => decide (x ≤ y))
  have hs := List.pairwise_mergeSort (le := fun x y : Int => decide (x ≤ y)) (by intro a b c; simp; omega) (by intro a b; simp; omega) l
  generalize l.mergeSort (fun x y => decide (x ≤ y)) = z at hp hs
  have hget : ∀ i, i < z.length → z.toArray[i]! = z[i]! := fun i hi => by simp [hi]
  have hsrt : ∀ i j, i ≤ j → j < z.toArray.size → z.toArray[i]! ≤ z.toArray[j]! := fun i j hij hj => by
    have hj' : j < z.length := by simpa using hj
    by_cases he : i = j
    · subst he; omega
    · have := List.pairwise_iff_getElem.1 hs i j (by omega) hj' (by omega)
      simp only [decide_eq_true_eq] at this
      simp [hj', show i < z.length by omega]
      exact this
  obtain ⟨h1, _, h3, h4⟩ := upTo_ok z.toArray hsrt z.length (by simp)
  refine ⟨h1, fun x => ⟨fun hx => ?_, fun hx => ?_⟩⟩
  · obtain ⟨j, hj, e⟩ := h4 x hx
    rw [e]
    exact hp.mem_iff.1 (by simp [hj])
  · have hx' := hp.mem_iff.2 hx
    obtain ⟨j, hj, e⟩ := List.getElem_of_mem hx'
    have := h3 j hj
    rw [show z.toArray[j]! = z[j] by simp [hj], e] at this
    exact this
theorem once_eq (l m : List Int) (hm : m.Pairwise (· < ·)) (h : ∀ x, x ∈ l ↔ x ∈ m) : Lib.compact (l.mergeSort fun x y => decide (x ≤ y)) = m :=
  strict_ext _ _ (once_ok l).1 hm fun x => ((once_ok l).2 x).trans (h x)
end Lx
end Go.Proofs.Ytikchgigakbeiaa
namespace Go.Proofs.Ytikchgigakbeiaa
open Go Go.RowKit
namespace Lx
set_option maxRecDepth 100000
/-- The answer is a term as a value, wherever its parts lie. -/
def GivesT (t : Te) (w : World) (e : Ending) (w' : World) : Prop :=
  ∃ A c, e = .returned (ev t A c) ∧ EIn w' Any t A ∧ Below w.heap.size w w'
theorem vq_any (n : Int) (w : World) (h0 : -9223372036854775808 ≤ n) (h1 : n ≤ 9223372036854775807) : Calls Try.prog 18 #[.int .i64 n] w (GivesT (vE n) w) := by
  go_enter Try.func18, Try.ntmps18
  go_wp2_with fail
  exact bodyPost_ret (res_term (p := 2) Try.results18 rfl (Lies.new w _ _)) rfl ⟨none, 0, rfl, ein_mk (by decide) h0 h1 (by simp) (by rw [ELIn]; trivial), (Below.refl _ w).alloc (Nat.le_refl _) _⟩
theorem lamq_any (b : Te) (A : Option Addr) (c : Nat) (w : World) (hI : EIn w Any b A) : Calls Try.prog 10 #[ev b A c] w (GivesT (lamE b) w) := by
  obtain ⟨k, n, s, l⟩ := b
  have HI := Lib.hid hI
  clear hI
  show Calls Try.prog 10 #[.agg #[.int .i64 k, .int .i64 n, .string s, .slice A l.length (capF l.length c)]] w _
  go_enter Try.func10, Try.ntmps10
  go_wp2_with fail
  refine bodyPost_ret (res_term (p := 2) Try.results10 rfl (Lies.old (lies_next _ _ _ _ (by simp)) _)) rfl ⟨some ⟨w.heap.size + 1 + 1, 0, none⟩, 1, rfl, ein_mk (by decide) (by decide) (by decide) (by simp) ?_, (((Below.refl _ w).alloc (Nat.le_refl _) _).alloc (by simp) _).alloc (by simp <;> omega) _⟩
  refine ein_lies1 (c := c) (A := A) (t := .node k n s l) (ty := 24) ?_ trivial (EIn.below _ HI.out ((((Below.refl _ w).alloc (Nat.le_refl _) _).alloc (by simp) _).alloc (by simp <;> omega) _) (Nat.le_refl _))
  exact lies_next _ _ _ _ (by simp)
theorem appq_any (a b : Te) (A B : Option Addr) (c d : Nat) (w : World) (hI : EIn w Any a A) (hJ : EIn w Any b B) : Calls Try.prog 12 #[ev a A c, ev b B d] w (GivesT (appE a b) w) := by
  obtain ⟨k, n, s, l⟩ := a
  obtain ⟨k2, n2, s2, l2⟩ := b
  have HI := Lib.hid hI
  have HJ := Lib.hid hJ
  clear hI hJ
  show Calls Try.prog 12 #[.agg #[.int .i64 k, .int .i64 n, .string s, .slice A l.length (capF l.length c)], .agg #[.int .i64 k2, .int .i64 n2, .string s2, .slice B l2.length (capF l2.length d)]] w _
  obtain ⟨O1, hO1⟩ : ∃ O, O = Obj.cells #[.int .i64 k, .int .i64 n, .string s, .slice A l.length (capF l.length c)] 24 := ⟨_, rfl⟩
  obtain ⟨O2, hO2⟩ : ∃ O, O = Obj.cells #[.int .i64 k2, .int .i64 n2, .string s2, .slice B l2.length (capF l2.length d)] 24 := ⟨_, rfl⟩
  go_enter Try.func12, Try.ntmps12
  go_wp2_with fail
  rw [← hO1, ← hO2]
  refine bodyPost_ret (res_term (p := 4) Try.results12 rfl (Lies.old (lies_next _ _ _ _ (by simp)) _)) rfl ⟨some ⟨w.heap.size + 1 + 1 + 1, 0, none⟩, 2, rfl, ein_mk (by decide) (by decide) (by decide) (by simp) ?_, ((((Below.refl _ w).alloc (Nat.le_refl _) _).alloc (by simp) _).alloc (by simp <;> omega) _).alloc (by simp <;> omega) _⟩
  have hb := ((((Below.refl _ w).alloc (Nat.le_refl _) O1).alloc (by simp) O2).alloc (by simp <;> omega) (Obj.cells #[.int .i64 3, .int .i64 0, .string ⟨#[]⟩, .slice (some ⟨w.heap.size + 1 + 1 + 1, 0, none⟩) 2 2] 24)).alloc (by simp <;> omega) (Obj.cells #[.int .i64 k, .int .i64 n, .string s, .slice A l.length (capF l.length c), .int .i64 k2, .int .i64 n2, .string s2, .slice B l2.length (capF l2.length d)] 24)
  refine ein_lies2 (c := c) (d := d) (A := A) (B := B) (t := .node k n s l) (u := .node k2 n2 s2 l2) (ty := 24) ?_ trivial (EIn.below _ HI.out hb (Nat.le_refl _)) (EIn.below _ HJ.out hb (Nat.le_refl _))
  exact lies_next _ _ _ _ (by simp)
/-- A term in a box. -/
structure BxT (w : World) (g : Nat) (t : Te) (A : Option Addr) (c : Nat) : Prop where
  lies : Lies w g 24 #[.int .i64 t.kind, .int .i64 t.n, .string t.name, .slice A t.parts.length (capF t.parts.length c)]
  ein : EIn w Any t A
theorem BxT.step {w w' : World} {g : Nat} {t : Te} {A : Option Addr} {c B : Nat} (h : BxT w g t A c) (hb : Below B w w') (hB : w.heap.size ≤ B) : BxT w' g t A c :=
  ⟨h.lies.below hb (by have := h.lies.lt; omega), EIn.below _ h.ein hb hB⟩
theorem BxT.new {w w' : World} {t : Te} {A : Option Addr} {c : Nat} (hI : EIn w Any t A) (hb : w' = w.alloc (.cells #[.int .i64 t.kind, .int .i64 t.n, .string t.name, .slice A t.parts.length (capF t.parts.length c)] 24)) : BxT w' w.heap.size t A c := by
  subst hb
  exact ⟨Lies.new _ _ _, EIn.below _ hI ((Below.refl _ w).alloc (Nat.le_refl _) _) (Nat.le_refl _)⟩
theorem ein_box (k n : Int) (s : ByteArray) (l : List Te) (A : Option Addr) (c : Nat) : ev (.node k n s l) A c = .agg #[.int .i64 k, .int .i64 n, .string s, .slice A l.length (capF l.length c)] := rfl
/-- What one asks of a term that is handed to package use. -/
structure FineU (t : Te) : Prop where
  dep : depthE t ≤ 4000
  siz : sizeE t ≤ 1000000
  tame : tameE 1099511627776 1099511627776 t
def fixT : Te := lamE (lamE (appE (vE 1) (vE 1)))
def fixA : Te := .node 6 2 ⟨#[65]⟩ [appE (vE 0) (appE (vE 0) (vE 5))]
def fixB : Te := appE (vE 4) (appE (vE 1) (vE 4))
def fixI : Te := lamE (vE 0)
theorem fine_T : FineU fixT ∧ FineU fixA ∧ FineU fixB ∧ FineU fixI := by
  refine ⟨⟨by decide, by decide, ?_⟩, ⟨by decide, by decide, ?_⟩, ⟨by decide, by decide, ?_⟩, ⟨by decide, by decide, ?_⟩⟩
  all_goals exact tameB_spec _ (by kernel_rfl)
theorem fix_vals : ofE fixT = [2, 0] ∧ fansL (ofE fixT) = 1 ∧ dropsL (ofE fixT) = 1 ∧ affB (ofE fixT) = false ∧ affB (ofE fixI) = true ∧ ofE fixA = [0, 2] ∧ fvE fixA 0 = [3] ∧ fvE fixB 0 = [4, 1, 4] ∧ fvE fixT 0 = [] := by
  refine ⟨by kernel_rfl, by kernel_rfl, by kernel_rfl, by kernel_rfl, by kernel_rfl, by kernel_rfl, by kernel_rfl, by kernel_rfl, by kernel_rfl⟩
theorem fix_free : freeE fixA = [3] ∧ freeE fixB = [1, 4] ∧ freeE fixT = [] := by
  refine ⟨?_, ?_, ?_⟩
  · rw [freeE, fix_vals.2.2.2.2.2.2.1]; exact once_eq _ _ (by decide) (by simp)
  · rw [freeE, fix_vals.2.2.2.2.2.2.2.1]; exact once_eq _ _ (by decide) (by intro x; simp; omega)
  · rw [freeE, fix_vals.2.2.2.2.2.2.2.2]; exact once_eq _ _ (by decide) (by simp)
end Lx
end Go.Proofs.Ytikchgigakbeiaa
namespace Go.Proofs.Ytikchgigakbeiaa
open Go Go.RowKit
namespace Lx
set_option maxRecDepth 100000
theorem rowI_new (u : World) (xs : List Int) : RowI (u.alloc (.cells (vI xs).toArray 3)) (some ⟨u.heap.size, 0, none⟩) xs := fun j hj => by
  refine ⟨u.heap.size, 0, rfl, ?_⟩
  rw [Nat.zero_add]
  exact ((Lies.new u 3 (vI xs).toArray).cell j).trans (by simp [vI, hj])
theorem of_fixT (A : Option Addr) (c : Nat) (w : World) (h : EIn w Any fixT A) : Calls Try.prog 9 #[ev fixT A c] w (GivesI [2, 0] w) := by
  have := of_any fixT A c w fine_T.1.dep fine_T.1.siz fine_T.1.tame h
  rwa [fix_vals.1] at this
theorem of_fixA (A : Option Addr) (c : Nat) (w : World) (h : EIn w Any fixA A) : Calls Try.prog 9 #[ev fixA A c] w (GivesI [0, 2] w) := by
  have := of_any fixA A c w fine_T.2.1.dep fine_T.2.1.siz fine_T.2.1.tame h
  rwa [fix_vals.2.2.2.2.2.1] at this
theorem free_fixA (A : Option Addr) (c : Nat) (w : World) (h : EIn w Any fixA A) : Calls Try.prog 11 #[ev fixA A c] w (GivesI [3] w) := by
  have := useFree_any fixA A c w fine_T.2.1.dep fine_T.2.1.siz fine_T.2.1.tame h
  rwa [fix_free.1] at this
theorem free_fixB (A : Option Addr) (c : Nat) (w : World) (h : EIn w Any fixB A) : Calls Try.prog 11 #[ev fixB A c] w (GivesI [1, 4] w) := by
  have := useFree_any fixB A c w fine_T.2.2.1.dep fine_T.2.2.1.siz fine_T.2.2.1.tame h
  rwa [fix_free.2.1] at this
theorem free_fixT (A : Option Addr) (c : Nat) (w : World) (h : EIn w Any fixT A) : Calls Try.prog 11 #[ev fixT A c] w (GivesI [] w) := by
  have := useFree_any fixT A c w fine_T.1.dep fine_T.1.siz fine_T.1.tame h
  rwa [fix_free.2.2] at this
theorem fans_fixT (A : Option Addr) (c : Nat) (w : World) (h : EIn w Any fixT A) : Calls Try.prog 19 #[ev fixT A c] w fun e w' => e = .returned (.int .i64 1) ∧ Below w.heap.size w w' := by
  have := fans_any fixT A c w fine_T.1.dep fine_T.1.siz fine_T.1.tame h
  rwa [fix_vals.2.1] at this
theorem drops_fixT (A : Option Addr) (c : Nat) (w : World) (h : EIn w Any fixT A) : Calls Try.prog 20 #[ev fixT A c] w fun e w' => e = .returned (.int .i64 1) ∧ Below w.heap.size w w' := by
  have := drops_any fixT A c w fine_T.1.dep fine_T.1.siz fine_T.1.tame h
  rwa [fix_vals.2.2.1] at this
theorem affine_fixT (A : Option Addr) (c : Nat) (w : World) (h : EIn w Any fixT A) : Calls Try.prog 15 #[ev fixT A c] w fun e w' => e = .returned (.bool false) ∧ Below w.heap.size w w' := by
  have := affine_any fixT A c w fine_T.1.dep fine_T.1.siz fine_T.1.tame h
  rwa [fix_vals.2.2.2.1] at this
theorem affine_fixI (A : Option Addr) (c : Nat) (w : World) (h : EIn w Any fixI A) : Calls Try.prog 15 #[ev fixI A c] w fun e w' => e = .returned (.bool true) ∧ Below w.heap.size w w' := by
  have := affine_any fixI A c w fine_T.2.2.2.dep fine_T.2.2.2.siz fine_T.2.2.2.tame h
  rwa [fix_vals.2.2.2.2.1] at this
set_option maxHeartbeats 8000000 in
theorem fixed11_any (w : World) : Calls Try.prog 5 #[] w fun e w' => e = .returned (.bool true) ∧ Below w.heap.size w w' := by
  go_enter Try.func5, Try.ntmps5
  go_wp2_with fail
  refine (vq_any 1 _ (by omega) (by omega)).mono ?_
  rintro e u1 ⟨A1, c1, rfl, e1, hb1⟩
  have He1 := Lib.hid e1
  clear e1
  go_wp2_with fail
  have e1 := He1.out
  clear He1
  refine (vq_any 1 _ (by omega) (by omega)).mono ?_
  rintro e u2 ⟨A2, c2, rfl, e2, hb2⟩
  replace e1 := EIn.below _ e1 hb2 (Nat.le_refl _)
  have He1 := Lib.hid e1
  clear e1
  have He2 := Lib.hid e2
  clear e2
  go_wp2_with fail
  have e1 := He1.out
  clear He1
  have e2 := He2.out
  clear He2
  refine (appq_any (vE 1) (vE 1) _ _ _ _ _ e1 e2).mono ?_
  rintro e u3 ⟨A3, c3, rfl, e3, hb3⟩
  clear e1
  clear e2
  have He3 := Lib.hid e3
  clear e3
  go_wp2_with fail
  have e3 := He3.out
  clear He3
  refine (lamq_any (appE (vE 1) (vE 1)) _ _ _ e3).mono ?_
  rintro e u4 ⟨A4, c4, he4, e4, hb4⟩
  clear e3
  subst he4
  have He4 := Lib.hid e4
  clear e4
  go_wp2_with fail
  have e4 := He4.out
  clear He4
  refine (lamq_any (lamE (appE (vE 1) (vE 1))) _ _ _ e4).mono ?_
  rintro e u5 ⟨A5, c5, he5, e5, hb5⟩
  clear e4
  change e = .returned (.agg #[.int .i64 2, .int .i64 0, .string ⟨#[]⟩, .slice A5 1 (capF 1 c5)]) at he5
  subst he5
  go_upto_region 2 with fail
  have B1 : BxT (u5.alloc (.cells #[.int .i64 2, .int .i64 0, .string ⟨#[]⟩, .slice A5 1 (capF 1 c5)] 24)) u5.heap.size fixT A5 c5 := BxT.new e5 rfl
  have hz1 : Below u5.heap.size u5 (u5.alloc (.cells #[.int .i64 2, .int .i64 0, .string ⟨#[]⟩, .slice A5 1 (capF 1 c5)] 24)) := (Below.refl _ _).alloc (Nat.le_refl _) _
  generalize u5.alloc (.cells #[.int .i64 2, .int .i64 0, .string ⟨#[]⟩, .slice A5 1 (capF 1 c5)] 24) = z1 at B1 hz1 ⊢
  clear e5
  have HB1 := Lib.hid B1
  clear B1
  go_wp2_with fail
  have B1 := HB1.out
  clear HB1
  refine (vq_any 0 _ (by omega) (by omega)).mono ?_
  rintro e u6 ⟨A6, c6, rfl, e6, hb6⟩
  replace B1 := B1.step hb6 (Nat.le_refl _)
  have HB1 := Lib.hid B1
  clear B1
  have He6 := Lib.hid e6
  clear e6
  go_wp2_with fail
  have B1 := HB1.out
  clear HB1
  have e6 := He6.out
  clear He6
  refine (vq_any 0 _ (by omega) (by omega)).mono ?_
  rintro e u7 ⟨A7, c7, rfl, e7, hb7⟩
  replace B1 := B1.step hb7 (Nat.le_refl _)
  replace e6 := EIn.below _ e6 hb7 (Nat.le_refl _)
  have HB1 := Lib.hid B1
  clear B1
  have He6 := Lib.hid e6
  clear e6
  have He7 := Lib.hid e7
  clear e7
  go_wp2_with fail
  have B1 := HB1.out
  clear HB1
  have e6 := He6.out
  clear He6
  have e7 := He7.out
  clear He7
  refine (vq_any 5 _ (by omega) (by omega)).mono ?_
  rintro e u8 ⟨A8, c8, rfl, e8, hb8⟩
  replace B1 := B1.step hb8 (Nat.le_refl _)
  replace e6 := EIn.below _ e6 hb8 (Nat.le_refl _)
  replace e7 := EIn.below _ e7 hb8 (Nat.le_refl _)
  have HB1 := Lib.hid B1
  clear B1
  have He6 := Lib.hid e6
  clear e6
  have He7 := Lib.hid e7
  clear e7
  have He8 := Lib.hid e8
  clear e8
  go_wp2_with fail
  have B1 := HB1.out
  clear HB1
  have e6 := He6.out
  clear He6
  have e7 := He7.out
  clear He7
  have e8 := He8.out
  clear He8
  refine (appq_any (vE 0) (vE 5) _ _ _ _ _ e7 e8).mono ?_
  rintro e u9 ⟨A9, c9, rfl, e9, hb9⟩
  clear e7
  clear e8
  replace B1 := B1.step hb9 (Nat.le_refl _)
  replace e6 := EIn.below _ e6 hb9 (Nat.le_refl _)
  have HB1 := Lib.hid B1
  clear B1
  have He6 := Lib.hid e6
  clear e6
  have He9 := Lib.hid e9
  clear e9
  go_wp2_with fail
  have B1 := HB1.out
  clear HB1
  have e6 := He6.out
  clear He6
  have e9 := He9.out
  clear He9
  refine (appq_any (vE 0) (appE (vE 0) (vE 5)) _ _ _ _ _ e6 e9).mono ?_
  rintro e u10 ⟨A10, c10, he10, e10, hb10⟩
  change e = .returned (.agg #[.int .i64 3, .int .i64 0, .string ⟨#[]⟩, .slice A10 2 (capF 2 c10)]) at he10
  subst he10
  clear e6
  clear e9
  replace B1 := B1.step hb10 (Nat.le_refl _)
  have HB1 := Lib.hid B1
  clear B1
  have He10 := Lib.hid e10
  clear e10
  go_upto_region 3 with fail
  have B1 := HB1.out
  clear HB1
  have e10 := He10.out
  clear He10
  have hz2 : Below u10.heap.size u10 ((u10.alloc (.cells #[.int .i64 3, .int .i64 0, .string ⟨#[]⟩, .slice A10 2 (capF 2 c10)] 24)).alloc (.cells #[.int .i64 6, .int .i64 2, .string ⟨#[65]⟩, .slice (some ⟨u10.heap.size, 0, none⟩) 1 1] 24)) := ((Below.refl _ _).alloc (Nat.le_refl _) _).alloc (by simp) _
  have B2 : BxT ((u10.alloc (.cells #[.int .i64 3, .int .i64 0, .string ⟨#[]⟩, .slice A10 2 (capF 2 c10)] 24)).alloc (.cells #[.int .i64 6, .int .i64 2, .string ⟨#[65]⟩, .slice (some ⟨u10.heap.size, 0, none⟩) 1 1] 24)) (u10.heap.size + 1) fixA (some ⟨u10.heap.size, 0, none⟩) 1 := ⟨lies_next _ _ _ _ (by simp), ein_mk (by decide) (by decide) (by decide) (by decide) (ein_lies1 (c := c10) (A := A10) (t := appE (vE 0) (appE (vE 0) (vE 5))) (ty := 24) ((Lies.new _ _ _).old _) trivial (EIn.below _ e10 hz2 (Nat.le_refl _)))⟩
  clear e10
  replace B1 := B1.step hz2 (Nat.le_refl _)
  generalize (u10.alloc (.cells #[.int .i64 3, .int .i64 0, .string ⟨#[]⟩, .slice A10 2 (capF 2 c10)] 24)).alloc (.cells #[.int .i64 6, .int .i64 2, .string ⟨#[65]⟩, .slice (some ⟨u10.heap.size, 0, none⟩) 1 1] 24) = z2 at B1 B2 hz2 ⊢
  have dB1 := B1.lies.four
  have dB2 := B2.lies.four
  have HB1 := Lib.hid B1
  clear B1
  have HB2 := Lib.hid B2
  clear B2
  go_wp2_with fail
  have B1 := HB1.out
  clear HB1
  have B2 := HB2.out
  clear HB2
  clear dB1
  clear dB2
  refine (of_fixT _ _ _ B1.ein).mono ?_
  rintro e u11 ⟨A11, c11, rfl, hr11, hb11⟩
  replace B1 := B1.step hb11 (Nat.le_refl _)
  replace B2 := B2.step hb11 (Nat.le_refl _)
  have r11 := rowI_own hr11
  have dB1 := B1.lies.four
  have dB2 := B2.lies.four
  have HB1 := Lib.hid B1
  clear B1
  have HB2 := Lib.hid B2
  clear B2
  have Hr11 := Lib.hid r11
  clear r11
  go_wp2_with fail
  have B1 := HB1.out
  clear HB1
  have B2 := HB2.out
  clear HB2
  have r11 := Hr11.out
  clear Hr11
  clear dB1
  clear dB2
  have hn12 : Below u11.heap.size u11 (u11.alloc (.cells #[.int .i64 2, .int .i64 0] 3)) := (Below.refl _ _).alloc (Nat.le_refl _) _
  have rn12 : RowI (u11.alloc (.cells #[.int .i64 2, .int .i64 0] 3)) (some ⟨u11.heap.size, 0, none⟩) [2, 0] := rowI_new u11 [2, 0]
  replace B1 := B1.step hn12 (Nat.le_refl _)
  replace B2 := B2.step hn12 (Nat.le_refl _)
  replace r11 := r11.below hn12 (Nat.le_refl _)
  refine (ints_any A11 _ c11 2 [2, 0] [2, 0] _ r11 rn12 (by decide) (by decide)).mono ?_
  rintro e u12 ⟨he12, hb12⟩
  rw [show decide (([2, 0] : List Int) = [2, 0]) = true from by decide] at he12
  subst he12
  clear rn12 r11
  replace B1 := B1.step hb12 (Nat.le_refl _)
  replace B2 := B2.step hb12 (Nat.le_refl _)
  replace hb12 := hn12.trans (hb12.mono hn12.size)
  clear hn12
  have dB1 := B1.lies.four
  have dB2 := B2.lies.four
  have HB1 := Lib.hid B1
  clear B1
  have HB2 := Lib.hid B2
  clear B2
  go_wp2_with fail
  have B1 := HB1.out
  clear HB1
  have B2 := HB2.out
  clear HB2
  clear dB1
  clear dB2
  refine (fans_fixT _ _ _ B1.ein).mono ?_
  rintro e u13 ⟨rfl, hb13⟩
  replace B1 := B1.step hb13 (Nat.le_refl _)
  replace B2 := B2.step hb13 (Nat.le_refl _)
  have dB1 := B1.lies.four
  have dB2 := B2.lies.four
  have HB1 := Lib.hid B1
  clear B1
  have HB2 := Lib.hid B2
  clear B2
  go_wp2_with fail
  have B1 := HB1.out
  clear HB1
  have B2 := HB2.out
  clear HB2
  clear dB1
  clear dB2
  refine (drops_fixT _ _ _ B1.ein).mono ?_
  rintro e u14 ⟨rfl, hb14⟩
  replace B1 := B1.step hb14 (Nat.le_refl _)
  replace B2 := B2.step hb14 (Nat.le_refl _)
  have dB1 := B1.lies.four
  have dB2 := B2.lies.four
  have HB1 := Lib.hid B1
  clear B1
  have HB2 := Lib.hid B2
  clear B2
  go_wp2_with fail
  have B1 := HB1.out
  clear HB1
  have B2 := HB2.out
  clear HB2
  clear dB1
  clear dB2
  refine (affine_fixT _ _ _ B1.ein).mono ?_
  rintro e u15 ⟨rfl, hb15⟩
  replace B1 := B1.step hb15 (Nat.le_refl _)
  replace B2 := B2.step hb15 (Nat.le_refl _)
  have dB1 := B1.lies.four
  have dB2 := B2.lies.four
  have HB1 := Lib.hid B1
  clear B1
  have HB2 := Lib.hid B2
  clear B2
  go_wp2_with fail
  have B1 := HB1.out
  clear HB1
  have B2 := HB2.out
  clear HB2
  clear dB1
  clear dB2
  refine (vq_any 0 _ (by omega) (by omega)).mono ?_
  rintro e u16 ⟨A16, c16, rfl, e16, hb16⟩
  replace B1 := B1.step hb16 (Nat.le_refl _)
  replace B2 := B2.step hb16 (Nat.le_refl _)
  have dB1 := B1.lies.four
  have dB2 := B2.lies.four
  have HB1 := Lib.hid B1
  clear B1
  have HB2 := Lib.hid B2
  clear B2
  have He16 := Lib.hid e16
  clear e16
  go_wp2_with fail
  have B1 := HB1.out
  clear HB1
  have B2 := HB2.out
  clear HB2
  have e16 := He16.out
  clear He16
  clear dB1
  clear dB2
  refine (lamq_any (vE 0) _ _ _ e16).mono ?_
  rintro e u17 ⟨A17, c17, he17, e17, hb17⟩
  clear e16
  subst he17
  replace B1 := B1.step hb17 (Nat.le_refl _)
  replace B2 := B2.step hb17 (Nat.le_refl _)
  have dB1 := B1.lies.four
  have dB2 := B2.lies.four
  have HB1 := Lib.hid B1
  clear B1
  have HB2 := Lib.hid B2
  clear B2
  have He17 := Lib.hid e17
  clear e17
  go_wp2_with fail
  have B1 := HB1.out
  clear HB1
  have B2 := HB2.out
  clear HB2
  have e17 := He17.out
  clear He17
  clear dB1
  clear dB2
  refine (affine_fixI _ _ _ e17).mono ?_
  rintro e u18 ⟨rfl, hb18⟩
  clear e17
  replace B1 := B1.step hb18 (Nat.le_refl _)
  replace B2 := B2.step hb18 (Nat.le_refl _)
  have dB1 := B1.lies.four
  have dB2 := B2.lies.four
  have HB1 := Lib.hid B1
  clear B1
  have HB2 := Lib.hid B2
  clear B2
  go_wp2_with fail
  have B1 := HB1.out
  clear HB1
  have B2 := HB2.out
  clear HB2
  clear dB1
  clear dB2
  refine (of_fixA _ _ _ B2.ein).mono ?_
  rintro e u19 ⟨A19, c19, rfl, hr19, hb19⟩
  replace B1 := B1.step hb19 (Nat.le_refl _)
  replace B2 := B2.step hb19 (Nat.le_refl _)
  have r19 := rowI_own hr19
  have dB1 := B1.lies.four
  have dB2 := B2.lies.four
  have HB1 := Lib.hid B1
  clear B1
  have HB2 := Lib.hid B2
  clear B2
  have Hr19 := Lib.hid r19
  clear r19
  go_wp2_with fail
  have B1 := HB1.out
  clear HB1
  have B2 := HB2.out
  clear HB2
  have r19 := Hr19.out
  clear Hr19
  clear dB1
  clear dB2
  have hn20 : Below u19.heap.size u19 (u19.alloc (.cells #[.int .i64 0, .int .i64 2] 3)) := (Below.refl _ _).alloc (Nat.le_refl _) _
  have rn20 : RowI (u19.alloc (.cells #[.int .i64 0, .int .i64 2] 3)) (some ⟨u19.heap.size, 0, none⟩) [0, 2] := rowI_new u19 [0, 2]
  replace B1 := B1.step hn20 (Nat.le_refl _)
  replace B2 := B2.step hn20 (Nat.le_refl _)
  replace r19 := r19.below hn20 (Nat.le_refl _)
  refine (ints_any A19 _ c19 2 [0, 2] [0, 2] _ r19 rn20 (by decide) (by decide)).mono ?_
  rintro e u20 ⟨he20, hb20⟩
  rw [show decide (([0, 2] : List Int) = [0, 2]) = true from by decide] at he20
  subst he20
  clear rn20 r19
  replace B1 := B1.step hb20 (Nat.le_refl _)
  replace B2 := B2.step hb20 (Nat.le_refl _)
  replace hb20 := hn20.trans (hb20.mono hn20.size)
  clear hn20
  have dB1 := B1.lies.four
  have dB2 := B2.lies.four
  have HB1 := Lib.hid B1
  clear B1
  have HB2 := Lib.hid B2
  clear B2
  go_wp2_with fail
  have B1 := HB1.out
  clear HB1
  have B2 := HB2.out
  clear HB2
  clear dB1
  clear dB2
  refine (free_fixA _ _ _ B2.ein).mono ?_
  rintro e u21 ⟨A21, c21, rfl, hr21, hb21⟩
  replace B1 := B1.step hb21 (Nat.le_refl _)
  replace B2 := B2.step hb21 (Nat.le_refl _)
  have r21 := rowI_own hr21
  have dB1 := B1.lies.four
  have dB2 := B2.lies.four
  have HB1 := Lib.hid B1
  clear B1
  have HB2 := Lib.hid B2
  clear B2
  have Hr21 := Lib.hid r21
  clear r21
  go_wp2_with fail
  have B1 := HB1.out
  clear HB1
  have B2 := HB2.out
  clear HB2
  have r21 := Hr21.out
  clear Hr21
  clear dB1
  clear dB2
  have hn22 : Below u21.heap.size u21 (u21.alloc (.cells #[.int .i64 3] 3)) := (Below.refl _ _).alloc (Nat.le_refl _) _
  have rn22 : RowI (u21.alloc (.cells #[.int .i64 3] 3)) (some ⟨u21.heap.size, 0, none⟩) [3] := rowI_new u21 [3]
  replace B1 := B1.step hn22 (Nat.le_refl _)
  replace B2 := B2.step hn22 (Nat.le_refl _)
  replace r21 := r21.below hn22 (Nat.le_refl _)
  refine (ints_any A21 _ c21 1 [3] [3] _ r21 rn22 (by decide) (by decide)).mono ?_
  rintro e u22 ⟨he22, hb22⟩
  rw [show decide (([3] : List Int) = [3]) = true from by decide] at he22
  subst he22
  clear rn22 r21
  replace B1 := B1.step hb22 (Nat.le_refl _)
  replace B2 := B2.step hb22 (Nat.le_refl _)
  replace hb22 := hn22.trans (hb22.mono hn22.size)
  clear hn22
  have dB1 := B1.lies.four
  have dB2 := B2.lies.four
  have HB1 := Lib.hid B1
  clear B1
  have HB2 := Lib.hid B2
  clear B2
  go_wp2_with fail
  have B1 := HB1.out
  clear HB1
  have B2 := HB2.out
  clear HB2
  clear dB1
  clear dB2
  refine (vq_any 4 _ (by omega) (by omega)).mono ?_
  rintro e u23 ⟨A23, c23, rfl, e23, hb23⟩
  replace B1 := B1.step hb23 (Nat.le_refl _)
  replace B2 := B2.step hb23 (Nat.le_refl _)
  have dB1 := B1.lies.four
  have dB2 := B2.lies.four
  have HB1 := Lib.hid B1
  clear B1
  have HB2 := Lib.hid B2
  clear B2
  have He23 := Lib.hid e23
  clear e23
  go_wp2_with fail
  have B1 := HB1.out
  clear HB1
  have B2 := HB2.out
  clear HB2
  have e23 := He23.out
  clear He23
  clear dB1
  clear dB2
  refine (vq_any 1 _ (by omega) (by omega)).mono ?_
  rintro e u24 ⟨A24, c24, rfl, e24, hb24⟩
  replace B1 := B1.step hb24 (Nat.le_refl _)
  replace B2 := B2.step hb24 (Nat.le_refl _)
  replace e23 := EIn.below _ e23 hb24 (Nat.le_refl _)
  have dB1 := B1.lies.four
  have dB2 := B2.lies.four
  have HB1 := Lib.hid B1
  clear B1
  have HB2 := Lib.hid B2
  clear B2
  have He23 := Lib.hid e23
  clear e23
  have He24 := Lib.hid e24
  clear e24
  go_wp2_with fail
  have B1 := HB1.out
  clear HB1
  have B2 := HB2.out
  clear HB2
  have e23 := He23.out
  clear He23
  have e24 := He24.out
  clear He24
  clear dB1
  clear dB2
  refine (vq_any 4 _ (by omega) (by omega)).mono ?_
  rintro e u25 ⟨A25, c25, rfl, e25, hb25⟩
  replace B1 := B1.step hb25 (Nat.le_refl _)
  replace B2 := B2.step hb25 (Nat.le_refl _)
  replace e23 := EIn.below _ e23 hb25 (Nat.le_refl _)
  replace e24 := EIn.below _ e24 hb25 (Nat.le_refl _)
  have dB1 := B1.lies.four
  have dB2 := B2.lies.four
  have HB1 := Lib.hid B1
  clear B1
  have HB2 := Lib.hid B2
  clear B2
  have He23 := Lib.hid e23
  clear e23
  have He24 := Lib.hid e24
  clear e24
  have He25 := Lib.hid e25
  clear e25
  go_wp2_with fail
  have B1 := HB1.out
  clear HB1
  have B2 := HB2.out
  clear HB2
  have e23 := He23.out
  clear He23
  have e24 := He24.out
  clear He24
  have e25 := He25.out
  clear He25
  clear dB1
  clear dB2
  refine (appq_any (vE 1) (vE 4) _ _ _ _ _ e24 e25).mono ?_
  rintro e u26 ⟨A26, c26, rfl, e26, hb26⟩
  clear e24
  clear e25
  replace B1 := B1.step hb26 (Nat.le_refl _)
  replace B2 := B2.step hb26 (Nat.le_refl _)
  replace e23 := EIn.below _ e23 hb26 (Nat.le_refl _)
  have dB1 := B1.lies.four
  have dB2 := B2.lies.four
  have HB1 := Lib.hid B1
  clear B1
  have HB2 := Lib.hid B2
  clear B2
  have He23 := Lib.hid e23
  clear e23
  have He26 := Lib.hid e26
  clear e26
  go_wp2_with fail
  have B1 := HB1.out
  clear HB1
  have B2 := HB2.out
  clear HB2
  have e23 := He23.out
  clear He23
  have e26 := He26.out
  clear He26
  clear dB1
  clear dB2
  refine (appq_any (vE 4) (appE (vE 1) (vE 4)) _ _ _ _ _ e23 e26).mono ?_
  rintro e u27 ⟨A27, c27, rfl, e27, hb27⟩
  clear e23
  clear e26
  replace B1 := B1.step hb27 (Nat.le_refl _)
  replace B2 := B2.step hb27 (Nat.le_refl _)
  have dB1 := B1.lies.four
  have dB2 := B2.lies.four
  have HB1 := Lib.hid B1
  clear B1
  have HB2 := Lib.hid B2
  clear B2
  have He27 := Lib.hid e27
  clear e27
  go_wp2_with fail
  have B1 := HB1.out
  clear HB1
  have B2 := HB2.out
  clear HB2
  have e27 := He27.out
  clear He27
  clear dB1
  clear dB2
  refine (free_fixB _ _ _ e27).mono ?_
  rintro e u28 ⟨A28, c28, rfl, hr28, hb28⟩
  replace B1 := B1.step hb28 (Nat.le_refl _)
  replace B2 := B2.step hb28 (Nat.le_refl _)
  replace e27 := EIn.below _ e27 hb28 (Nat.le_refl _)
  have r28 := rowI_own hr28
  clear e27
  have dB1 := B1.lies.four
  have dB2 := B2.lies.four
  have HB1 := Lib.hid B1
  clear B1
  have HB2 := Lib.hid B2
  clear B2
  have Hr28 := Lib.hid r28
  clear r28
  go_wp2_with fail
  have B1 := HB1.out
  clear HB1
  have B2 := HB2.out
  clear HB2
  have r28 := Hr28.out
  clear Hr28
  clear dB1
  clear dB2
  have hn29 : Below u28.heap.size u28 (u28.alloc (.cells #[.int .i64 1, .int .i64 4] 3)) := (Below.refl _ _).alloc (Nat.le_refl _) _
  have rn29 : RowI (u28.alloc (.cells #[.int .i64 1, .int .i64 4] 3)) (some ⟨u28.heap.size, 0, none⟩) [1, 4] := rowI_new u28 [1, 4]
  replace B1 := B1.step hn29 (Nat.le_refl _)
  replace B2 := B2.step hn29 (Nat.le_refl _)
  replace r28 := r28.below hn29 (Nat.le_refl _)
  refine (ints_any A28 _ c28 2 [1, 4] [1, 4] _ r28 rn29 (by decide) (by decide)).mono ?_
  rintro e u29 ⟨he29, hb29⟩
  rw [show decide (([1, 4] : List Int) = [1, 4]) = true from by decide] at he29
  subst he29
  clear rn29 r28
  replace B1 := B1.step hb29 (Nat.le_refl _)
  replace B2 := B2.step hb29 (Nat.le_refl _)
  replace hb29 := hn29.trans (hb29.mono hn29.size)
  clear hn29
  have dB1 := B1.lies.four
  have dB2 := B2.lies.four
  have HB1 := Lib.hid B1
  clear B1
  have HB2 := Lib.hid B2
  clear B2
  go_wp2_with fail
  have B1 := HB1.out
  clear HB1
  have B2 := HB2.out
  clear HB2
  clear dB1
  clear dB2
  refine (free_fixT _ _ _ B1.ein).mono ?_
  rintro e u30 ⟨A30, c30, rfl, hr30, hb30⟩
  replace B1 := B1.step hb30 (Nat.le_refl _)
  replace B2 := B2.step hb30 (Nat.le_refl _)
  have r30 := rowI_own hr30
  clear B1 B2 r30
  go_wp2_with fail
  go_ret
  refine ⟨rfl, ?_⟩
  exact (below_on (below_on (below_on (below_on (below_on (below_on (below_on (below_on (below_on (below_on (below_on (below_on (below_on (below_on (below_on (below_on (below_on (below_on (below_on (below_on (below_on (below_on (below_on (below_on (below_on (below_on (below_on (below_on (below_on (below_on (below_on hb1 hb2) hb3) hb4) hb5) hz1) hb6) hb7) hb8) hb9) hb10) hz2) hb11) hb12) hb13) hb14) hb15) hb16) hb17) hb18) hb19) hb20) hb21) hb22) hb23) hb24) hb25) hb26) hb27) hb28) hb29) hb30)
end Lx
end Go.Proofs.Ytikchgigakbeiaa
namespace Go.Proofs.Ytikchgigakbeiaa
open Go.RowKit
namespace Lx
set_option maxRecDepth 100000
theorem res_term2 {fn : Func} {p q : Tmp} (h : fn.results = #[.cell p 24, .tmp q]) {tmps : Array Value} {g : Nat} {a b c d : Value} {w : World} (hp : tmps.getD p undef = .pointer (some ⟨g, 0, none⟩)) (L : Lies w g 24 #[a, b, c, d]) :
    (results fn tmps).run Try.prog w = .ok (.tuple #[.agg #[a, b, c, d], tmps.getD q undef]) w := by
  have hl := run_loadVar_row (P := Try.prog) w g 24 24 #[a, b, c, d] (0, 0) _ L Try.underlying24 rfl (by kernel_rfl)
  have hp' : tmps[p]?.getD undef = .pointer (some ⟨g, 0, none⟩) := by simpa using hp
  simp only [results, h]
  simp [hp', asAddr, hl]
theorem below2_new {w : World} (o o' : Obj) : Below w.heap.size w ((w.alloc o).alloc o') := ((Below.refl _ w).alloc (Nat.le_refl _) _).alloc (by simp) _
/-- An answer is stored in the result's box. -/
theorem gives_all {u : Te} {A2 : Option Addr} {c2 : Nat} {w W w2 : World} {g : Nat} (hT : EIn w2 (fun b => W.heap.size ≤ b) u A2) (h0 : w.heap.size ≤ g) (h1 : g < W.heap.size) (hb : Below w.heap.size w w2) (a b c d : Value) :
    GivesE u w (.returned (ev u A2 c2)) ((((w2.setCell ⟨g, 0, none⟩ a).setCell ⟨g, 1, none⟩ b).setCell ⟨g, 2, none⟩ c).setCell ⟨g, 3, none⟩ d) := by
  refine ⟨A2, c2, rfl, EIn.keep _ hT fun g' j hX _ => ?_, Below.all hb h0 _ _ _ _⟩
  have hX' : W.heap.size ≤ g' := hX
  have hne : ∀ q, (⟨g, q, none⟩ : Addr) ≠ ⟨g', j, none⟩ := fun q e => by injection e with e; omega
  refine ⟨?_, by omega⟩
  rw [World.cell?_setCell_other _ _ _ _ (hne _), World.cell?_setCell_other _ _ _ _ (hne _), World.cell?_setCell_other _ _ _ _ (hne _), World.cell?_setCell_other _ _ _ _ (hne _)]
end Lx
end Go.Proofs.Ytikchgigakbeiaa
namespace Go.Proofs.Ytikchgigakbeiaa
open Go.RowKit
namespace Lx
theorem own_le {w : World} {base : Nat} {e : TypeId} {size : Nat} {A : Option Addr} {m c : Nat} {n : Nat} {xs : List Value} (h : w.ownsRow base e size (.slice A m c) n xs) : n ≤ c := by
  rcases h.2 with ⟨h1, rfl⟩ | ⟨g, cap, cur, h1, _, _, hle, _⟩
  · exact Nat.zero_le _
  · injection h1 with _ _ h2
    omega
theorem tv_own {k n pc : Int} {nm : ByteArray} {pl : List Tr} {B : Option Addr} {bc : Nat} (h : pl.length ≤ bc) : Ending.returned (.agg #[.int .i64 k, .string nm, .int .i64 n, .int .i64 pc, .slice B pl.length bc]) = .returned (tv (.node k nm n pc pl) B bc) := by
  unfold tv
  simp only [Tr.kind, Tr.name, Tr.n, Tr.place, Tr.parts]
  rw [capF_of h]
end Lx
end Go.Proofs.Ytikchgigakbeiaa
namespace Go.Proofs.Ytikchgigakbeiaa
open Go.RowKit
namespace Lx
set_option maxRecDepth 100000
theorem ebelow_al {w wr w2 : World} {o : Obj} (hbw : Below w.heap.size w wr) (hb2 : Below (wr.alloc o).heap.size (wr.alloc o) w2) : Below w.heap.size w w2 :=
  (hbw.alloc hbw.size _).trans (hb2.mono (by have := hbw.size; simp; omega))
set_option maxHeartbeats 1000000 in
theorem efew_stop (k n L D : Int) (s : ByteArray) (A : Option Addr) (m c : Nat) (w : World) (h : L < 1 ∨ D < 1) :
    Calls Try.prog 21 #[.agg #[.int .i64 k, .int .i64 n, .string s, .slice A m c], .int .i64 L, .int .i64 D] w fun e w' => e = .returned (.int .i64 (-1)) ∧ Below w.heap.size w w' := by
  have hb : Below w.heap.size w (w.alloc (.cells #[.int .i64 k, .int .i64 n, .string s, .slice A m c] 24)) := (Below.refl _ w).alloc (Nat.le_refl _) _
  by_cases h1 : L < 1
  · clear h
    go_enter Try.func21, Try.ntmps21
    go_wp2_with fail
    go_ret
    exact ⟨rfl, hb⟩
  · have h2 : D < 1 := h.resolve_left h1
    clear h
    go_enter Try.func21, Try.ntmps21
    go_wp2_with fail
    go_ret
    exact ⟨rfl, hb⟩

set_option maxHeartbeats 1000000 in
theorem efew_any (d : Nat) : ∀ (t : Te) (A : Option Addr) (c : Nat) (L D : Int) (w : World), depthE t ≤ d → EIn w Any t A → -1000 ≤ L → L ≤ 100000 → -1000 ≤ D → D ≤ 1000 →
    Calls Try.prog 21 #[ev t A c, .int .i64 L, .int .i64 D] w fun e w' => e = .returned (.int .i64 (fewE t L D)) ∧ Below w.heap.size w w' := by
  induction d with
  | zero => intro t A c _ _ w h; have := depthE_pos t; omega
  | succ d ih =>
    intro t A c L D w hd hI hL1 hL2 hD1 hD2
    obtain ⟨k, n, s, l⟩ := t
    have hdL : depthEL l ≤ d := by rw [depthE] at hd; omega
    have hlen : l.length ≤ 140737488351232 := by rw [EIn] at hI; exact hI.2.1
    have HI := Lib.hid hI
    clear hI hd
    show Calls Try.prog 21 #[.agg #[.int .i64 k, .int .i64 n, .string s, .slice A l.length (capF l.length c)], .int .i64 L, .int .i64 D] w _
    generalize capF l.length c = c
    by_cases hst : L < 1 ∨ D < 1
    · refine (efew_stop k n L D s A _ c w hst).mono ?_
      rintro e w' ⟨rfl, hb⟩
      exact ⟨ret_int (by rw [fewE, if_pos hst]), hb⟩
    · have hL3 : ¬ L < 1 := fun h => hst (.inl h)
      have hD3 : ¬ D < 1 := fun h => hst (.inr h)
      have HE : Hid (fewE (.node k n s l) L D = fewEL l (L - 1) (D - 1)) := by
        show _ = _
        rw [fewE, if_neg hst]
      clear hst
      obtain ⟨m, hm⟩ : ∃ m, m = l.length := ⟨_, rfl⟩
      rw [← hm] at hlen ⊢
      have hm1 : m ≤ l.length := by omega
      have hm2 : l.length ≤ m := by omega
      clear hm
      go_enter Try.func21, Try.ntmps21
      go_wp2_with fail
      go_loopw [1, 7] (fun v x wr => ∃ (i : Nat) (F : Int), i ≤ m ∧ x = .int .i64 i ∧ v = .int .i64 F ∧ 0 ≤ F ∧ F ≤ 100000 ∧ Hid (fewEL l (L - 1) (D - 1) = fewEL (l.drop i) F (D - 1)) ∧ Below (w.heap.size + 1) (w.alloc (.cells #[.int .i64 k, .int .i64 n, .string s, .slice A m c] 24)) wr) (fun _ x _ => m - (intOf x).toNat)
      case atStart => exact ⟨0, L - 1, by omega, rfl, rfl, by omega, by omega, by exact rfl, Below.refl _ _⟩
      case round =>
        obtain ⟨i, F, hi, rfl, rfl, hF1, hF2, HQ, hbx⟩ := hrel
        have hbw : Below w.heap.size w wr := below_ac (by simpa using hbx)
        have c4 := ((Lies.new w 24 #[.int .i64 k, .int .i64 n, .string s, .slice A m c]).below hbx (by omega)).cell 3
        have hbxs := hbx.size
        simp at c4 hbxs
        by_cases hlt : i < m
        · have hia : i < l.length := by omega
          obtain ⟨g, o, A', c', ⟨hA, _⟩, d0, d1, d2, d3, hIn⟩ := EIn.part (EIn.below _ HI.out hbw (Nat.le_refl _)) i hia
          subst hA
          have hm3 := depthEL_mem l (l[i]'hia) (List.getElem_mem hia)
          have HS : Hid (fewEL (l.drop i) F (D - 1) = if fewE (l[i]'hia) F (D - 1) < 0 then -1 else fewEL (l.drop (i + 1)) (fewE (l[i]'hia) F (D - 1)) (D - 1)) := by
            show _ = _
            rw [List.drop_eq_getElem_cons hia, fewEL]
          have hfs := fewE_size (l[i]'hia) F (D - 1)
          simp only [Te.parts] at d0 d1 d2 d3 hIn
          obtain ⟨tr, hu⟩ : ∃ tr, tr = l[i]'hia := ⟨_, rfl⟩
          rw [← hu] at d0 d1 d2 d3 hIn hm3 HS hfs
          clear hu
          obtain ⟨tk, tn, ts, tl⟩ := tr
          simp only [Te.kind, Te.n, Te.name] at d0 d1 d2 d3
          obtain ⟨G, hG⟩ : ∃ G, G = fewE (.node tk tn ts tl) F (D - 1) := ⟨_, rfl⟩
          rw [← hG] at HS hfs
          have hih := ih (.node tk tn ts tl) A' c' F (D - 1) wr (by omega) hIn (by omega) (by omega) (by omega) (by omega)
          rw [← hG] at hih
          have HG := Lib.hid hG
          have HIH := Lib.hid hih
          have HFS := Lib.hid hfs
          clear hG hih hfs
          by_cases hneg : G < 0
          · go_wp2_with fail
            refine HIH.out.mono ?_
            rintro e w2 ⟨rfl, hb2⟩
            go_wp2_with fail
            go_ret
            refine ⟨ret_int ?_, hbw.trans (hb2.mono (by omega))⟩
            rw [HE.out, HQ.out, HS.out, if_pos hneg]
          · go_wp2_with fail
            refine HIH.out.mono ?_
            rintro e w2 ⟨rfl, hb2⟩
            go_wp2_with fail
            go_roundw
            case rel =>
              have h1 := HFS.out (by omega)
              refine ⟨i + 1, G, by omega, by go_num, rfl, by omega, by omega, ?_, hbx.trans (hb2.mono (by omega))⟩
              show _ = _
              rw [HQ.out, HS.out, if_neg (by omega)]
            case measure => simp [intOf]; omega
        · go_wp2_with fail
          go_ret
          obtain rfl : i = m := by omega
          refine ⟨ret_int ?_, hbw⟩
          rw [HE.out, HQ.out, List.drop_eq_nil_of_le (by omega), fewEL]

theorem esmall_any (t : Te) (A : Option Addr) (c : Nat) (L : Int) (w : World) (hI : EIn w Any t A) (hL1 : 0 ≤ L) (hL2 : L ≤ 100000) :
    Calls Try.prog 6 #[ev t A c, .int .i64 L] w fun e w' => e = .returned (.bool (decide (0 ≤ fewE t L 600))) ∧ Below w.heap.size w w' := by
  obtain ⟨k, n, s, l⟩ := t
  have hF := efew_any (depthE (.node k n s l)) (.node k n s l) A c L 600 (w.alloc (.cells #[.int .i64 k, .int .i64 n, .string s, .slice A l.length (capF l.length c)] 24)) (Nat.le_refl _)
    (EIn.below _ hI ((Below.refl _ w).alloc (Nat.le_refl _) _) (Nat.le_refl _)) (by omega) hL2 (by omega) (by omega)
  have HF := Lib.hid hF
  clear hF hI
  show Calls Try.prog 6 #[.agg #[.int .i64 k, .int .i64 n, .string s, .slice A l.length (capF l.length c)], .int .i64 L] w _
  go_enter Try.func6, Try.ntmps6
  go_wp2_with fail
  refine HF.out.mono ?_
  rintro e w2 ⟨rfl, hb2⟩
  go_wp2_with fail
  go_ret
  exact ⟨rfl, below_ac hb2⟩
end Lx
end Go.Proofs.Ytikchgigakbeiaa
namespace Go.Proofs.Ytikchgigakbeiaa
open Go.RowKit
namespace Lx
set_option maxRecDepth 100000
theorem sameFL_len : ∀ l l' : List Te, l.length ≠ l'.length → sameEL l l' = false := fun l l' h => by
  cases hq : sameEL l l'
  · rfl
  · exact absurd (sameEL_len l l' hq) h
theorem strE_ne {s t : ByteArray} (h : s ≠ t) : ¬ s.toList = t.toList := by
  intro e
  rw [data_list, data_list] at e
  apply h
  obtain ⟨⟨a⟩⟩ := s
  obtain ⟨⟨b⟩⟩ := t
  simp at e
  rw [e]
set_option maxHeartbeats 2000000 in
theorem rsize6_any (d : Nat) : ∀ (t : Te) (A : Option Addr) (c : Nat) (w : World), depthE t ≤ d → sizeE t ≤ 1000000000000 → EIn w Any t A →
    Calls Try.prog 17 #[ev t A c] w fun e w' => e = .returned (.int .i64 (sizeE t)) ∧ Below w.heap.size w w' := by
  induction d with
  | zero => intro t A c w h; have := depthE_pos t; omega
  | succ d ih =>
    intro t A c w hd hs hI
    obtain ⟨k, n, s, l⟩ := t
    have hdL : depthEL l ≤ d := by rw [depthE] at hd; omega
    have hsL : sizeEL l + 1 ≤ 1000000000000 := by rw [sizeE] at hs; omega
    have hlen := sizeEL_len l
    have HI := Lib.hid hI
    have HE : Hid (sizeE (.node k n s l) = sizeEL l + 1) := by rw [sizeE]; exact rfl
    clear hI hd hs
    show Calls Try.prog 17 #[.agg #[.int .i64 k, .int .i64 n, .string s, .slice A l.length (capF l.length c)]] w _
    generalize capF l.length c = c
    obtain ⟨m, hm⟩ : ∃ m, m = l.length := ⟨_, rfl⟩
    rw [← hm]
    have hm1 : m ≤ l.length := by omega
    have hm2 : l.length ≤ m := by omega
    clear hm
    have l0 := Lies.new w 24 #[.int .i64 k, .int .i64 n, .string s, .slice A m c]
    have hb0 : Below w.heap.size w (w.alloc (.cells #[.int .i64 k, .int .i64 n, .string s, .slice A m c] 24)) := (Below.refl _ w).alloc (Nat.le_refl _) _
    go_enter Try.func17, Try.ntmps17
    go_wp2_with fail
    go_loopw [3, 4] (fun v x wr => ∃ i : Nat, i ≤ m ∧ x = .int .i64 i ∧ v = .int .i64 (sizeEL (l.take i) + 1) ∧ Lies wr w.heap.size 24 #[.int .i64 k, .int .i64 n, .string s, .slice A m c] ∧ Below w.heap.size w wr) (fun _ x _ => m - (intOf x).toNat)
    case atStart => exact ⟨0, by omega, rfl, by simp [sizeEL], l0, hb0⟩
    case round =>
      obtain ⟨i, hi, rfl, rfl, l2, hbw⟩ := hrel
      have hbs := hbw.size
      have c3 := l2.cell 3
      simp at c3
      have hdt := sizeEL_take l i
      have hdt2 := sizeEL_take l (i + 1)
      by_cases hlt : i < m
      · have hia : i < l.length := by omega
        obtain ⟨g, o, A', c', ⟨hA, _⟩, d0, d1, d2, d3, hIn⟩ := EIn.part (EIn.below _ HI.out hbw (Nat.le_refl _)) i hia
        subst hA
        have hm3 := depthEL_mem l (l[i]'hia) (List.getElem_mem hia)
        have hm4 := sizeEL_mem l (l[i]'hia) (List.getElem_mem hia)
        have HS : Hid (sizeEL (l.take (i + 1)) = sizeEL (l.take i) + sizeE (l[i]'hia)) := by
          rw [List.take_succ_eq_append_getElem hia]; exact sizeEL_snoc _ _
        have hq := HS.out
        rw [hq] at hdt2
        simp only [Te.parts] at d0 d1 d2 d3 hIn
        obtain ⟨tr, hu⟩ : ∃ tr, tr = l[i]'hia := ⟨_, rfl⟩
        rw [← hu] at d0 d1 d2 d3 hIn hm3 hm4 HS hdt2
        clear hu hq
        obtain ⟨tk, tn, ts, tl⟩ := tr
        simp only [Te.kind, Te.n, Te.name] at d0 d1 d2 d3
        have HIH := Lib.hid (ih (.node tk tn ts tl) A' c' wr (by omega) (by omega) hIn)
        have L2 := Lib.hid l2
        clear l2 hIn
        go_wp2_with fail
        refine HIH.out.mono ?_
        rintro e w2 ⟨rfl, hb2⟩
        go_wp2_with fail
        go_roundw
        case rel => exact ⟨i + 1, by omega, by go_num, by rw [HS.out]; exact congrArg (Value.int .i64) (by omega), L2.out.below hb2 L2.out.lt, hbw.trans (hb2.mono hbs)⟩
        case measure => simp [intOf]; omega
      · go_wp2_with fail
        go_ret
        obtain rfl : i = m := by omega
        refine ⟨?_, hbw⟩
        rw [List.take_of_length_le (by omega)]
        rw [HE.out]
        exact ret_int (by omega)
end Lx
end Go.Proofs.Ytikchgigakbeiaa
namespace Go.Proofs.Ytikchgigakbeiaa
open Go.RowKit
namespace Lx
theorem belowN {w W : World} (h : Below w.heap.size w W) (n : Nat) : Below w.heap.size w (W.drewN n) := h.trans ⟨rfl, rfl, rfl, Nat.le_refl _, fun _ _ => rfl⟩
end Lx
end Go.Proofs.Ytikchgigakbeiaa
namespace Go.Proofs.Ytikchgigakbeiaa
open Go.RowKit
namespace Lx
set_option maxRecDepth 100000
set_option maxHeartbeats 1000000 in
theorem rdepth6_any (d : Nat) : ∀ (t : Te) (A : Option Addr) (c : Nat) (w : World), depthE t ≤ d → sizeE t ≤ 100000 → EIn w Any t A →
    Calls Try.prog 7 #[ev t A c] w fun e w' => e = .returned (.int .i64 (depthE t)) ∧ Below w.heap.size w w' := by
  induction d with
  | zero => intro t A c w h; have := depthE_pos t; omega
  | succ d ih =>
    intro t A c w hd hs hI
    obtain ⟨k, n, s, l⟩ := t
    have hdL : depthEL l ≤ d := by rw [depthE] at hd; omega
    have hsL : sizeEL l ≤ 100000 := by rw [sizeE] at hs; omega
    have hlen := sizeEL_len l
    have hdl := depthEL_le_size l
    have HI := Lib.hid hI
    have HE : Hid (depthE (.node k n s l) = depthEL l + 1) := by rw [depthE]; exact rfl
    clear hI hd hs
    show Calls Try.prog 7 #[.agg #[.int .i64 k, .int .i64 n, .string s, .slice A l.length (capF l.length c)]] w _
    generalize capF l.length c = c
    obtain ⟨m, hm⟩ : ∃ m, m = l.length := ⟨_, rfl⟩
    rw [← hm]
    have hm1 : m ≤ l.length := by omega
    have hm2 : l.length ≤ m := by omega
    clear hm
    have l0 := Lies.new w 24 #[.int .i64 k, .int .i64 n, .string s, .slice A m c]
    go_enter Try.func7, Try.ntmps7
    go_wp2_with fail
    go_loopw [3, 4] (fun v x wr => ∃ i : Nat, i ≤ m ∧ x = .int .i64 i ∧ v = .int .i64 (depthEL (l.take i)) ∧ Lies wr w.heap.size 24 #[.int .i64 k, .int .i64 n, .string s, .slice A m c] ∧ Below w.heap.size w wr) (fun _ x _ => m - (intOf x).toNat)
    case atStart => exact ⟨0, by omega, rfl, by simp [depthEL], l0, (Below.refl _ w).alloc (Nat.le_refl _) _⟩
    case round =>
      obtain ⟨i, hi, rfl, rfl, l2, hbw⟩ := hrel
      have c3 := l2.cell 3
      simp at c3
      have hbs := hbw.size
      have hdt := depthEL_take l i
      by_cases hlt : i < m
      · have hia : i < l.length := by omega
        obtain ⟨g, o, A', c', ⟨hA, _⟩, d0, d1, d2, d3, hIn⟩ := EIn.part (EIn.below _ HI.out hbw (Nat.le_refl _)) i hia
        subst hA
        have hm3 := depthEL_mem l (l[i]'hia) (List.getElem_mem hia)
        have hm4 := sizeEL_mem l (l[i]'hia) (List.getElem_mem hia)
        have HS : Hid (depthEL (l.take (i + 1)) = max (depthEL (l.take i)) (depthE (l[i]'hia))) := by
          rw [List.take_succ_eq_append_getElem hia]; exact depthEL_snoc _ _
        simp only [Te.parts] at d0 d1 d2 d3 hIn
        obtain ⟨tr, hu⟩ : ∃ tr, tr = l[i]'hia := ⟨_, rfl⟩
        rw [← hu] at d0 d1 d2 d3 hIn hm3 hm4 HS
        clear hu
        obtain ⟨tk, tn, ts, tl⟩ := tr
        simp only [Te.kind, Te.n, Te.name] at d0 d1 d2 d3
        have HIH := Lib.hid (ih (.node tk tn ts tl) A' c' wr (by omega) (by omega) hIn)
        have L2 := Lib.hid l2
        clear l2 hIn
        go_wp2_with fail
        refine HIH.out.mono ?_
        rintro e w2 ⟨rfl, hb2⟩
        go_wp2_with fail
        go_roundw
        case rel => exact ⟨i + 1, by omega, by go_num, by rw [HS.out]; exact congrArg (Value.int .i64) (by omega), L2.out.below hb2 L2.out.lt, hbw.trans (hb2.mono hbs)⟩
        case measure => simp [intOf]; omega
      · go_wp2_with fail
        go_ret
        obtain rfl : i = m := by omega
        refine ⟨?_, hbw⟩
        rw [List.take_of_length_le (by omega)]
        rw [HE.out]
        exact ret_int (by omega)
end Lx
end Go.Proofs.Ytikchgigakbeiaa
namespace Go.Proofs.Ytikchgigakbeiaa
open Go Go.RowKit
namespace Lx
set_option maxRecDepth 100000
structure Bx8 (w W : World) (g : Nat) (k n : Int) (s : ByteArray) (l : List Te) (A : Option Addr) (c : Nat) : Prop where
  box : Lies W g 24 #[.int .i64 k, .int .i64 n, .string s, .slice A l.length (capF l.length c)]
  tin : EIn W Any (.node k n s l) A
  bw : Below w.heap.size w W
theorem Bx8.step {w W W' : World} {g : Nat} {k n : Int} {s : ByteArray} {l : List Te} {A : Option Addr} {c : Nat} (h : Bx8 w W g k n s l A c) (hb : Below W.heap.size W W') : Bx8 w W' g k n s l A c :=
  ⟨h.box.below hb h.box.lt, EIn.below _ h.tin hb (Nat.le_refl _), h.bw.trans (hb.mono h.bw.size)⟩
theorem Bx8.new {w V : World} {k n : Int} {s : ByteArray} {l : List Te} {A : Option Addr} {c g : Nat} (hI : EIn w Any (.node k n s l) A) (hb : Below w.heap.size w V) (hg : g = V.heap.size) :
    Bx8 w (V.alloc (.cells #[.int .i64 k, .int .i64 n, .string s, .slice A l.length (capF l.length c)] 24)) g k n s l A c :=
  ⟨lies_next _ _ _ _ hg, EIn.below _ hI (hb.alloc hb.size _) (Nat.le_refl _), hb.alloc hb.size _⟩
theorem Bx8.old {w W : World} {g : Nat} {k n : Int} {s : ByteArray} {l : List Te} {A : Option Addr} {c : Nat} (h : Bx8 w W g k n s l A c) (o : Obj) : Bx8 w (W.alloc o) g k n s l A c := h.step ((Below.refl _ W).alloc (Nat.le_refl _) o)
/-- Its four cells. -/
def Bx84 (g : Nat) (k n : Int) (s : ByteArray) (m : Nat) (A : Option Addr) (c : Nat) (V : World) : Prop :=
  V.cell? ⟨g, 0, none⟩ = some (.int .i64 k) ∧ V.cell? ⟨g, 1, none⟩ = some (.int .i64 n) ∧ V.cell? ⟨g, 2, none⟩ = some (.string s) ∧ V.cell? ⟨g, 3, none⟩ = some (.slice A m c)
section
variable {w W : World} {g : Nat} {k n : Int} {s : ByteArray} {l : List Te} {A : Option Addr} {c : Nat}
theorem Bx8.four (h : Bx8 w W g k n s l A c) : Bx84 g k n s l.length A (capF l.length c) W := ⟨h.box.cell 0, h.box.cell 1, h.box.cell 2, h.box.cell 3⟩
theorem Bx8.small (h : Bx8 w W g k n s l A c) (L : Int) (h0 : 0 ≤ L) (h1 : L ≤ 100000) : Calls Try.prog 6 #[.agg #[.int .i64 k, .int .i64 n, .string s, .slice A l.length (capF l.length c)], .int .i64 L] W fun e w' => e = .returned (.bool (decide (0 ≤ fewE (.node k n s l) L 600))) ∧ Below W.heap.size W w' :=
  esmall_any (.node k n s l) A c L W h.tin h0 h1
end
theorem small8 {t : Te} {L : Int} (h : decide (0 ≤ fewE t L 600) = true) (_ : L ≤ 1000) : sizeE t ≤ L ∧ depthE t ≤ 600 := by
  have := fewE_size t L 600 (of_decide_eq_true h)
  have := of_decide_eq_true h
  omega
end Lx
end Go.Proofs.Ytikchgigakbeiaa
