/-
  Texts that lie one behind the other: MayEk MayEt HdL Hm Hn Ho.
-/
import Derived.Test.YtiocmiikghcoaaaGreatDoorC16
import Derived.Test.YtiocmiikghcoaaaGreatDoorC15
import Derived.Test.YtiocmiikghcoaaaGreatDoorC7
import Derived.Maps.AppendAt
import Derived.Deep.RegionHeld3
import Derived.Deep.DrawnRows
namespace Go.Proofs.YtiocmiikghcoaaaGreatDoor
open Go.RowKit
namespace Lx
set_option maxRecDepth 100000
theorem caught_new (w : World) (k n : Int) (s : ByteArray) (A : Option Addr) (m c : Nat) (free bound : Int) :
  Caught (((w.alloc (.cells #[.int .i64 k, .int .i64 n, .string s, .slice A m c] 24)).alloc (.cells #[.int .i64 free] 3)).alloc (.cells #[.int .i64 bound] 3)) w.heap.size k n s A m c free bound := by
 have h1 := Lies.new w 24 #[.int .i64 k, .int .i64 n, .string s, .slice A m c]
 have h2 := Lies.new (w.alloc (.cells #[.int .i64 k, .int .i64 n, .string s, .slice A m c] 24)) 3 #[.int .i64 free]
 have h3 := Lies.new ((w.alloc (.cells #[.int .i64 k, .int .i64 n, .string s, .slice A m c] 24)).alloc (.cells #[.int .i64 free] 3)) 3 #[.int .i64 bound]
 rw [show (w.alloc (.cells #[.int .i64 k, .int .i64 n, .string s, .slice A m c] 24)).heap.size = w.heap.size + 1 from by simp] at h2
 rw [show ((w.alloc (.cells #[.int .i64 k, .int .i64 n, .string s, .slice A m c] 24)).alloc (.cells #[.int .i64 free] 3)).heap.size = w.heap.size + 2 from by simp] at h3
 exact ⟨(h1.old _).old _, h2.old _, h3⟩
def CloC (w : World) (k n : Int) (s : ByteArray) (l : List Te) (A : Option Addr) (m c : Nat) (free bound : Int) : Prop :=
 ∀ (V : World) (least most more : Int), Caught V w.heap.size k n s A m c free bound → Below w.heap.size w V → 0 ≤ more → more ≤ 8 → more = moreE k n →
  Calls Tryz.prog 53 #[.int .i64 least, .int .i64 most, .int .i64 more, .pointer (some ⟨w.heap.size, 0, none⟩), .pointer (some ⟨w.heap.size + 1, 0, none⟩), .pointer (some ⟨w.heap.size + 1 + 1, 0, none⟩)] V
   fun e w' => e = .returned (.bool (partsE k l free (bound + more) least most)) ∧ Below V.heap.size V w'
theorem ELIn.shift : ∀ (l : List Te) {w : World} {X : Nat → Prop} {g o j : Nat}, ELIn w X l (some ⟨g, o, none⟩) (j + 1) → ELIn w X l (some ⟨g, o + 4, none⟩) j
 | [], w, X, g, o, j, _ => by rw [ELIn]; trivial
 | t :: r, w, X, g, o, j, h => by
  rw [ELIn] at h ⊢
  obtain ⟨⟨g', o', A', c, ⟨e, hX⟩, h0, h1, h2, h3, ht⟩, hr⟩ := h
  injection e with e
  injection e with e1 e2
  subst e1 e2
  have ho : o + 4 + j * 4 = o + (j + 1) * 4 := by omega
  exact ⟨⟨g, o + 4, A', c, ⟨rfl, hX⟩, by rw [ho]; exact h0, by rw [ho]; exact h1, by rw [ho]; exact h2, by rw [ho]; exact h3, ht⟩, ELIn.shift r hr⟩
theorem erest_unlike (l : List Te) (A : Option Addr) (m c : Nat) (W : World) (hm : m = l.length) (h2 : 2 ≤ m) (h9 : m ≤ 9) (hmc : m ≤ c) (hI : ELIn W Any l A 0) (g o : Nat) (hA : A = some ⟨g, o, none⟩) :
  Calls Tryz.prog 57 #[.slice (some ⟨g, o + 4, none⟩) (m - 1) (c - 1)] W fun e w' => e = .returned (.bool (unlikeE (l.drop 1))) ∧ Below W.heap.size W w' := by
 subst hA
 obtain ⟨t, r, rfl⟩ : ∃ t r, l = t :: r := by
  cases l with
  | nil => simp at hm; omega
  | cons t r => exact ⟨t, r, rfl⟩
 rw [ELIn] at hI
 exact eunlike_any r _ (m - 1) (c - 1) W (by rw [hm]; simp) (by omega) (by omega) (ELIn.shift r hI.2)
set_option maxHeartbeats 4000000 in
theorem emay_k1 (n : Int) (s : ByteArray) (l : List Te) (A : Option Addr) (m c : Nat) (free bound : Int) (w : World) (hm : m = l.length) (_hmc : m ≤ c) (_hml : m ≤ 140737488351232) (hg : Signs w) (hI : ELIn w Any l A 0) (_hn0 : -9223372036854775808 ≤ n) (_hn1 : n ≤ 9223372036854775807)
  (_hb0 : 0 ≤ bound) (_hb1 : bound ≤ 1000000) (HP : Hid (CloC w 1 n s l A m c free bound)) :
  Calls Tryz.prog 34 #[.agg #[.int .i64 1, .int .i64 n, .string s, .slice A m c], .int .i64 free, .int .i64 bound] w fun e w' => e = .returned (.bool (mayE (.node 1 n s l) free bound)) ∧ Below w.heap.size w w' := by
 have HE := Lib.hid (mayE_1 n s l free bound)
 have hb3 : Below w.heap.size w (((w.alloc (.cells #[.int .i64 1, .int .i64 n, .string s, .slice A m c] 24)).alloc (.cells #[.int .i64 free] 3)).alloc (.cells #[.int .i64 bound] 3)) := (((Below.refl _ w).alloc (Nat.le_refl _) _).alloc (by simp) _).alloc (by simp; omega) _
 have hC : Caught (((w.alloc (.cells #[.int .i64 1, .int .i64 n, .string s, .slice A m c] 24)).alloc (.cells #[.int .i64 free] 3)).alloc (.cells #[.int .i64 bound] 3)) w.heap.size 1 n s A m c free bound := caught_new w 1 n s A m c free bound
 have hs3 : (((w.alloc (.cells #[.int .i64 1, .int .i64 n, .string s, .slice A m c] 24)).alloc (.cells #[.int .i64 free] 3)).alloc (.cells #[.int .i64 bound] 3)).heap.size = w.heap.size + 3 := by simp
 obtain ⟨a0, a1, a2, a3⟩ := hC.t.four'
 have a4 := hC.f.cell 0
 have a5 := hC.b.cell 0
 simp at a4 a5
 have HB3 := Lib.hid hb3
 have HC := Lib.hid hC
 have HS3 := Lib.hid hs3
 have hg3 : Signs (((w.alloc (.cells #[.int .i64 1, .int .i64 n, .string s, .slice A m c] 24)).alloc (.cells #[.int .i64 free] 3)).alloc (.cells #[.int .i64 bound] 3)) := hg.below hb3 hg.pos
 have hmk : ∀ w0, (Instr.makeFunc (.func 53) #[] #[.pointer (some ⟨w.heap.size, 0, none⟩), .pointer (some ⟨w.heap.size + 1, 0, none⟩), .pointer (some ⟨w.heap.size + 1 + 1, 0, none⟩)]).run Tryz.prog w0 = .ok (.func (.func 53) #[] #[.pointer (some ⟨w.heap.size, 0, none⟩), .pointer (some ⟨w.heap.size + 1, 0, none⟩), .pointer (some ⟨w.heap.size + 1 + 1, 0, none⟩)]) w0 := fun _ => rfl
 have HI := Lib.hid hI
 have HM := Lib.hid hm
 rw [← data_list] at HE
 clear hb3 hC hs3 hI hm
 by_cases hs : s.toList = []
 ·have hs2 : s.toList.isEmpty = true := by simp [hs]
  by_cases hn : 0 ≤ n
  ·have hw : IntKind.i64.wrap (n - bound) = n - bound := IntWalk.i64_in _ (by omega)
   by_cases hf : n - bound < free
   ·have HF := Lib.hid hf
    have HN := Lib.hid hn
    have HSS := Lib.hid hs
    go_enter Tryz.func34, Tryz.ntmps34
    go_wp2_with fail
    refine (HP.out _ 0 0 0 (HC.out) (HB3.out) (by omega) (by omega) (by first | rfl | simp [moreE])).mono ?_
    rintro e w9 ⟨rfl, hb9⟩
    go_wp2_with fail
    go_ret
    exact ⟨ret_bool (by rw [HE.out]; simp [HSS.out, HN.out, HF.out]), HB3.out.trans (hb9.mono (by rw [HS3.out]; omega))⟩
   ·have hf2 : decide (n - bound < free) = false := by simpa using hf
    go_enter Tryz.func34, Tryz.ntmps34
    go_wp2_with fail
    go_ret
    exact ⟨ret_bool (by rw [HE.out]; rw [show decide (n - bound < free) = false from decide_eq_false (by omega)]; simp), HB3.out⟩
  ·have hn2 : ¬ 0 ≤ n := hn
   go_enter Tryz.func34, Tryz.ntmps34
   go_wp2_with fail
   go_ret
   exact ⟨ret_bool (by rw [HE.out]; rw [show decide (0 ≤ n) = false from decide_eq_false (by omega)]; simp), HB3.out⟩
 ·have hs2 : s.toList.isEmpty = false := by simpa using hs
  go_enter Tryz.func34, Tryz.ntmps34
  go_wp2_with fail
  go_ret
  exact ⟨ret_bool (by rw [HE.out]; simp [hs]), HB3.out⟩
set_option maxHeartbeats 4000000 in
theorem emay_k7 (n : Int) (s : ByteArray) (l : List Te) (A : Option Addr) (m c : Nat) (free bound : Int) (w : World) (hm : m = l.length) (_hmc : m ≤ c) (_hml : m ≤ 140737488351232) (hg : Signs w) (hI : ELIn w Any l A 0) (_hn0 : -9223372036854775808 ≤ n) (_hn1 : n ≤ 9223372036854775807)
  (_hb0 : 0 ≤ bound) (_hb1 : bound ≤ 1000000) (HP : Hid (CloC w 7 n s l A m c free bound)) :
  Calls Tryz.prog 34 #[.agg #[.int .i64 7, .int .i64 n, .string s, .slice A m c], .int .i64 free, .int .i64 bound] w fun e w' => e = .returned (.bool (mayE (.node 7 n s l) free bound)) ∧ Below w.heap.size w w' := by
 have HE := Lib.hid (mayE_7 n s l free bound)
 have hb3 : Below w.heap.size w (((w.alloc (.cells #[.int .i64 7, .int .i64 n, .string s, .slice A m c] 24)).alloc (.cells #[.int .i64 free] 3)).alloc (.cells #[.int .i64 bound] 3)) := (((Below.refl _ w).alloc (Nat.le_refl _) _).alloc (by simp) _).alloc (by simp; omega) _
 have hC : Caught (((w.alloc (.cells #[.int .i64 7, .int .i64 n, .string s, .slice A m c] 24)).alloc (.cells #[.int .i64 free] 3)).alloc (.cells #[.int .i64 bound] 3)) w.heap.size 7 n s A m c free bound := caught_new w 7 n s A m c free bound
 have hs3 : (((w.alloc (.cells #[.int .i64 7, .int .i64 n, .string s, .slice A m c] 24)).alloc (.cells #[.int .i64 free] 3)).alloc (.cells #[.int .i64 bound] 3)).heap.size = w.heap.size + 3 := by simp
 obtain ⟨a0, a1, a2, a3⟩ := hC.t.four'
 have a4 := hC.f.cell 0
 have a5 := hC.b.cell 0
 simp at a4 a5
 have HB3 := Lib.hid hb3
 have HC := Lib.hid hC
 have HS3 := Lib.hid hs3
 have hg3 : Signs (((w.alloc (.cells #[.int .i64 7, .int .i64 n, .string s, .slice A m c] 24)).alloc (.cells #[.int .i64 free] 3)).alloc (.cells #[.int .i64 bound] 3)) := hg.below hb3 hg.pos
 have hmk : ∀ w0, (Instr.makeFunc (.func 53) #[] #[.pointer (some ⟨w.heap.size, 0, none⟩), .pointer (some ⟨w.heap.size + 1, 0, none⟩), .pointer (some ⟨w.heap.size + 1 + 1, 0, none⟩)]).run Tryz.prog w0 = .ok (.func (.func 53) #[] #[.pointer (some ⟨w.heap.size, 0, none⟩), .pointer (some ⟨w.heap.size + 1, 0, none⟩), .pointer (some ⟨w.heap.size + 1 + 1, 0, none⟩)]) w0 := fun _ => rfl
 have HI := Lib.hid hI
 have HM := Lib.hid hm
 rw [← data_list] at HE
 clear hb3 hC hs3 hI hm
 by_cases hs : s.toList = []
 ·have hs2 : s.toList.isEmpty = true := by simp [hs]
  have HSS := Lib.hid hs
  go_enter Tryz.func34, Tryz.ntmps34
  go_wp2_with fail
  refine (HP.out _ 0 0 0 (HC.out) (HB3.out) (by omega) (by omega) (by first | rfl | simp [moreE])).mono ?_
  rintro e w9 ⟨rfl, hb9⟩
  go_wp2_with fail
  go_ret
  exact ⟨ret_bool (by rw [HE.out]; simp [HSS.out]), HB3.out.trans (hb9.mono (by rw [HS3.out]; omega))⟩
 ·have hs2 : s.toList.isEmpty = false := by simpa using hs
  go_enter Tryz.func34, Tryz.ntmps34
  go_wp2_with fail
  go_ret
  exact ⟨ret_bool (by rw [HE.out]; simp [hs]), HB3.out⟩
set_option maxHeartbeats 4000000 in
theorem emay_k2 (n : Int) (s : ByteArray) (l : List Te) (A : Option Addr) (m c : Nat) (free bound : Int) (w : World) (hm : m = l.length) (_hmc : m ≤ c) (_hml : m ≤ 140737488351232) (hg : Signs w) (hI : ELIn w Any l A 0) (_hn0 : -9223372036854775808 ≤ n) (_hn1 : n ≤ 9223372036854775807)
  (_hb0 : 0 ≤ bound) (_hb1 : bound ≤ 1000000) (HP : Hid (CloC w 2 n s l A m c free bound)) :
  Calls Tryz.prog 34 #[.agg #[.int .i64 2, .int .i64 n, .string s, .slice A m c], .int .i64 free, .int .i64 bound] w fun e w' => e = .returned (.bool (mayE (.node 2 n s l) free bound)) ∧ Below w.heap.size w w' := by
 have HE := Lib.hid (mayE_2 n s l free bound)
 have hb3 : Below w.heap.size w (((w.alloc (.cells #[.int .i64 2, .int .i64 n, .string s, .slice A m c] 24)).alloc (.cells #[.int .i64 free] 3)).alloc (.cells #[.int .i64 bound] 3)) := (((Below.refl _ w).alloc (Nat.le_refl _) _).alloc (by simp) _).alloc (by simp; omega) _
 have hC : Caught (((w.alloc (.cells #[.int .i64 2, .int .i64 n, .string s, .slice A m c] 24)).alloc (.cells #[.int .i64 free] 3)).alloc (.cells #[.int .i64 bound] 3)) w.heap.size 2 n s A m c free bound := caught_new w 2 n s A m c free bound
 have hs3 : (((w.alloc (.cells #[.int .i64 2, .int .i64 n, .string s, .slice A m c] 24)).alloc (.cells #[.int .i64 free] 3)).alloc (.cells #[.int .i64 bound] 3)).heap.size = w.heap.size + 3 := by simp
 obtain ⟨a0, a1, a2, a3⟩ := hC.t.four'
 have a4 := hC.f.cell 0
 have a5 := hC.b.cell 0
 simp at a4 a5
 have HB3 := Lib.hid hb3
 have HC := Lib.hid hC
 have HS3 := Lib.hid hs3
 have hg3 : Signs (((w.alloc (.cells #[.int .i64 2, .int .i64 n, .string s, .slice A m c] 24)).alloc (.cells #[.int .i64 free] 3)).alloc (.cells #[.int .i64 bound] 3)) := hg.below hb3 hg.pos
 have hmk : ∀ w0, (Instr.makeFunc (.func 53) #[] #[.pointer (some ⟨w.heap.size, 0, none⟩), .pointer (some ⟨w.heap.size + 1, 0, none⟩), .pointer (some ⟨w.heap.size + 1 + 1, 0, none⟩)]).run Tryz.prog w0 = .ok (.func (.func 53) #[] #[.pointer (some ⟨w.heap.size, 0, none⟩), .pointer (some ⟨w.heap.size + 1, 0, none⟩), .pointer (some ⟨w.heap.size + 1 + 1, 0, none⟩)]) w0 := fun _ => rfl
 have HI := Lib.hid hI
 have HM := Lib.hid hm
 rw [← data_list] at HE
 clear hb3 hC hs3 hI hm
 have hB := eblank_any 2 n s A m c (((w.alloc (.cells #[.int .i64 2, .int .i64 n, .string s, .slice A m c] 24)).alloc (.cells #[.int .i64 free] 3)).alloc (.cells #[.int .i64 bound] 3))
 rw [← data_list] at hB
 have HB := Lib.hid hB
 clear hB
 cases hq : blankE n s.toList
 ·rw [hq] at HB HE
  clear hq
  go_enter Tryz.func34, Tryz.ntmps34
  go_wp2_with fail
  refine HB.out.mono ?_
  rintro e w4 ⟨rfl, hb4⟩
  go_wp2_with fail
  go_ret
  exact ⟨ret_bool (by rw [HE.out]; rfl), HB3.out.trans (hb4.mono (by rw [HS3.out]; omega))⟩
 ·rw [hq] at HB HE
  clear hq
  go_enter Tryz.func34, Tryz.ntmps34
  go_wp2_with fail
  refine HB.out.mono ?_
  rintro e w4 ⟨rfl, hb4⟩
  have HC4 := Lib.hid (HC.out.below hb4)
  have HB4 := Lib.hid (HB3.out.trans (hb4.mono (by rw [HS3.out]; omega)))
  go_wp2_with fail
  refine (HP.out _ 1 1 1 (HC4.out) (HB4.out) (by omega) (by omega) (by first | rfl | simp [moreE])).mono ?_
  rintro e w9 ⟨rfl, hb9⟩
  go_wp2_with fail
  go_ret
  exact ⟨ret_bool (by rw [HE.out]; simp), HB4.out.trans (hb9.mono HB4.out.size)⟩
set_option maxHeartbeats 4000000 in
theorem emay_k3 (n : Int) (s : ByteArray) (l : List Te) (A : Option Addr) (m c : Nat) (free bound : Int) (w : World) (hm : m = l.length) (_hmc : m ≤ c) (_hml : m ≤ 140737488351232) (hg : Signs w) (hI : ELIn w Any l A 0) (_hn0 : -9223372036854775808 ≤ n) (_hn1 : n ≤ 9223372036854775807)
  (_hb0 : 0 ≤ bound) (_hb1 : bound ≤ 1000000) (HP : Hid (CloC w 3 n s l A m c free bound)) :
  Calls Tryz.prog 34 #[.agg #[.int .i64 3, .int .i64 n, .string s, .slice A m c], .int .i64 free, .int .i64 bound] w fun e w' => e = .returned (.bool (mayE (.node 3 n s l) free bound)) ∧ Below w.heap.size w w' := by
 have HE := Lib.hid (mayE_3 n s l free bound)
 have hb3 : Below w.heap.size w (((w.alloc (.cells #[.int .i64 3, .int .i64 n, .string s, .slice A m c] 24)).alloc (.cells #[.int .i64 free] 3)).alloc (.cells #[.int .i64 bound] 3)) := (((Below.refl _ w).alloc (Nat.le_refl _) _).alloc (by simp) _).alloc (by simp; omega) _
 have hC : Caught (((w.alloc (.cells #[.int .i64 3, .int .i64 n, .string s, .slice A m c] 24)).alloc (.cells #[.int .i64 free] 3)).alloc (.cells #[.int .i64 bound] 3)) w.heap.size 3 n s A m c free bound := caught_new w 3 n s A m c free bound
 have hs3 : (((w.alloc (.cells #[.int .i64 3, .int .i64 n, .string s, .slice A m c] 24)).alloc (.cells #[.int .i64 free] 3)).alloc (.cells #[.int .i64 bound] 3)).heap.size = w.heap.size + 3 := by simp
 obtain ⟨a0, a1, a2, a3⟩ := hC.t.four'
 have a4 := hC.f.cell 0
 have a5 := hC.b.cell 0
 simp at a4 a5
 have HB3 := Lib.hid hb3
 have HC := Lib.hid hC
 have HS3 := Lib.hid hs3
 have hg3 : Signs (((w.alloc (.cells #[.int .i64 3, .int .i64 n, .string s, .slice A m c] 24)).alloc (.cells #[.int .i64 free] 3)).alloc (.cells #[.int .i64 bound] 3)) := hg.below hb3 hg.pos
 have hmk : ∀ w0, (Instr.makeFunc (.func 53) #[] #[.pointer (some ⟨w.heap.size, 0, none⟩), .pointer (some ⟨w.heap.size + 1, 0, none⟩), .pointer (some ⟨w.heap.size + 1 + 1, 0, none⟩)]).run Tryz.prog w0 = .ok (.func (.func 53) #[] #[.pointer (some ⟨w.heap.size, 0, none⟩), .pointer (some ⟨w.heap.size + 1, 0, none⟩), .pointer (some ⟨w.heap.size + 1 + 1, 0, none⟩)]) w0 := fun _ => rfl
 have HI := Lib.hid hI
 have HM := Lib.hid hm
 rw [← data_list] at HE
 clear hb3 hC hs3 hI hm
 have hB := eblank_any 3 n s A m c (((w.alloc (.cells #[.int .i64 3, .int .i64 n, .string s, .slice A m c] 24)).alloc (.cells #[.int .i64 free] 3)).alloc (.cells #[.int .i64 bound] 3))
 rw [← data_list] at hB
 have HB := Lib.hid hB
 clear hB
 cases hq : blankE n s.toList
 ·rw [hq] at HB HE
  clear hq
  go_enter Tryz.func34, Tryz.ntmps34
  go_wp2_with fail
  refine HB.out.mono ?_
  rintro e w4 ⟨rfl, hb4⟩
  go_wp2_with fail
  go_ret
  exact ⟨ret_bool (by rw [HE.out]; rfl), HB3.out.trans (hb4.mono (by rw [HS3.out]; omega))⟩
 ·rw [hq] at HB HE
  clear hq
  go_enter Tryz.func34, Tryz.ntmps34
  go_wp2_with fail
  refine HB.out.mono ?_
  rintro e w4 ⟨rfl, hb4⟩
  have HC4 := Lib.hid (HC.out.below hb4)
  have HB4 := Lib.hid (HB3.out.trans (hb4.mono (by rw [HS3.out]; omega)))
  go_wp2_with fail
  refine (HP.out _ 2 2 0 (HC4.out) (HB4.out) (by omega) (by omega) (by first | rfl | simp [moreE])).mono ?_
  rintro e w9 ⟨rfl, hb9⟩
  go_wp2_with fail
  go_ret
  exact ⟨ret_bool (by rw [HE.out]; simp), HB4.out.trans (hb9.mono HB4.out.size)⟩
set_option maxHeartbeats 4000000 in
theorem emay_k9 (n : Int) (s : ByteArray) (l : List Te) (A : Option Addr) (m c : Nat) (free bound : Int) (w : World) (hm : m = l.length) (_hmc : m ≤ c) (_hml : m ≤ 140737488351232) (hg : Signs w) (hI : ELIn w Any l A 0) (_hn0 : -9223372036854775808 ≤ n) (_hn1 : n ≤ 9223372036854775807)
  (_hb0 : 0 ≤ bound) (_hb1 : bound ≤ 1000000) (HP : Hid (CloC w 9 n s l A m c free bound)) :
  Calls Tryz.prog 34 #[.agg #[.int .i64 9, .int .i64 n, .string s, .slice A m c], .int .i64 free, .int .i64 bound] w fun e w' => e = .returned (.bool (mayE (.node 9 n s l) free bound)) ∧ Below w.heap.size w w' := by
 have HE := Lib.hid (mayE_9 n s l free bound)
 have hb3 : Below w.heap.size w (((w.alloc (.cells #[.int .i64 9, .int .i64 n, .string s, .slice A m c] 24)).alloc (.cells #[.int .i64 free] 3)).alloc (.cells #[.int .i64 bound] 3)) := (((Below.refl _ w).alloc (Nat.le_refl _) _).alloc (by simp) _).alloc (by simp; omega) _
 have hC : Caught (((w.alloc (.cells #[.int .i64 9, .int .i64 n, .string s, .slice A m c] 24)).alloc (.cells #[.int .i64 free] 3)).alloc (.cells #[.int .i64 bound] 3)) w.heap.size 9 n s A m c free bound := caught_new w 9 n s A m c free bound
 have hs3 : (((w.alloc (.cells #[.int .i64 9, .int .i64 n, .string s, .slice A m c] 24)).alloc (.cells #[.int .i64 free] 3)).alloc (.cells #[.int .i64 bound] 3)).heap.size = w.heap.size + 3 := by simp
 obtain ⟨a0, a1, a2, a3⟩ := hC.t.four'
 have a4 := hC.f.cell 0
 have a5 := hC.b.cell 0
 simp at a4 a5
 have HB3 := Lib.hid hb3
 have HC := Lib.hid hC
 have HS3 := Lib.hid hs3
 have hg3 : Signs (((w.alloc (.cells #[.int .i64 9, .int .i64 n, .string s, .slice A m c] 24)).alloc (.cells #[.int .i64 free] 3)).alloc (.cells #[.int .i64 bound] 3)) := hg.below hb3 hg.pos
 have hmk : ∀ w0, (Instr.makeFunc (.func 53) #[] #[.pointer (some ⟨w.heap.size, 0, none⟩), .pointer (some ⟨w.heap.size + 1, 0, none⟩), .pointer (some ⟨w.heap.size + 1 + 1, 0, none⟩)]).run Tryz.prog w0 = .ok (.func (.func 53) #[] #[.pointer (some ⟨w.heap.size, 0, none⟩), .pointer (some ⟨w.heap.size + 1, 0, none⟩), .pointer (some ⟨w.heap.size + 1 + 1, 0, none⟩)]) w0 := fun _ => rfl
 have HI := Lib.hid hI
 have HM := Lib.hid hm
 rw [← data_list] at HE
 clear hb3 hC hs3 hI hm
 have hB := eblank_any 9 n s A m c (((w.alloc (.cells #[.int .i64 9, .int .i64 n, .string s, .slice A m c] 24)).alloc (.cells #[.int .i64 free] 3)).alloc (.cells #[.int .i64 bound] 3))
 rw [← data_list] at hB
 have HB := Lib.hid hB
 clear hB
 cases hq : blankE n s.toList
 ·rw [hq] at HB HE
  clear hq
  go_enter Tryz.func34, Tryz.ntmps34
  go_wp2_with fail
  refine HB.out.mono ?_
  rintro e w4 ⟨rfl, hb4⟩
  go_wp2_with fail
  go_ret
  exact ⟨ret_bool (by rw [HE.out]; rfl), HB3.out.trans (hb4.mono (by rw [HS3.out]; omega))⟩
 ·rw [hq] at HB HE
  clear hq
  go_enter Tryz.func34, Tryz.ntmps34
  go_wp2_with fail
  refine HB.out.mono ?_
  rintro e w4 ⟨rfl, hb4⟩
  have HC4 := Lib.hid (HC.out.below hb4)
  have HB4 := Lib.hid (HB3.out.trans (hb4.mono (by rw [HS3.out]; omega)))
  go_wp2_with fail
  refine (HP.out _ 0 0 0 (HC4.out) (HB4.out) (by omega) (by omega) (by first | rfl | simp [moreE])).mono ?_
  rintro e w9 ⟨rfl, hb9⟩
  go_wp2_with fail
  go_ret
  exact ⟨ret_bool (by rw [HE.out]; simp), HB4.out.trans (hb9.mono HB4.out.size)⟩
set_option maxHeartbeats 4000000 in
theorem emay_k4 (n : Int) (s : ByteArray) (l : List Te) (A : Option Addr) (m c : Nat) (free bound : Int) (w : World) (hm : m = l.length) (_hmc : m ≤ c) (_hml : m ≤ 140737488351232) (hg : Signs w) (hI : ELIn w Any l A 0) (_hn0 : -9223372036854775808 ≤ n) (_hn1 : n ≤ 9223372036854775807)
  (_hb0 : 0 ≤ bound) (_hb1 : bound ≤ 1000000) (HP : Hid (CloC w 4 n s l A m c free bound)) :
  Calls Tryz.prog 34 #[.agg #[.int .i64 4, .int .i64 n, .string s, .slice A m c], .int .i64 free, .int .i64 bound] w fun e w' => e = .returned (.bool (mayE (.node 4 n s l) free bound)) ∧ Below w.heap.size w w' := by
 have HE := Lib.hid (mayE_4 n s l free bound)
 have hb3 : Below w.heap.size w (((w.alloc (.cells #[.int .i64 4, .int .i64 n, .string s, .slice A m c] 24)).alloc (.cells #[.int .i64 free] 3)).alloc (.cells #[.int .i64 bound] 3)) := (((Below.refl _ w).alloc (Nat.le_refl _) _).alloc (by simp) _).alloc (by simp; omega) _
 have hC : Caught (((w.alloc (.cells #[.int .i64 4, .int .i64 n, .string s, .slice A m c] 24)).alloc (.cells #[.int .i64 free] 3)).alloc (.cells #[.int .i64 bound] 3)) w.heap.size 4 n s A m c free bound := caught_new w 4 n s A m c free bound
 have hs3 : (((w.alloc (.cells #[.int .i64 4, .int .i64 n, .string s, .slice A m c] 24)).alloc (.cells #[.int .i64 free] 3)).alloc (.cells #[.int .i64 bound] 3)).heap.size = w.heap.size + 3 := by simp
 obtain ⟨a0, a1, a2, a3⟩ := hC.t.four'
 have a4 := hC.f.cell 0
 have a5 := hC.b.cell 0
 simp at a4 a5
 have HB3 := Lib.hid hb3
 have HC := Lib.hid hC
 have HS3 := Lib.hid hs3
 have hg3 : Signs (((w.alloc (.cells #[.int .i64 4, .int .i64 n, .string s, .slice A m c] 24)).alloc (.cells #[.int .i64 free] 3)).alloc (.cells #[.int .i64 bound] 3)) := hg.below hb3 hg.pos
 have hmk : ∀ w0, (Instr.makeFunc (.func 53) #[] #[.pointer (some ⟨w.heap.size, 0, none⟩), .pointer (some ⟨w.heap.size + 1, 0, none⟩), .pointer (some ⟨w.heap.size + 1 + 1, 0, none⟩)]).run Tryz.prog w0 = .ok (.func (.func 53) #[] #[.pointer (some ⟨w.heap.size, 0, none⟩), .pointer (some ⟨w.heap.size + 1, 0, none⟩), .pointer (some ⟨w.heap.size + 1 + 1, 0, none⟩)]) w0 := fun _ => rfl
 have HI := Lib.hid hI
 have HM := Lib.hid hm
 rw [← data_list] at HE
 clear hb3 hC hs3 hI hm
 have hB := econ_any s (((w.alloc (.cells #[.int .i64 4, .int .i64 n, .string s, .slice A m c] 24)).alloc (.cells #[.int .i64 free] 3)).alloc (.cells #[.int .i64 bound] 3)) hg3
 rw [← data_list] at hB
 have HB := Lib.hid hB
 clear hB
 cases hq : conV s.toList
 ·rw [hq] at HB HE
  clear hq
  go_enter Tryz.func34, Tryz.ntmps34
  go_wp2_with fail
  refine HB.out.mono ?_
  rintro e w4 ⟨rfl, hb4⟩
  have HC4 := Lib.hid (HC.out.below hb4)
  have HB4 := Lib.hid (HB3.out.trans (hb4.mono (by rw [HS3.out]; omega)))
  obtain ⟨z0, z1, z2, z3⟩ := HC4.out.t.four'
  go_wp2_with fail
  go_ret
  exact ⟨ret_bool (by rw [HE.out]; rfl), HB4.out⟩
 ·rw [hq] at HB HE
  clear hq
  by_cases hn : n = 0
  ·have e0 : (n == 0) = true := by simpa using hn
   have HHN := Lib.hid hn
   clear hn
   go_enter Tryz.func34, Tryz.ntmps34
   go_wp2_with fail
   refine HB.out.mono ?_
   rintro e w4 ⟨rfl, hb4⟩
   have HC4 := Lib.hid (HC.out.below hb4)
   have HB4 := Lib.hid (HB3.out.trans (hb4.mono (by rw [HS3.out]; omega)))
   obtain ⟨z0, z1, z2, z3⟩ := HC4.out.t.four'
   go_wp2_with fail
   refine (HP.out _ 0 8 0 (HC4.out) (HB4.out) (by omega) (by omega) (by first | rfl | simp [moreE])).mono ?_
   rintro e w9 ⟨rfl, hb9⟩
   go_wp2_with fail
   go_ret
   exact ⟨ret_bool (by rw [HE.out]; simp [HHN.out]), HB4.out.trans (hb9.mono HB4.out.size)⟩
  ·have e0 : (n == 0) = false := by simpa using hn
   go_enter Tryz.func34, Tryz.ntmps34
   go_wp2_with fail
   refine HB.out.mono ?_
   rintro e w4 ⟨rfl, hb4⟩
   have HC4 := Lib.hid (HC.out.below hb4)
   have HB4 := Lib.hid (HB3.out.trans (hb4.mono (by rw [HS3.out]; omega)))
   obtain ⟨z0, z1, z2, z3⟩ := HC4.out.t.four'
   go_wp2_with fail
   go_ret
   exact ⟨ret_bool (by rw [HE.out]; rw [show decide (n = 0) = false from decide_eq_false (by omega)]; simp), HB4.out⟩
set_option maxHeartbeats 4000000 in
theorem emay_k8 (n : Int) (s : ByteArray) (l : List Te) (A : Option Addr) (m c : Nat) (free bound : Int) (w : World) (hm : m = l.length) (_hmc : m ≤ c) (_hml : m ≤ 140737488351232) (hg : Signs w) (hI : ELIn w Any l A 0) (_hn0 : -9223372036854775808 ≤ n) (_hn1 : n ≤ 9223372036854775807)
  (_hb0 : 0 ≤ bound) (_hb1 : bound ≤ 1000000) (HP : Hid (CloC w 8 n s l A m c free bound)) :
  Calls Tryz.prog 34 #[.agg #[.int .i64 8, .int .i64 n, .string s, .slice A m c], .int .i64 free, .int .i64 bound] w fun e w' => e = .returned (.bool (mayE (.node 8 n s l) free bound)) ∧ Below w.heap.size w w' := by
 have HE := Lib.hid (mayE_8 n s l free bound)
 have hb3 : Below w.heap.size w (((w.alloc (.cells #[.int .i64 8, .int .i64 n, .string s, .slice A m c] 24)).alloc (.cells #[.int .i64 free] 3)).alloc (.cells #[.int .i64 bound] 3)) := (((Below.refl _ w).alloc (Nat.le_refl _) _).alloc (by simp) _).alloc (by simp; omega) _
 have hC : Caught (((w.alloc (.cells #[.int .i64 8, .int .i64 n, .string s, .slice A m c] 24)).alloc (.cells #[.int .i64 free] 3)).alloc (.cells #[.int .i64 bound] 3)) w.heap.size 8 n s A m c free bound := caught_new w 8 n s A m c free bound
 have hs3 : (((w.alloc (.cells #[.int .i64 8, .int .i64 n, .string s, .slice A m c] 24)).alloc (.cells #[.int .i64 free] 3)).alloc (.cells #[.int .i64 bound] 3)).heap.size = w.heap.size + 3 := by simp
 obtain ⟨a0, a1, a2, a3⟩ := hC.t.four'
 have a4 := hC.f.cell 0
 have a5 := hC.b.cell 0
 simp at a4 a5
 have HB3 := Lib.hid hb3
 have HC := Lib.hid hC
 have HS3 := Lib.hid hs3
 have hg3 : Signs (((w.alloc (.cells #[.int .i64 8, .int .i64 n, .string s, .slice A m c] 24)).alloc (.cells #[.int .i64 free] 3)).alloc (.cells #[.int .i64 bound] 3)) := hg.below hb3 hg.pos
 have hmk : ∀ w0, (Instr.makeFunc (.func 53) #[] #[.pointer (some ⟨w.heap.size, 0, none⟩), .pointer (some ⟨w.heap.size + 1, 0, none⟩), .pointer (some ⟨w.heap.size + 1 + 1, 0, none⟩)]).run Tryz.prog w0 = .ok (.func (.func 53) #[] #[.pointer (some ⟨w.heap.size, 0, none⟩), .pointer (some ⟨w.heap.size + 1, 0, none⟩), .pointer (some ⟨w.heap.size + 1 + 1, 0, none⟩)]) w0 := fun _ => rfl
 have HI := Lib.hid hI
 have HM := Lib.hid hm
 rw [← data_list] at HE
 clear hb3 hC hs3 hI hm
 have hB := eoper_any s (((w.alloc (.cells #[.int .i64 8, .int .i64 n, .string s, .slice A m c] 24)).alloc (.cells #[.int .i64 free] 3)).alloc (.cells #[.int .i64 bound] 3))
 rw [← data_list] at hB
 have HB := Lib.hid hB
 clear hB
 cases hq : opV s.toList
 ·rw [hq] at HB HE
  clear hq
  go_enter Tryz.func34, Tryz.ntmps34
  go_wp2_with fail
  refine HB.out.mono ?_
  rintro e w4 ⟨rfl, rfl⟩
  have HC4 := HC
  have HB4 := HB3
  go_wp2_with fail
  go_ret
  exact ⟨ret_bool (by rw [HE.out]; rfl), HB4.out⟩
 ·rw [hq] at HB HE
  clear hq
  by_cases hn : n = 0
  ·have e0 : (n == 0) = true := by simpa using hn
   have HHN := Lib.hid hn
   clear hn
   go_enter Tryz.func34, Tryz.ntmps34
   go_wp2_with fail
   refine HB.out.mono ?_
   rintro e w4 ⟨rfl, rfl⟩
   have HC4 := HC
   have HB4 := HB3
   go_wp2_with fail
   refine (HP.out _ 2 2 0 (HC4.out) (HB4.out) (by omega) (by omega) (by first | rfl | simp [moreE])).mono ?_
   rintro e w9 ⟨rfl, hb9⟩
   go_wp2_with fail
   go_ret
   exact ⟨ret_bool (by rw [HE.out]; simp [HHN.out]), HB4.out.trans (hb9.mono HB4.out.size)⟩
  ·have e0 : (n == 0) = false := by simpa using hn
   go_enter Tryz.func34, Tryz.ntmps34
   go_wp2_with fail
   refine HB.out.mono ?_
   rintro e w4 ⟨rfl, rfl⟩
   have HC4 := HC
   have HB4 := HB3
   go_wp2_with fail
   go_ret
   exact ⟨ret_bool (by rw [HE.out]; rw [show decide (n = 0) = false from decide_eq_false (by omega)]; simp), HB4.out⟩
set_option maxHeartbeats 4000000 in
theorem emay_k6 (n : Int) (s : ByteArray) (l : List Te) (A : Option Addr) (m c : Nat) (free bound : Int) (w : World) (hm : m = l.length) (_hmc : m ≤ c) (_hml : m ≤ 140737488351232) (hg : Signs w) (hI : ELIn w Any l A 0) (_hn0 : -9223372036854775808 ≤ n) (_hn1 : n ≤ 9223372036854775807)
  (_hb0 : 0 ≤ bound) (_hb1 : bound ≤ 1000000) (HP : Hid (CloC w 6 n s l A m c free bound)) :
  Calls Tryz.prog 34 #[.agg #[.int .i64 6, .int .i64 n, .string s, .slice A m c], .int .i64 free, .int .i64 bound] w fun e w' => e = .returned (.bool (mayE (.node 6 n s l) free bound)) ∧ Below w.heap.size w w' := by
 have HE := Lib.hid (mayE_6 n s l free bound)
 have hb3 : Below w.heap.size w (((w.alloc (.cells #[.int .i64 6, .int .i64 n, .string s, .slice A m c] 24)).alloc (.cells #[.int .i64 free] 3)).alloc (.cells #[.int .i64 bound] 3)) := (((Below.refl _ w).alloc (Nat.le_refl _) _).alloc (by simp) _).alloc (by simp; omega) _
 have hC : Caught (((w.alloc (.cells #[.int .i64 6, .int .i64 n, .string s, .slice A m c] 24)).alloc (.cells #[.int .i64 free] 3)).alloc (.cells #[.int .i64 bound] 3)) w.heap.size 6 n s A m c free bound := caught_new w 6 n s A m c free bound
 have hs3 : (((w.alloc (.cells #[.int .i64 6, .int .i64 n, .string s, .slice A m c] 24)).alloc (.cells #[.int .i64 free] 3)).alloc (.cells #[.int .i64 bound] 3)).heap.size = w.heap.size + 3 := by simp
 obtain ⟨a0, a1, a2, a3⟩ := hC.t.four'
 have a4 := hC.f.cell 0
 have a5 := hC.b.cell 0
 simp at a4 a5
 have HB3 := Lib.hid hb3
 have HC := Lib.hid hC
 have HS3 := Lib.hid hs3
 have hg3 : Signs (((w.alloc (.cells #[.int .i64 6, .int .i64 n, .string s, .slice A m c] 24)).alloc (.cells #[.int .i64 free] 3)).alloc (.cells #[.int .i64 bound] 3)) := hg.below hb3 hg.pos
 have hmk : ∀ w0, (Instr.makeFunc (.func 53) #[] #[.pointer (some ⟨w.heap.size, 0, none⟩), .pointer (some ⟨w.heap.size + 1, 0, none⟩), .pointer (some ⟨w.heap.size + 1 + 1, 0, none⟩)]).run Tryz.prog w0 = .ok (.func (.func 53) #[] #[.pointer (some ⟨w.heap.size, 0, none⟩), .pointer (some ⟨w.heap.size + 1, 0, none⟩), .pointer (some ⟨w.heap.size + 1 + 1, 0, none⟩)]) w0 := fun _ => rfl
 have HI := Lib.hid hI
 have HM := Lib.hid hm
 rw [← data_list] at HE
 clear hb3 hC hs3 hI hm
 have hB := econ_any s (((w.alloc (.cells #[.int .i64 6, .int .i64 n, .string s, .slice A m c] 24)).alloc (.cells #[.int .i64 free] 3)).alloc (.cells #[.int .i64 bound] 3)) hg3
 rw [← data_list] at hB
 have HB := Lib.hid hB
 clear hB
 cases hq : conV s.toList
 ·rw [hq] at HB HE
  clear hq
  go_enter Tryz.func34, Tryz.ntmps34
  go_wp2_with fail
  refine HB.out.mono ?_
  rintro e w4 ⟨rfl, hb4⟩
  have HC4 := Lib.hid (HC.out.below hb4)
  have HB4 := Lib.hid (HB3.out.trans (hb4.mono (by rw [HS3.out]; omega)))
  obtain ⟨z0, z1, z2, z3⟩ := HC4.out.t.four'
  go_wp2_with fail
  go_ret
  exact ⟨ret_bool (by rw [HE.out]; rfl), HB4.out⟩
 ·rw [hq] at HB HE
  clear hq
  by_cases hn : 0 ≤ n
  ·have e0 := trivial
   by_cases hm8 : n ≤ 8
   ·have e1 := trivial
    have HHN := Lib.hid hn
    have HHM8 := Lib.hid hm8
    go_enter Tryz.func34, Tryz.ntmps34
    go_wp2_with fail
    refine HB.out.mono ?_
    rintro e w4 ⟨rfl, hb4⟩
    have HC4 := Lib.hid (HC.out.below hb4)
    have HB4 := Lib.hid (HB3.out.trans (hb4.mono (by rw [HS3.out]; omega)))
    obtain ⟨z0, z1, z2, z3⟩ := HC4.out.t.four'
    go_wp2_with fail
    refine (HP.out _ 1 1 n (HC4.out) (HB4.out) (by omega) (by omega) (by first | rfl | simp [moreE])).mono ?_
    rintro e w9 ⟨rfl, hb9⟩
    go_wp2_with fail
    go_ret
    exact ⟨ret_bool (by rw [HE.out]; simp [HHN.out, HHM8.out]), HB4.out.trans (hb9.mono HB4.out.size)⟩
   ·have e1 : ¬ n ≤ 8 := hm8
    go_enter Tryz.func34, Tryz.ntmps34
    go_wp2_with fail
    refine HB.out.mono ?_
    rintro e w4 ⟨rfl, hb4⟩
    have HC4 := Lib.hid (HC.out.below hb4)
    have HB4 := Lib.hid (HB3.out.trans (hb4.mono (by rw [HS3.out]; omega)))
    obtain ⟨z0, z1, z2, z3⟩ := HC4.out.t.four'
    go_wp2_with fail
    go_ret
    exact ⟨ret_bool (by rw [HE.out]; rw [show decide (n ≤ 8) = false from decide_eq_false (by omega)]; simp), HB4.out⟩
  ·have e0 : ¬ 0 ≤ n := hn
   go_enter Tryz.func34, Tryz.ntmps34
   go_wp2_with fail
   refine HB.out.mono ?_
   rintro e w4 ⟨rfl, hb4⟩
   have HC4 := Lib.hid (HC.out.below hb4)
   have HB4 := Lib.hid (HB3.out.trans (hb4.mono (by rw [HS3.out]; omega)))
   obtain ⟨z0, z1, z2, z3⟩ := HC4.out.t.four'
   go_wp2_with fail
   go_ret
   exact ⟨ret_bool (by rw [HE.out]; rw [show decide (0 ≤ n) = false from decide_eq_false (by omega)]; simp), HB4.out⟩
set_option maxHeartbeats 4000000 in
theorem emay_k5 (n : Int) (s : ByteArray) (l : List Te) (A : Option Addr) (m c : Nat) (free bound : Int) (w : World) (hm : m = l.length) (_hmc : m ≤ c) (_hml : m ≤ 140737488351232) (hg : Signs w) (hI : ELIn w Any l A 0) (_hn0 : -9223372036854775808 ≤ n) (_hn1 : n ≤ 9223372036854775807)
  (_hb0 : 0 ≤ bound) (_hb1 : bound ≤ 1000000) (HP : Hid (CloC w 5 n s l A m c free bound)) :
  Calls Tryz.prog 34 #[.agg #[.int .i64 5, .int .i64 n, .string s, .slice A m c], .int .i64 free, .int .i64 bound] w fun e w' => e = .returned (.bool (mayE (.node 5 n s l) free bound)) ∧ Below w.heap.size w w' := by
 have HE := Lib.hid (mayE_5 n s l free bound)
 have hb3 : Below w.heap.size w (((w.alloc (.cells #[.int .i64 5, .int .i64 n, .string s, .slice A m c] 24)).alloc (.cells #[.int .i64 free] 3)).alloc (.cells #[.int .i64 bound] 3)) := (((Below.refl _ w).alloc (Nat.le_refl _) _).alloc (by simp) _).alloc (by simp; omega) _
 have hC : Caught (((w.alloc (.cells #[.int .i64 5, .int .i64 n, .string s, .slice A m c] 24)).alloc (.cells #[.int .i64 free] 3)).alloc (.cells #[.int .i64 bound] 3)) w.heap.size 5 n s A m c free bound := caught_new w 5 n s A m c free bound
 have hs3 : (((w.alloc (.cells #[.int .i64 5, .int .i64 n, .string s, .slice A m c] 24)).alloc (.cells #[.int .i64 free] 3)).alloc (.cells #[.int .i64 bound] 3)).heap.size = w.heap.size + 3 := by simp
 obtain ⟨a0, a1, a2, a3⟩ := hC.t.four'
 have a4 := hC.f.cell 0
 have a5 := hC.b.cell 0
 simp at a4 a5
 have HB3 := Lib.hid hb3
 have HC := Lib.hid hC
 have HS3 := Lib.hid hs3
 have hg3 : Signs (((w.alloc (.cells #[.int .i64 5, .int .i64 n, .string s, .slice A m c] 24)).alloc (.cells #[.int .i64 free] 3)).alloc (.cells #[.int .i64 bound] 3)) := hg.below hb3 hg.pos
 have hmk : ∀ w0, (Instr.makeFunc (.func 53) #[] #[.pointer (some ⟨w.heap.size, 0, none⟩), .pointer (some ⟨w.heap.size + 1, 0, none⟩), .pointer (some ⟨w.heap.size + 1 + 1, 0, none⟩)]).run Tryz.prog w0 = .ok (.func (.func 53) #[] #[.pointer (some ⟨w.heap.size, 0, none⟩), .pointer (some ⟨w.heap.size + 1, 0, none⟩), .pointer (some ⟨w.heap.size + 1 + 1, 0, none⟩)]) w0 := fun _ => rfl
 have HI := Lib.hid hI
 have HM := Lib.hid hm
 rw [← data_list] at HE
 clear hb3 hC hs3 hI hm
 have hB := eblank_any 5 n s A m c (((w.alloc (.cells #[.int .i64 5, .int .i64 n, .string s, .slice A m c] 24)).alloc (.cells #[.int .i64 free] 3)).alloc (.cells #[.int .i64 bound] 3))
 rw [← data_list] at hB
 have HB := Lib.hid hB
 clear hB
 cases hq : blankE n s.toList
 ·rw [hq] at HB HE
  clear hq
  go_enter Tryz.func34, Tryz.ntmps34
  go_wp2_with fail
  refine HB.out.mono ?_
  rintro e w4 ⟨rfl, hb4⟩
  go_wp2_with fail
  go_ret
  exact ⟨ret_bool (by rw [HE.out]; rfl), HB3.out.trans (hb4.mono (by rw [HS3.out]; omega))⟩
 ·rw [hq] at HB HE
  clear hq
  cases hp : partsE 5 l free (bound + 0) 2 9
  ·rw [hp] at HE
   have HPP := Lib.hid hp
   clear hp
   go_enter Tryz.func34, Tryz.ntmps34
   go_wp2_with fail
   refine HB.out.mono ?_
   rintro e w4 ⟨rfl, hb4⟩
   have HC4 := Lib.hid (HC.out.below hb4)
   have HB4 := Lib.hid (HB3.out.trans (hb4.mono (by rw [HS3.out]; omega)))
   have hq9 := HP.out w4 2 9 0 HC4.out HB4.out (by omega) (by omega) rfl
   rw [HPP.out] at hq9
   have HQ9 := Lib.hid hq9
   clear hq9
   go_wp2_with fail
   refine HQ9.out.mono ?_
   rintro e w9 ⟨rfl, hb9⟩
   go_wp2_with fail
   go_ret
   exact ⟨ret_bool (by rw [HE.out]; rfl), HB4.out.trans (hb9.mono HB4.out.size)⟩
  ·rw [hp] at HE
   have HPP := Lib.hid hp
   have hm2 : 2 ≤ m ∧ m ≤ 9 := by
    have h := hp
    simp [partsE] at h
    rw [HM.out]; omega
   clear hp
   have hc1 : 1 < c := by omega
   go_enter Tryz.func34, Tryz.ntmps34
   go_wp2_with fail
   refine HB.out.mono ?_
   rintro e w4 ⟨rfl, hb4⟩
   have HC4 := Lib.hid (HC.out.below hb4)
   have HB4 := Lib.hid (HB3.out.trans (hb4.mono (by rw [HS3.out]; omega)))
   have hq9 := HP.out w4 2 9 0 HC4.out HB4.out (by omega) (by omega) rfl
   rw [HPP.out] at hq9
   have HQ9 := Lib.hid hq9
   clear hq9
   go_wp2_with fail
   refine HQ9.out.mono ?_
   rintro e w9 ⟨rfl, hb9⟩
   have hb10 := HB4.out.trans (hb9.mono HB4.out.size)
   obtain ⟨z0, z1, z2, z3⟩ := (HC4.out.below hb9).t.four'
   have HU := Lib.hid (erest_unlike l A m c w9 HM.out hm2.1 hm2.2 _hmc (ELIn.below l HI.out hb10 (Nat.le_refl _)))
   have HB10 := Lib.hid hb10
   clear hb10
   obtain ⟨g, o, hA⟩ : ∃ g o, A = some ⟨g, o, none⟩ := by
    obtain ⟨g, o, _, _, ⟨e, _⟩, _⟩ := ELIn.at_ l HI.out 0 (by rw [← HM.out]; omega)
    exact ⟨g, o, e⟩
   subst hA
   go_wp2_with fail
   refine (HU.out _ _ rfl).mono ?_
   rintro e w11 ⟨rfl, hb11⟩
   go_wp2_with fail
   go_ret
   exact ⟨ret_bool (by rw [HE.out]; simp), HB10.out.trans (hb11.mono HB10.out.size)⟩
set_option maxHeartbeats 4000000 in
theorem emay_kno (k n : Int) (s : ByteArray) (l : List Te) (A : Option Addr) (m c : Nat) (free bound : Int) (w : World) (hm : m = l.length) (_hmc : m ≤ c) (_hml : m ≤ 140737488351232) (hg : Signs w) (hI : ELIn w Any l A 0) (_hn0 : -9223372036854775808 ≤ n) (_hn1 : n ≤ 9223372036854775807)
  (_hb0 : 0 ≤ bound) (_hb1 : bound ≤ 1000000) (hk : k < 1 ∨ 9 < k) :
  Calls Tryz.prog 34 #[.agg #[.int .i64 k, .int .i64 n, .string s, .slice A m c], .int .i64 free, .int .i64 bound] w fun e w' => e = .returned (.bool (mayE (.node k n s l) free bound)) ∧ Below w.heap.size w w' := by
 have HE := Lib.hid (mayE_no hk n s l free bound)
 have hb3 : Below w.heap.size w (((w.alloc (.cells #[.int .i64 k, .int .i64 n, .string s, .slice A m c] 24)).alloc (.cells #[.int .i64 free] 3)).alloc (.cells #[.int .i64 bound] 3)) := (((Below.refl _ w).alloc (Nat.le_refl _) _).alloc (by simp) _).alloc (by simp; omega) _
 have hC : Caught (((w.alloc (.cells #[.int .i64 k, .int .i64 n, .string s, .slice A m c] 24)).alloc (.cells #[.int .i64 free] 3)).alloc (.cells #[.int .i64 bound] 3)) w.heap.size k n s A m c free bound := caught_new w k n s A m c free bound
 have hs3 : (((w.alloc (.cells #[.int .i64 k, .int .i64 n, .string s, .slice A m c] 24)).alloc (.cells #[.int .i64 free] 3)).alloc (.cells #[.int .i64 bound] 3)).heap.size = w.heap.size + 3 := by simp
 obtain ⟨a0, a1, a2, a3⟩ := hC.t.four'
 have a4 := hC.f.cell 0
 have a5 := hC.b.cell 0
 simp at a4 a5
 have HB3 := Lib.hid hb3
 have HC := Lib.hid hC
 have HS3 := Lib.hid hs3
 have hg3 : Signs (((w.alloc (.cells #[.int .i64 k, .int .i64 n, .string s, .slice A m c] 24)).alloc (.cells #[.int .i64 free] 3)).alloc (.cells #[.int .i64 bound] 3)) := hg.below hb3 hg.pos
 have hmk : ∀ w0, (Instr.makeFunc (.func 53) #[] #[.pointer (some ⟨w.heap.size, 0, none⟩), .pointer (some ⟨w.heap.size + 1, 0, none⟩), .pointer (some ⟨w.heap.size + 1 + 1, 0, none⟩)]).run Tryz.prog w0 = .ok (.func (.func 53) #[] #[.pointer (some ⟨w.heap.size, 0, none⟩), .pointer (some ⟨w.heap.size + 1, 0, none⟩), .pointer (some ⟨w.heap.size + 1 + 1, 0, none⟩)]) w0 := fun _ => rfl
 have HI := Lib.hid hI
 have HM := Lib.hid hm
 clear hb3 hC hs3 hI hm
 have e1 : (k == 1) = false := by simp; omega
 have e2 : (k == 2) = false := by simp; omega
 have e3 : (k == 3) = false := by simp; omega
 have e4 : (k == 4) = false := by simp; omega
 have e5 : (k == 5) = false := by simp; omega
 have e6 : (k == 6) = false := by simp; omega
 have e7 : (k == 7) = false := by simp; omega
 have e8 : (k == 8) = false := by simp; omega
 have e9 : (k == 9) = false := by simp; omega
 clear hk
 go_enter Tryz.func34, Tryz.ntmps34
 go_wp2_with fail
 go_ret
 exact ⟨ret_bool HE.out.symm, HB3.out⟩
theorem emay_any (d : Nat) : ∀ (t : Te) (A : Option Addr) (c : Nat) (free bound : Int) (w : World), depthE t ≤ d → EIn w Any t A → Signs w → 0 ≤ bound → bound + 8 * depthE t ≤ 100000 →
  Calls Tryz.prog 34 #[ev t A c, .int .i64 free, .int .i64 bound] w fun e w' => e = .returned (.bool (mayE t free bound)) ∧ Below w.heap.size w w' := by
 induction d with
 | zero => intro t A c _ _ w h; have := depthE_pos t; omega
 | succ d ih =>
  intro t A c free bound w hd hI hg hb0 hb1
  obtain ⟨k, n, s, l⟩ := t
  have hdL : depthEL l ≤ d := by rw [depthE] at hd; omega
  have hdB : bound + 8 * (depthEL l + 1 : Nat) ≤ 100000 := by rw [depthE] at hb1; exact hb1
  rw [EIn] at hI
  obtain ⟨⟨_, hn0, hn1⟩, hml, hL⟩ := hI
  show Calls Tryz.prog 34 #[.agg #[.int .i64 k, .int .i64 n, .string s, .slice A l.length (capF l.length c)], .int .i64 free, .int .i64 bound] w _
  have hmc := le_capF l.length c
  generalize capF l.length c = c' at hmc
  have HP : Hid (CloC w k n s l A l.length c' free bound) := Lib.hid fun V least most more hC hb h0 h8 hmo =>
   emayp_any k n s l A l.length c' w.heap.size free bound least most more V rfl (ELIn.below l hL hb (Nat.le_refl _)) hml (hg.below hb hg.pos) hC hb0 (by omega) h0 h8
    fun t' A' c2 w' hmem hT hg' => ih t' A' c2 free (bound + more) w' (by have := depthEL_mem l t' hmem; omega) hT hg' (by omega) (by have := depthEL_mem l t' hmem; omega)
  rcases (by omega : k = 1 ∨ k = 2 ∨ k = 3 ∨ k = 4 ∨ k = 5 ∨ k = 6 ∨ k = 7 ∨ k = 8 ∨ k = 9 ∨ (k < 1 ∨ 9 < k)) with rfl | rfl | rfl | rfl | rfl | rfl | rfl | rfl | rfl | hk
  ·exact emay_k1 n s l A _ c' free bound w rfl hmc hml hg hL hn0 hn1 hb0 (by omega) HP
  ·exact emay_k2 n s l A _ c' free bound w rfl hmc hml hg hL hn0 hn1 hb0 (by omega) HP
  ·exact emay_k3 n s l A _ c' free bound w rfl hmc hml hg hL hn0 hn1 hb0 (by omega) HP
  ·exact emay_k4 n s l A _ c' free bound w rfl hmc hml hg hL hn0 hn1 hb0 (by omega) HP
  ·exact emay_k5 n s l A _ c' free bound w rfl hmc hml hg hL hn0 hn1 hb0 (by omega) HP
  ·exact emay_k6 n s l A _ c' free bound w rfl hmc hml hg hL hn0 hn1 hb0 (by omega) HP
  ·exact emay_k7 n s l A _ c' free bound w rfl hmc hml hg hL hn0 hn1 hb0 (by omega) HP
  ·exact emay_k8 n s l A _ c' free bound w rfl hmc hml hg hL hn0 hn1 hb0 (by omega) HP
  ·exact emay_k9 n s l A _ c' free bound w rfl hmc hml hg hL hn0 hn1 hb0 (by omega) HP
  ·exact emay_kno k n s l A _ c' free bound w rfl hmc hml hg hL hn0 hn1 hb0 (by omega) hk
set_option maxHeartbeats 1000000 in
theorem eMay_any (t : Te) (A : Option Addr) (c : Nat) (free : Int) (w : World) (hI : EIn w Any t A) (hg : Signs w) (hd : depthE t ≤ 12000) :
  Calls Tryz.prog 21 #[ev t A c, .int .i64 free] w fun e w' => e = .returned (.bool (mayV6 t free)) ∧ Below w.heap.size w w' := by
 have hb0 : Below w.heap.size w (w.alloc (.cells #[.int .i64 t.kind, .int .i64 t.n, .string t.name, .slice A t.parts.length (capF t.parts.length c)] 24)) := (Below.refl _ w).alloc (Nat.le_refl _) _
 have HM := Lib.hid (emay_any _ t A c free 0 _ (Nat.le_refl _) (EIn.below _ hI hb0 (Nat.le_refl _)) (hg.below hb0 hg.pos) (by omega) (by omega))
 have HV : Hid (mayV6 t free = (decide (0 ≤ free) && (decide (t.kind ≠ 6) && mayE t free 0))) := by exact rfl
 have HB := Lib.hid hb0
 clear hI hg hd hb0
 obtain ⟨b, hb⟩ : ∃ b, b = mayE t free 0 := ⟨_, rfl⟩
 rw [← hb] at HM HV
 clear hb
 obtain ⟨V, hV⟩ : ∃ V, V = mayV6 t free := ⟨_, rfl⟩
 rw [← hV] at HV ⊢
 clear hV
 obtain ⟨k, n, s, l⟩ := t
 show Calls Tryz.prog 21 #[.agg #[.int .i64 k, .int .i64 n, .string s, .slice A l.length (capF l.length c)], .int .i64 free] w _
 simp only [ev, Te.kind, Te.n, Te.name, Te.parts] at HM HB HV
 by_cases hf : 0 ≤ free
 ·by_cases h6 : k = 6
  ·have e6 : (k != 6) = false := by simpa using h6
   have HE : Hid (V = false) := by
    show _ = _
    rw [HV.out]; simp [h6]
   clear h6 HM
   go_enter Tryz.func21, Tryz.ntmps21
   go_wp2_with fail
   go_ret
   exact ⟨ret_bool HE.out.symm, HB.out⟩
  ·have e6 : (k != 6) = true := by simpa using h6
   have HE : Hid (V = b) := by
    show _ = _
    rw [HV.out]; simp [h6, hf]
   clear h6
   go_enter Tryz.func21, Tryz.ntmps21
   go_wp2_with fail
   refine HM.out.mono ?_
   rintro e w2 ⟨rfl, hb2⟩
   go_wp2_with fail
   go_ret
   exact ⟨ret_bool HE.out.symm, HB.out.trans (hb2.mono HB.out.size)⟩
 ·have HE : Hid (V = false) := by
   show _ = _
   rw [HV.out]; simp [hf]
  clear HM
  go_enter Tryz.func21, Tryz.ntmps21
  go_wp2_with fail
  go_ret
  exact ⟨ret_bool HE.out.symm, HB.out⟩
theorem fine_plug : ∀ (p : List (Te × Nat)) (t : Te), pathE p → FineT (plugE t p) → FineT t
 | [], _, _, h => h
 | (u, i) :: p, t, hp, h => by
  have h1 := hp (u, i) (by simp)
  rw [plugE] at h
  have h2 := fine_plug p (setE u i t) (fun e he => hp e (by simp [he])) h
  have h3 : i < (setE u i t).parts.length := by rw [setE]; show i < (u.parts.set i t).length; rw [List.length_set]; exact h1.2
  have h4 := fine_part h2 h3
  have h5 : prt (setE u i t).parts i = t := by rw [setE]; show prt (u.parts.set i t) i = t; rw [prt_set h1.2, if_pos rfl]
  rwa [h5] at h4
def stepV (t : Te) : Te × Int := if mayV6 t 4611686018427387904 = true then stepE t else (t, 0)
theorem step_seek {T t : Te} {q : List (Te × Nat)} (h : plugE t q.reverse = T) (hp : pathE q) (hw : waitE t = none) (hv : valK t.kind = true → q = []) : stepE T = (plugE (actE t).1 q.reverse, (actE t).2) := by
 subst h
 cases hk : valK t.kind with
 | true =>
  have := hv hk
  subst this
  show stepE t = ((actE t).1, (actE t).2)
  rw [stepE_act hw]
 | false => rw [step_plug q.reverse t (fun e he => hp e (by simpa using he)) hk, stepE_act hw]
theorem term_ev {w : World} {X : Nat → Prop} {t : Te} {A : Option Addr} (h : EIn w X t A) : ∃ n : Int, t.n = n ∧ -9223372036854775808 ≤ n ∧ n ≤ 9223372036854775807 := ⟨_, rfl, by obtain ⟨k, n, s, l⟩ := t; rw [EIn] at h; exact h.1.2.1, by obtain ⟨k, n, s, l⟩ := t; rw [EIn] at h; exact h.1.2.2⟩
set_option maxHeartbeats 8000000 in
theorem stepV_any (f : Int) (t : Te) (A : Option Addr) (c : Nat) (w : World) (hT : EIn w Any t A) (hg : Signs w) (hf : FineT t) (hv : mayV6 t 4611686018427387904 = true → mayQ t f false = true ∧ FineT (stepE t).1) :
  Calls Tryz.prog 12 #[ev t A c] w (GivesS (stepV t).1 (stepV t).2 w) := by
 obtain ⟨tk, tn, ts, tl⟩ := t
 have hb0 : Below w.heap.size w ((w.alloc (.cells #[.int .i64 tk, .int .i64 tn, .string ts, .slice A tl.length (capF tl.length c)] 24)).alloc (.cells #[.int .i64 0, .int .i64 0, .string ⟨#[]⟩, .slice none 0 0] 24)) := below2_new _ _
 have lt : Lies ((w.alloc (.cells #[.int .i64 tk, .int .i64 tn, .string ts, .slice A tl.length (capF tl.length c)] 24)).alloc (.cells #[.int .i64 0, .int .i64 0, .string ⟨#[]⟩, .slice none 0 0] 24)) w.heap.size 24 #[.int .i64 tk, .int .i64 tn, .string ts, .slice A tl.length (capF tl.length c)] := (Lies.new w _ _).old _
 have lz : Lies ((w.alloc (.cells #[.int .i64 tk, .int .i64 tn, .string ts, .slice A tl.length (capF tl.length c)] 24)).alloc (.cells #[.int .i64 0, .int .i64 0, .string ⟨#[]⟩, .slice none 0 0] 24)) (w.heap.size + 1) 24 #[.int .i64 0, .int .i64 0, .string ⟨#[]⟩, .slice none 0 0] := by simpa using Lies.new (w.alloc (.cells #[.int .i64 tk, .int .i64 tn, .string ts, .slice A tl.length (capF tl.length c)] 24)) 24 #[.int .i64 0, .int .i64 0, .string ⟨#[]⟩, .slice none 0 0]
 have hb0lt : w.heap.size + 2 ≤ ((w.alloc (.cells #[.int .i64 tk, .int .i64 tn, .string ts, .slice A tl.length (capF tl.length c)] 24)).alloc (.cells #[.int .i64 0, .int .i64 0, .string ⟨#[]⟩, .slice none 0 0] 24)).heap.size := by simp
 show Calls Tryz.prog 12 #[.agg #[.int .i64 tk, .int .i64 tn, .string ts, .slice A tl.length (capF tl.length c)]] w _
 have HM := Lib.hid (eMay_any (.node tk tn ts tl) A c 4611686018427387904 ((w.alloc (.cells #[.int .i64 tk, .int .i64 tn, .string ts, .slice A tl.length (capF tl.length c)] 24)).alloc (.cells #[.int .i64 0, .int .i64 0, .string ⟨#[]⟩, .slice none 0 0] 24)) (EIn.below _ hT hb0 (Nat.le_refl _)) (hg.below hb0 hg.pos) hf.1)
 obtain ⟨b, hbv⟩ : ∃ b, b = mayV6 (.node tk tn ts tl) 4611686018427387904 := ⟨_, rfl⟩
 rw [← hbv] at HM
 have HV := Lib.hid hv
 have HBV := Lib.hid hbv
 have HT := Lib.hid hT
 have HF := Lib.hid hf
 simp only [ev, Te.kind, Te.n, Te.name, Te.parts] at HM
 clear hT hg hf hv hbv
 go_enter Tryz.func12, Tryz.ntmps12
 go_wp2_with fail
 refine HM.out.mono ?_
 rintro e w2 ⟨rfl, hb2⟩
 have lt2 := lt.below hb2 lt.lt
 have lz2 := lz.below hb2 lz.lt
 have hb02 := hb0.trans (hb2.mono hb0.size)
 have hs2 : w.heap.size + 2 ≤ w2.heap.size := Nat.le_trans hb0lt hb2.size
 clear hb2 lt lz hb0 hb0lt HM
 obtain ⟨⟨y0, y1, y2, y3⟩, _⟩ := lt2.four
 cases b with
 | false =>
  have HE : Hid (stepV (.node tk tn ts tl) = (Te.node tk tn ts tl, 0)) := Lib.hid (by rw [stepV, if_neg (by rw [← HBV.out]; decide)])
  have HC := Lib.hid (copied_any (.node tk tn ts tl) A c w2 (EIn.below _ HT.out hb02 (Nat.le_refl _)) HF.out.1 HF.out.2.1 HF.out.2.2)
  simp only [ev, Te.kind, Te.n, Te.name, Te.parts] at HC
  go_wp2_with fail
  refine HC.out.mono ?_
  rintro e w3 ⟨A2, c2, rfl, hT3, hb3⟩
  simp only [ev, Te.kind, Te.n, Te.name, Te.parts]
  have lz3 := lz2.below hb3 lz2.lt
  have HW := Lib.hid (hb02.trans (hb3.mono hb02.size))
  obtain ⟨⟨x0, x1, x2, x3⟩, g0, g1, g2, g3⟩ := lz3.four
  have HT3 := Lib.hid hT3
  clear hT3 hb3 HC
  go_wp2_with fail
  refine bodyPost_ret (res_term2 (p := 2) (q := 3) Tryz.results12 rfl (lz3.all _ _ _ _)) rfl ?_
  rw [HE.out]
  exact gives_allS HT3.out (by omega) lz2.lt HW.out _ _ _ _
 | true =>
  obtain ⟨hmq, hfu⟩ := HV.out HBV.out.symm
  have HE : Hid (stepV (.node tk tn ts tl) = stepE (.node tk tn ts tl)) := Lib.hid (by rw [stepV, if_pos HBV.out.symm])
  have HMQ := Lib.hid hmq
  have HFU := Lib.hid hfu
  clear hmq hfu HV HBV
  go_wp2_with fail
  have lz3 : Lies (w2.alloc (.cells #[.int .i64 tk, .int .i64 tn, .string ts, .slice A tl.length (capF tl.length c), .slice none 0 0] 43)) (w.heap.size + 1) 24 #[.int .i64 0, .int .i64 0, .string ⟨#[]⟩, .slice none 0 0] := lz2.old _
  have hb03 : Below w.heap.size w (w2.alloc (.cells #[.int .i64 tk, .int .i64 tn, .string ts, .slice A tl.length (capF tl.length c), .slice none 0 0] 43)) := hb02.alloc (by omega) _
  have HSK := Lib.hid (seek_any f w2.heap.size (w.heap.size + 1) (.node tk tn ts tl) (.node tk tn ts tl) [] A c none 0 [] (w2.alloc (.cells #[.int .i64 tk, .int .i64 tn, .string ts, .slice A tl.length (capF tl.length c), .slice none 0 0] 43))
   ⟨Lies.new w2 _ _, World.ownsRow_nil _ _ _ _, RowP.nil _ _, EIn.keep _ HT.out fun b j _ hlt => ⟨hb03.cell (p := ⟨b, j, none⟩) hlt, by omega, by omega, fun a h => by cases h⟩⟩
   ⟨rfl, fun e he => by simp at he, HMQ.out, fun e he => by simp at he⟩ HF.out.1 (by simp; omega))
  clear hb02 lz2 lt2 y0 y1 y2 y3
  refine HSK.out.mono ?_
  rintro e w3 ⟨rfl, ⟨t', q, A3, c3, B, bc, xs, hz, hpz, hwt, hvq⟩, hb3, hs3⟩
  clear HSK
  have hgw : w2.heap.size < w3.heap.size := hz.box.lt
  have lz4 := lz3.below hb3 (by omega)
  have hb04 := hb03.trans (hb3.mono (by omega))
  have hft : FineT t' := fine_plug q.reverse t' (fun e he => hpz.path e (by simpa using he)) (by rw [hpz.plug]; exact HF.out)
  have hst := step_seek hpz.plug hpz.path hwt hvq
  have HA := Lib.hid (act_any f (OffG w2.heap.size (w.heap.size + 1) B) t' A3 c3 w3 hz.ein hpz.may hft)
  obtain ⟨UX, hU⟩ : ∃ u, u = actE t' := ⟨_, rfl⟩
  rw [← hU] at HA hst
  clear hU hft hb3 hs3 hb03 lz3
  obtain ⟨⟨uk, un, us, ul⟩, x⟩ := UX
  have hpw := hpz.pw (Te.node uk un us ul)
  clear hpz hwt hvq
  have HPW := Lib.hid hpw
  have hst1 : (stepE (.node tk tn ts tl)).1 = plugE (Te.node uk un us ul) q.reverse := by rw [hst]
  have HFU2 : Hid (FineT (plugE (Te.node uk un us ul) q.reverse)) := Lib.hid (by rw [← hst1]; exact HFU.out)
  have HE2 : Hid (stepV (.node tk tn ts tl) = (plugE (Te.node uk un us ul) q.reverse, x)) := Lib.hid (by rw [HE.out, hst])
  clear hpw hst hst1 HE HFU
  obtain ⟨nq, hnq⟩ : ∃ nq, nq = q.length := ⟨_, rfl⟩
  have hbx := hz.box
  rw [← hnq] at hbx
  have HNQ := Lib.hid hnq
  have HZ := Lib.hid hz
  clear hz hnq
  obtain ⟨pk, pn, ps, pl⟩ := t'
  simp only [Te.kind, Te.n, Te.name, Te.parts, ev] at hbx HA
  have y0 := hbx.cell 0
  have y1 := hbx.cell 1
  have y2 := hbx.cell 2
  have y3 := hbx.cell 3
  simp at y0 y1 y2 y3
  go_wp2_with fail
  refine HA.out.mono ?_
  rintro e w4 ⟨A4, c4, rfl, hT4, hb4⟩
  simp only [ev, Te.kind, Te.n, Te.name, Te.parts]
  clear y0 y1 y2 y3 HA
  have HT4 := Lib.hid hT4
  have bx4 := hbx.below hb4 hbx.lt
  have lz5 := lz4.below hb4 lz4.lt
  have hb05 := hb04.trans (hb4.mono (by omega))
  have HB4 := Lib.hid hb4
  have hs4 := hb4.size
  clear hT4 hb4 hb04 lz4 hbx
  go_upto_region 6 with fail
  have j6 := bx4.old (.cells #[.int .i64 uk, .int .i64 un, .string us, .slice A4 ul.length (capF ul.length c4)] 24)
  have lz6 := lz5.old (.cells #[.int .i64 uk, .int .i64 un, .string us, .slice A4 ul.length (capF ul.length c4)] 24)
  have lu : Lies (w4.alloc (.cells #[.int .i64 uk, .int .i64 un, .string us, .slice A4 ul.length (capF ul.length c4)] 24)) w4.heap.size 24 #[.int .i64 uk, .int .i64 un, .string us, .slice A4 ul.length (capF ul.length c4)] := Lies.new _ _ _
  have hb06 := hb05.alloc (by omega) (.cells #[.int .i64 uk, .int .i64 un, .string us, .slice A4 ul.length (capF ul.length c4)] 24)
  have HB6 : Hid (Below w3.heap.size w3 (w4.alloc (.cells #[.int .i64 uk, .int .i64 un, .string us, .slice A4 ul.length (capF ul.length c4)] 24))) := Lib.hid (HB4.out.alloc hs4 _)
  have HT6 : Hid (EIn (w4.alloc (.cells #[.int .i64 uk, .int .i64 un, .string us, .slice A4 ul.length (capF ul.length c4)] 24)) (OffG w2.heap.size (w.heap.size + 1) B) (.node uk un us ul) A4) := Lib.hid (EIn.keep _ HT4.out fun b j hX hlt => ⟨World.cell?_alloc_lt _ _ ⟨b, j, none⟩ hlt, by
   rcases hX with h | h
   ·exact h
   ·refine ⟨by omega, by omega, fun a ha => ?_⟩
    have := (HZ.out.blk a ha).2
    omega⟩)
  have hs6 : (w4.alloc (.cells #[.int .i64 uk, .int .i64 un, .string us, .slice A4 ul.length (capF ul.length c4)] 24)).heap.size = w4.heap.size + 1 := by simp
  generalize w4.alloc (.cells #[.int .i64 uk, .int .i64 un, .string us, .slice A4 ul.length (capF ul.length c4)] 24) = V6 at *
  obtain ⟨⟨u0, u1, u2, u3⟩, _⟩ := lu.four
  have m0 := j6.cell 0
  have m1 := j6.cell 1
  have m2 := j6.cell 2
  have m3 := j6.cell 3
  simp at m0 m1 m2 m3
  have n0 := j6.frozen 0
  have n1 := j6.frozen 1
  have n2 := j6.frozen 2
  have n3 := j6.frozen 3
  have Z7 : Hid (∀ V7, V7 = (((V6.setCell ⟨w2.heap.size, 0, none⟩ (.int .i64 uk)).setCell ⟨w2.heap.size, 1, none⟩ (.int .i64 un)).setCell ⟨w2.heap.size, 2, none⟩ (.string us)).setCell ⟨w2.heap.size, 3, none⟩ (.slice A4 ul.length (capF ul.length c4)) → Zp V7 w2.heap.size (w.heap.size + 1) (.node uk un us ul) q A4 c4 B bc xs ∧ Below w.heap.size w V7 ∧ Lies V7 (w.heap.size + 1) 24 #[.int .i64 0, .int .i64 0, .string ⟨#[]⟩, .slice none 0 0]) := Lib.hid fun V7 hV => by
   subst hV
   have hgo : ¬ OffG w2.heap.size (w.heap.size + 1) B w2.heap.size := fun h => h.1 rfl
   have hne : ∀ r b j, OffG w2.heap.size (w.heap.size + 1) B b → (⟨w2.heap.size, r, none⟩ : Addr) ≠ ⟨b, j, none⟩ := fun r b j hX e => by injection e with e; exact hX.1 e.symm
   refine ⟨⟨?_, ?_, ?_, ?_⟩, (((hb06.setCell (p := ⟨w2.heap.size, 0, none⟩) (by show w.heap.size ≤ w2.heap.size; omega) _).setCell (p := ⟨w2.heap.size, 1, none⟩) (by show w.heap.size ≤ w2.heap.size; omega) _).setCell (p := ⟨w2.heap.size, 2, none⟩) (by show w.heap.size ≤ w2.heap.size; omega) _).setCell (p := ⟨w2.heap.size, 3, none⟩) (by show w.heap.size ≤ w2.heap.size; omega) _, ?_⟩
   ·rw [← HNQ.out]
    have := (((j6.put 0 (.int .i64 uk)).put 1 (.int .i64 un)).put 2 (.string us)).put 3 (.slice A4 ul.length (capF ul.length c4))
    simpa [Te.kind, Te.n, Te.name, Te.parts] using this
   ·refine ownsRow_setCell_below (ownsRow_setCell_below (ownsRow_setCell_below (ownsRow_setCell_below ?_ (by show w2.heap.size < _; omega) _) (by show w2.heap.size < _; omega) _) (by show w2.heap.size < _; omega) _) (by show w2.heap.size < _; omega) _
    exact own_below HZ.out.own HB6.out (Nat.le_refl _)
   ·exact HZ.out.row.keep fun b j hX hlt => ⟨by rw [World.cell?_setCell_other _ _ _ _ (hne _ b j hX), World.cell?_setCell_other _ _ _ _ (hne _ b j hX), World.cell?_setCell_other _ _ _ _ (hne _ b j hX), World.cell?_setCell_other _ _ _ _ (hne _ b j hX)]; exact HB6.out.cell (p := ⟨b, j, none⟩) hlt, hX⟩
   ·exact EIn.setCell _ (EIn.setCell _ (EIn.setCell _ (EIn.setCell _ HT6.out ⟨w2.heap.size, 0, none⟩ _ hgo) ⟨w2.heap.size, 1, none⟩ _ hgo) ⟨w2.heap.size, 2, none⟩ _ hgo) ⟨w2.heap.size, 3, none⟩ _ hgo
   ·have hn9 : w.heap.size + 1 ≠ w2.heap.size := by omega
    exact (((lz6.far (p := ⟨w2.heap.size, 0, none⟩) hn9 _).far (p := ⟨w2.heap.size, 1, none⟩) hn9 _).far (p := ⟨w2.heap.size, 2, none⟩) hn9 _).far (p := ⟨w2.heap.size, 3, none⟩) hn9 _
  clear HT6 HB6 HB4 HT4 j6 lz6 lu hb06 hb05 lz5 bx4 HZ HNQ
  go_upto_region 7 with fail
  obtain ⟨HZ7, hb7, lz7⟩ := Z7.out _ rfl
  generalize (((V6.setCell ⟨w2.heap.size, 0, none⟩ (.int .i64 uk)).setCell ⟨w2.heap.size, 1, none⟩ (.int .i64 un)).setCell ⟨w2.heap.size, 2, none⟩ (.string us)).setCell ⟨w2.heap.size, 3, none⟩ (.slice A4 ul.length (capF ul.length c4)) = V7 at *
  have HWH := Lib.hid (whole_any f w2.heap.size (w.heap.size + 1) _ _ q A4 c4 B bc xs V7 HZ7 HPW.out HFU2.out.1)
  have hs7 := HZ7.box.lt
  clear Z7 HZ7 m0 m1 m2 m3 n0 n1 n2 n3 u0 u1 u2 u3
  obtain ⟨TT, hTT⟩ : ∃ TT, TT = plugE (Te.node uk un us ul) q.reverse := ⟨_, rfl⟩
  rw [← hTT] at HWH HFU2 HE2
  clear hTT HPW
  obtain ⟨vk, vn, vs, vl⟩ := TT
  go_wp2_with fail
  refine HWH.out.mono ?_
  rintro e w5 ⟨A5, c5, rfl, hT5, hb5⟩
  simp only [ev, Te.kind, Te.n, Te.name, Te.parts]
  have HC := Lib.hid (copied_any (.node vk vn vs vl) A5 c5 w5 hT5 HFU2.out.1 HFU2.out.2.1 HFU2.out.2.2)
  simp only [ev, Te.kind, Te.n, Te.name, Te.parts] at HC
  have lz8 := lz7.below hb5 (by omega)
  have hb8 := hb7.trans (hb5.mono (by omega))
  clear hT5 hb5 hb7 lz7 HWH HFU2
  go_wp2_with fail
  refine HC.out.mono ?_
  rintro e w6 ⟨A6, c6, rfl, hT6, hb6⟩
  simp only [ev, Te.kind, Te.n, Te.name, Te.parts]
  have lz9 := lz8.below hb6 lz8.lt
  have HW := Lib.hid (hb8.trans (hb6.mono hb8.size))
  obtain ⟨⟨x0, x1, x2, x3⟩, g0, g1, g2, g3⟩ := lz9.four
  have HT6 := Lib.hid hT6
  clear hT6 hb6 HC
  go_wp2_with fail
  refine bodyPost_ret (res_term2 (p := 2) (q := 3) Tryz.results12 rfl (lz9.all _ _ _ _)) rfl ?_
  rw [HE2.out]
  exact gives_allS HT6.out (by omega) lz8.lt HW.out _ _ _ _
end Lx
end Go.Proofs.YtiocmiikghcoaaaGreatDoor
namespace Go.Proofs.YtiocmiikghcoaaaGreatDoor
open Go.RowKit
namespace Lx
theorem may_free {t : Te} {f : Int} {a : Bool} (h : mayQ t f a = true) : 0 ≤ f := by
 obtain ⟨k, n, s, l⟩ := t
 rw [mayQ, Bool.and_eq_true] at h
 simpa using h.1
theorem may_inst {t : Te} {l : List Te} {f : Int} (hf : 0 ≤ f) (h : mayQ t (f + l.length) false = true) (hx : ∀ x ∈ l, mayQ x f false = true) : mayQ (instE t l) f false = true := by
 have := may_ch (F := instF l) (p := 0) (f := f + l.length) (f' := f) hf (fun n s b hb h => by
  have hq := head_var h
  have hs : s.toList.isEmpty = true := by simp only [headR] at h; simp at h; exact by simpa using h.1
  have hv : ∀ m : Int, 0 ≤ m → m < f + b → mayQ (.node 1 m s []) (f + b) false = true := fun m h0 h1 => by
   rw [mayQ, mayQL]
   simp [headR, hs]
   omega
  rw [instF]
  split
  ·rename_i hc
   have hi : l.length - 1 - (n - (0 + b)).toNat < l.length := by omega
   have hm : lastE l (n - (0 + b)).toNat ∈ l := by
    rw [lastE, List.getD_eq_getElem?_getD, List.getElem?_eq_getElem hi]
    exact List.getElem_mem hi
   have := may_up hf hb (hx _ hm)
   simpa using this
  ·split
   ·exact hv _ (by omega) (by omega)
   ·exact hv _ (by omega) (by omega)) t 0 false (by omega) (by rw [Int.add_zero]; exact h)
 simpa [instE] using this
theorem may_fail {f : Int} (h : 0 ≤ f) : mayQ failE f false = true := by
 rw [failE, mayQ, mayQL]
 simp [headR, h]
theorem may_num {f : Int} (h : 0 ≤ f) (n : Int) : mayQ (numE n) f false = true := by
 rw [numE, mayQ, mayQL]
 simp [headR, h]
theorem con_truth : conW ⟨#[84, 114, 117, 101]⟩ = true ∧ conW ⟨#[70, 97, 108, 115, 101]⟩ = true := by
 constructor <;> kernel_rfl
theorem may_truth {f : Int} (h : 0 ≤ f) (b : Bool) : mayQ (truthE b) f false = true := by
 cases b
 ·show mayQ (.node 4 0 ⟨#[70, 97, 108, 115, 101]⟩ []) f false = true
  rw [mayQ, mayQL]
  simp [headR, h, con_truth.2]
 ·show mayQ (.node 4 0 ⟨#[84, 114, 117, 101]⟩ []) f false = true
  rw [mayQ, mayQL]
  simp [headR, h, con_truth.1]
theorem may_op {f : Int} (h : 0 ≤ f) (s : ByteArray) (a b : Int) : mayQ (opE s a b) f false = true := by
 unfold opE
 repeat' split
 all_goals first | exact may_num h _ | exact may_truth h _
theorem may_prt {k n : Int} {s : ByteArray} {l : List Te} {f : Int} {a : Bool} (h : mayQ (.node k n s l) f a = true) (i : Nat) (hi : i < l.length) : mayQ (prt l i) (f + moreE k n) (decide (k = 5) && decide (0 < i)) = true := by
 have := may_at k [] l _ i hi (may_node h).2
 rw [prt, List.getD_eq_getElem?_getD, List.getElem?_eq_getElem hi]
 simpa using this
theorem may_pick {s : Te} {f : Int} (hf : 0 ≤ f) (hs : ∀ x ∈ s.parts, mayQ x f false = true) : ∀ l : List Te, (∀ a ∈ l, mayQ a f true = true) → mayQ (pickE s l).1 f false = true
 | [], _ => may_fail hf
 | a :: r, h => by
  rw [pickE]
  split
  ·rename_i hc
   have ha := h a (by simp)
   obtain ⟨k, n, sa, l⟩ := a
   have hl := (may_node ha).1
   simp [headR] at hl
   have h0 := may_prt ha 0 (by omega)
   have hn : n = (s.parts.length : Int) := hc.2
   have hm : moreE k n = (s.parts.length : Int) := by rw [hl.1, moreE, if_neg (by decide), if_pos rfl, hn]
   rw [hm, hl.1] at h0
   exact may_inst hf (by show mayQ (prt l 0) _ _ = true; simpa using h0) hs
  ·exact may_pick hf hs r fun x hx => h x (by simp [hx])
theorem may_apply {P R : Te} {f : Int} (p0 : mayQ P f false = true) (p1 : mayQ R f false = true) : mayQ (applyE P R).1 f false = true := by
 have hf := may_free p0
 obtain ⟨k2, n2, s2, l2⟩ := P
 by_cases hk : k2 = 2
 ·have e : applyE (.node k2 n2 s2 l2) R = (putE (prt l2 0) 0 R, 1) := by rw [applyE]; exact if_pos hk
  have h3 := (may_len p0).1 hk
  have q0 := may_prt p0 0 (by omega)
  rw [hk] at q0
  simp [moreE] at q0
  rw [e]
  exact may_put hf (by omega) hf q0 p1
 ·have e : applyE (.node k2 n2 s2 l2) R = (failE, 4) := by rw [applyE]; exact if_neg hk
  rw [e]
  exact may_fail hf
theorem may_choose {P : Te} {l : List Te} {f : Int} (p0 : mayQ P f false = true) (h : ∀ a ∈ l, mayQ a f true = true) : mayQ (chooseE P l).1 f false = true := by
 have hf := may_free p0
 obtain ⟨k2, n2, s2, l2⟩ := P
 by_cases hk : k2 = 4
 ·have e : chooseE (.node k2 n2 s2 l2) l = pickE (.node k2 n2 s2 l2) l := by rw [chooseE]; exact if_pos hk
  rw [e]
  refine may_pick hf (fun x hx => ?_) l h
  obtain ⟨j, hj, rfl⟩ := List.getElem_of_mem hx
  have hj' : j < l2.length := hj
  have := may_prt p0 j hj'
  rw [hk, prt, List.getD_eq_getElem?_getD, List.getElem?_eq_getElem hj'] at this
  show mayQ (l2[j]'hj') f false = true
  simpa [moreE] using this
 ·have e : chooseE (.node k2 n2 s2 l2) l = (failE, 4) := by rw [chooseE]; exact if_neg hk
  rw [e]
  exact may_fail hf
theorem may_reckon {P R : Te} {s : ByteArray} {f : Int} (hf : 0 ≤ f) : mayQ (reckonE s P R).1 f false = true := by
 unfold reckonE
 split
 ·exact may_op hf _ _ _
 ·exact may_fail hf
theorem act_may {t : Te} {f : Int} (h : mayQ t f false = true) : mayQ (actE t).1 f false = true := by
 have hf := may_free h
 obtain ⟨k, n, s, l⟩ := t
 have hl := may_len h
 by_cases h3 : k = 3
 ·have e : actE (.node k n s l) = applyE (prt l 0) (prt l 1) := by rw [actE]; exact if_pos h3
  have h2 := hl.2.1 (.inl h3)
  have p0 := may_prt h 0 (by omega)
  have p1 := may_prt h 1 (by omega)
  rw [h3] at p0 p1
  rw [e]
  exact may_apply (by simpa [moreE] using p0) (by simpa [moreE] using p1)
 ·by_cases h5 : k = 5
  ·have e : actE (.node k n s l) = chooseE (prt l 0) (l.drop 1) := by rw [actE]; exact (if_neg h3).trans (if_pos h5)
   have h2 := hl.2.2.1 h5
   have p0 := may_prt h 0 (by omega)
   rw [h5] at p0
   rw [e]
   refine may_choose (by simpa [moreE] using p0) fun x hx => ?_
   obtain ⟨j, hj, rfl⟩ := List.getElem_of_mem hx
   rw [List.length_drop] at hj
   have hj' : 1 + j < l.length := by omega
   have := may_prt h (1 + j) hj'
   rw [h5, prt, List.getD_eq_getElem?_getD, List.getElem?_eq_getElem hj'] at this
   rw [List.getElem_drop]
   have h1 : decide (0 < 1 + j) = true := by simp; omega
   rw [h1] at this
   simpa [moreE] using this
  ·by_cases h8 : k = 8
   ·have e : actE (.node k n s l) = reckonE s (prt l 0) (prt l 1) := by rw [actE]; exact (if_neg h3).trans ((if_neg h5).trans (if_pos h8))
    rw [e]
    exact may_reckon hf
   ·have e : actE (.node k n s l) = (.node k n s l, 0) := by rw [actE]; exact (if_neg h3).trans ((if_neg h5).trans (if_neg h8))
    rw [e]
    exact h
theorem step_mayF : ∀ (d : Nat) (t : Te) (f : Int), mayQ t f false = true → mayQ (stepF d t).1 f false = true
 | 0, _, _, h => h
 | d + 1, t, f, h => by
  rw [stepF]
  split
  ·rename_i i hi
   exact may_setE h hi (step_mayF d _ f (may_wait h hi))
  ·exact act_may h
theorem act_closed {t : Te} (h : mayQ t 0 false = true) (hv : valK t.kind = false) : t.kind = 3 ∨ t.kind = 5 ∨ t.kind = 8 := by
 obtain ⟨k, n, s, l⟩ := t
 have h1 := (may_node h).1
 by_cases e1 : k = 1
 ·subst e1
  have := head_var h1
  omega
 ·show k = 3 ∨ k = 5 ∨ k = 8
  have hv' : valK k = false := hv
  unfold headR at h1
  rw [if_neg (by decide), if_neg e1] at h1
  by_cases e2 : k = 2
  ·subst e2; exact absurd hv' (by decide)
  ·rw [if_neg e2] at h1
   by_cases e3 : k = 3
   ·exact .inl e3
   ·rw [if_neg e3] at h1
    by_cases e4 : k = 4
    ·subst e4; exact absurd hv' (by decide)
    ·rw [if_neg e4] at h1
     by_cases e5 : k = 5
     ·exact .inr (.inl e5)
     ·rw [if_neg e5] at h1
      by_cases e7 : k = 7
      ·subst e7; exact absurd hv' (by decide)
      ·rw [if_neg e7] at h1
       by_cases e8 : k = 8
       ·exact .inr (.inr e8)
       ·rw [if_neg e8] at h1
        by_cases e9 : k = 9
        ·subst e9; exact absurd hv' (by decide)
        ·rw [if_neg e9] at h1
         cases h1
theorem step_may {t : Te} {f : Int} (h : mayQ t f false = true) : mayQ (stepE t).1 f false = true := step_mayF _ t f h
theorem sizeE_one (t : Te) : 1 ≤ sizeE t := by obtain ⟨k, n, s, l⟩ := t; rw [sizeE]; omega
mutual
theorem depth_size : ∀ t : Te, depthE t ≤ sizeE t
 | .node k n s l => by
  have := depth_sizeL l
  rw [depthE, sizeE]
  omega
theorem depth_sizeL : ∀ l : List Te, depthEL l ≤ sizeEL l
 | [] => by simp [depthEL, sizeEL]
 | t :: r => by
  have h1 := depth_size t
  have h2 := depth_sizeL r
  rw [depthEL, sizeEL]
  omega
end
mutual
theorem size_ch (F : Int → ByteArray → Int → Te) (M : Nat) (hM : 1 ≤ M) (hF : ∀ n s b, sizeE (F n s b) ≤ M) : ∀ (t : Te) (b : Int), sizeE (chE F t b) ≤ sizeE t * M
 | .node k n s l, b => by
  rw [chE]
  split
  ·rw [sizeE]
   have := hF n s b
   have h1 : 1 * M ≤ (sizeEL l + 1) * M := Nat.mul_le_mul_right M (by omega)
   omega
  ·have := size_chL F M hM hF l (b + moreE k n)
   rw [sizeE, sizeE, Nat.add_mul]
   omega
theorem size_chL (F : Int → ByteArray → Int → Te) (M : Nat) (hM : 1 ≤ M) (hF : ∀ n s b, sizeE (F n s b) ≤ M) : ∀ (l : List Te) (b : Int), sizeEL (chEL F l b) ≤ sizeEL l * M
 | [], b => by rw [chEL, sizeEL]; omega
 | t :: r, b => by
  have h1 := size_ch F M hM hF t b
  have h2 := size_chL F M hM hF r b
  rw [chEL, sizeEL, sizeEL, Nat.add_mul]
  omega
end
mutual
theorem depth_ch (F : Int → ByteArray → Int → Te) (M : Nat) (hF : ∀ n s b, depthE (F n s b) ≤ M) : ∀ (t : Te) (b : Int), depthE (chE F t b) ≤ depthE t + M
 | .node k n s l, b => by
  rw [chE]
  split
  ·have := hF n s b
   omega
  ·have := depth_chL F M hF l (b + moreE k n)
   rw [depthE, depthE]
   omega
theorem depth_chL (F : Int → ByteArray → Int → Te) (M : Nat) (hF : ∀ n s b, depthE (F n s b) ≤ M) : ∀ (l : List Te) (b : Int), depthEL (chEL F l b) ≤ depthEL l + M
 | [], b => by rw [chEL, depthEL]; omega
 | t :: r, b => by
  have h1 := depth_ch F M hF t b
  have h2 := depth_chL F M hF r b
  rw [chEL, depthEL, depthEL]
  omega
end
theorem var_size (n : Int) (s : ByteArray) : sizeE (.node 1 n s []) = 1 ∧ depthE (.node 1 n s []) = 1 := by simp [sizeE, sizeEL, depthE, depthEL]
theorem up_sizeZ (t : Te) (u p : Int) : sizeE (upE t u p) ≤ sizeE t := by
 have := size_ch (upF u) 1 (by omega) (fun n s b => by rw [upF, (var_size _ _).1]; omega) t p
 rw [Nat.mul_one] at this
 exact this
mutual
theorem up_depth (u : Int) : ∀ (t : Te) (b : Int), depthE (chE (upF u) t b) ≤ depthE t
 | .node k n s l, b => by
  rw [chE]
  split
  ·rw [upF, (var_size _ _).2, depthE]; omega
  ·have := up_depthL u l (b + moreE k n)
   rw [depthE, depthE]
   omega
theorem up_depthL (u : Int) : ∀ (l : List Te) (b : Int), depthEL (chEL (upF u) l b) ≤ depthEL l
 | [], b => by rw [chEL]; exact Nat.le_refl _
 | t :: r, b => by
  have h1 := up_depth u t b
  have h2 := up_depthL u r b
  rw [chEL, depthEL, depthEL]
  omega
end
theorem put_sizeZ (t x : Te) (k : Int) : sizeE (putE t k x) ≤ sizeE t * sizeE x := by
 refine size_ch (putF k x) (sizeE x) (sizeE_one x) (fun n s b => ?_) t 0
 rw [putF]
 split
 ·exact up_sizeZ x b 0
 ·rw [(var_size _ _).1]; exact sizeE_one x
theorem put_depthZ (t x : Te) (k : Int) : depthE (putE t k x) ≤ depthE t + depthE x := by
 refine depth_ch (putF k x) (depthE x) (fun n s b => ?_) t 0
 rw [putF]
 split
 ·exact up_depth b x 0
 ·rw [(var_size _ _).2]; exact depthE_pos x
theorem last_mem (l : List Te) (i : Nat) : lastE l i ∈ l ∨ lastE l i = .node 0 0 ⟨#[]⟩ [] := by
 rw [lastE, List.getD_eq_getElem?_getD]
 by_cases h : l.length - 1 - i < l.length
 ·rw [List.getElem?_eq_getElem h]
  exact .inl (List.getElem_mem h)
 ·rw [List.getElem?_eq_none (by omega)]
  exact .inr rfl
theorem inst_sizeZ (t : Te) (l : List Te) : sizeE (instE t l) ≤ sizeE t * (sizeEL l + 1) := by
 refine size_ch (instF l) (sizeEL l + 1) (by omega) (fun n s b => ?_) t 0
 rw [instF]
 split
 ·have h1 := up_sizeZ (lastE l (n - b).toNat) b 0
  rcases last_mem l (n - b).toNat with h | h
  ·have := sizeEL_mem l _ h
   omega
  ·rw [h] at h1 ⊢
   have : sizeE (.node 0 0 ⟨#[]⟩ []) = 1 := by simp [sizeE, sizeEL]
   omega
 ·rw [(var_size _ _).1]; omega
theorem inst_depthZ (t : Te) (l : List Te) : depthE (instE t l) ≤ depthE t + (depthEL l + 1) := by
 refine depth_ch (instF l) (depthEL l + 1) (fun n s b => ?_) t 0
 rw [instF]
 split
 ·have h1 := up_depth b (lastE l (n - b).toNat) 0
  have h1' : depthE (upE (lastE l (n - b).toNat) b 0) ≤ depthE (lastE l (n - b).toNat) := h1
  rcases last_mem l (n - b).toNat with h | h
  ·have := depthEL_mem l _ h
   omega
  ·rw [h] at h1' ⊢
   have : depthE (.node 0 0 ⟨#[]⟩ []) = 1 := by simp [depthE, depthEL]
   omega
 ·rw [(var_size _ _).2]; omega
def InE (S D : Nat) (t : Te) : Prop := sizeE t ≤ S ∧ depthE t ≤ D
theorem in_leaf {k n : Int} {s : ByteArray} {S D : Nat} (h1 : 1 ≤ S) (h2 : 1 ≤ D) : InE S D (.node k n s []) := by simp [InE, sizeE, sizeEL, depthE, depthEL]; omega
theorem prt_in (l : List Te) (i : Nat) (S D : Nat) (h1 : sizeEL l + 1 ≤ S) (h2 : depthEL l + 1 ≤ D) : InE S D (prt l i) := by
 by_cases h : i < l.length
 ·rw [prt, List.getD_eq_getElem?_getD, List.getElem?_eq_getElem h]
  have h3 := sizeEL_mem l _ (List.getElem_mem h)
  have h4 := depthEL_mem l _ (List.getElem_mem h)
  exact ⟨by show sizeE (l[i]'h) ≤ S; omega, by show depthE (l[i]'h) ≤ D; omega⟩
 ·rw [prt, List.getD_eq_getElem?_getD, List.getElem?_eq_none (by omega)]
  exact in_leaf (by omega) (by omega)
theorem prt_self (t : Te) (i : Nat) : InE (sizeE t) (depthE t) (prt t.parts i) := by
 obtain ⟨k, n, s, l⟩ := t
 rw [sizeE, depthE]
 exact prt_in l i _ _ (Nat.le_refl _) (Nat.le_refl _)
theorem mul_in {a b S : Nat} (h1 : a ≤ S) (h2 : b ≤ S) : a * b ≤ S * S := Nat.mul_le_mul h1 h2
theorem one_in {S : Nat} (h : 1 ≤ S) : 1 ≤ S * S := Nat.mul_le_mul h h
theorem pick_in (s : Te) (S D : Nat) (hs : InE S D s) : ∀ l : List Te, (∀ a ∈ l, InE S D a) → InE (S * S) (D + D) (pickE s l).1
 | [], _ => in_leaf (one_in (Nat.le_trans (sizeE_one s) hs.1)) (by have := depthE_pos s; have := hs.2; omega)
 | a :: r, h => by
  rw [pickE]
  split
  ·have ha := h a (by simp)
   have hp := prt_self a 0
   have h1 := inst_sizeZ (prt a.parts 0) s.parts
   have h2 := inst_depthZ (prt a.parts 0) s.parts
   have e1 : sizeEL s.parts + 1 = sizeE s := by obtain ⟨k, n, x, l⟩ := s; rw [sizeE]; rfl
   have e2 : depthEL s.parts + 1 = depthE s := by obtain ⟨k, n, x, l⟩ := s; rw [depthE]; rfl
   rw [e1] at h1
   rw [e2] at h2
   exact ⟨Nat.le_trans h1 (mul_in (Nat.le_trans hp.1 ha.1) hs.1), Nat.le_trans h2 (Nat.add_le_add (Nat.le_trans hp.2 ha.2) hs.2)⟩
  ·exact pick_in s S D hs r fun x hx => h x (by simp [hx])
theorem op_in (s : ByteArray) (a b : Int) {S D : Nat} (h1 : 1 ≤ S) (h2 : 1 ≤ D) : InE S D (opE s a b) := by
 unfold opE
 have ht : ∀ b, InE S D (truthE b) := fun b => by cases b <;> exact in_leaf h1 h2
 repeat' split
 all_goals first | exact in_leaf h1 h2 | exact ht _
theorem act_in (t : Te) : InE (sizeE t * sizeE t) (depthE t + depthE t) (actE t).1 := by
 have hs := sizeE_one t
 have hd := depthE_pos t
 have p0 := prt_self t 0
 have p1 := prt_self t 1
 have hl : InE (sizeE t * sizeE t) (depthE t + depthE t) failE := in_leaf (one_in hs) (by omega)
 unfold actE
 split
 ·unfold applyE
  split
  ·have q0 := prt_self (prt t.parts 0) 0
   exact ⟨Nat.le_trans (put_sizeZ _ _ _) (mul_in (Nat.le_trans q0.1 p0.1) p1.1), Nat.le_trans (put_depthZ _ _ _) (Nat.add_le_add (Nat.le_trans q0.2 p0.2) p1.2)⟩
  ·exact hl
 ·split
  ·unfold chooseE
   split
   ·refine pick_in _ _ _ p0 _ fun a ha => ?_
    have hm : a ∈ t.parts := List.mem_of_mem_drop ha
    obtain ⟨k, n, s, l⟩ := t
    have h3 := sizeEL_mem l _ hm
    have h4 := depthEL_mem l _ hm
    rw [sizeE, depthE]
    exact ⟨by omega, by omega⟩
   ·exact hl
  ·split
   ·unfold reckonE
    split
    ·exact op_in _ _ _ (one_in hs) (by omega)
    ·exact hl
   ·exact ⟨by have := Nat.mul_le_mul_left (sizeE t) hs; rw [Nat.mul_one] at this; exact this, by show depthE t ≤ _; omega⟩
mutual
theorem may_tame : ∀ (t : Te) (f : Int) (a : Bool) (K : Int), mayQ t f a = true → f + 8 * (depthE t : Int) ≤ K → tameE K 8 t
 | .node k n s l, f, a, K, h, hK => by
  have h1 := may_node h
  have hf := may_free h
  rw [depthE] at hK
  have h6 := (head_facts h1.1).1
  have hm : 0 ≤ moreE k n ∧ moreE k n ≤ 8 := by
   unfold moreE
   split
   ·omega
   ·split
    ·rename_i h9; exact h6 h9
    ·omega
  rw [tameE]
  refine ⟨fun hk => ?_, fun hk => ?_, may_tameL l k [] (f + moreE k n) K h1.2 (by omega)⟩
  ·subst hk
   have := head_var h1.1
   exact ⟨by omega, by omega, List.eq_nil_of_length_eq_zero this.2.2.1⟩
  ·have := h6 hk
   omega
theorem may_tameL : ∀ (l : List Te) (k : Int) (met : List Te) (f K : Int), mayQL k met l f = true → f + 8 * (depthEL l : Int) ≤ K → tameEL K 8 l
 | [], _, _, _, _, _, _ => by rw [tameEL]; trivial
 | t :: r, k, met, f, K, h, hK => by
  rw [mayQL, Bool.and_eq_true, Bool.and_eq_true] at h
  rw [depthEL] at hK
  rw [tameEL]
  exact ⟨may_tame t f _ K h.1 (by omega), may_tameL r k _ f K h.2.2 (by omega)⟩
end
theorem head_same (k n : Int) (s : ByteArray) (m : Nat) (f b : Int) : headE k n s.data.toList m f b = headR k n s m (f + b) (decide (k = 6)) := by
 have hs : (s.data.toList == []) = s.toList.isEmpty := (strE_empty s).symm
 have hc : conV s.data.toList = conW s := by rw [conW, kindV, if_neg (by decide)]
 have hn : decide (n - b < f) = decide (n < f + b) := by
  by_cases h : n < f + b
  ·rw [decide_eq_true h, decide_eq_true (by omega)]
  ·rw [decide_eq_false h, decide_eq_false (by omega)]
 unfold headE headR
 rw [hs, hc, hn]
 by_cases h6 : k = 6
 ·subst h6
  simp
 ·rw [decide_eq_false h6]
  simp only [if_neg h6, Bool.false_eq_true, if_false]
  repeat' split
  all_goals first
   | rfl
   | (cases s.toList.isEmpty <;> cases decide (0 ≤ n) <;> cases decide (n < f + b) <;> cases decide (m = 0) <;> rfl)
   | (cases s.toList.isEmpty <;> cases decide (n = 0) <;> rfl)
theorem may_alt {t : Te} {f : Int} {a : Bool} (h : mayQ t f a = true) : a = decide (t.kind = 6) := by
 obtain ⟨k, n, s, l⟩ := t
 have h1 := (may_node h).1
 cases a with
 | true => simp [headR] at h1; show true = decide (k = 6); rw [decide_eq_true h1.1]
 | false =>
  by_cases h6 : k = 6
  ·subst h6; simp [headR] at h1
  ·show false = decide (k = 6); rw [decide_eq_false h6]
theorem any_dup (t : Te) : ∀ met : List Te, (met.any fun u => decide (t.name = u.name)) = dupAt met t.name
 | [] => rfl
 | a :: r => by
  have := any_dup t r
  unfold dupAt at this ⊢
  rw [List.any_cons, List.any_cons, this]
  by_cases h : a.name = t.name
  ·rw [decide_eq_true h, decide_eq_true h.symm]
  ·rw [decide_eq_false h, decide_eq_false (fun e => h e.symm)]
def restU (met l : List Te) : Bool := match met with
 | [] => unlikeF [] (l.drop 1)
 | _ :: q => unlikeF q l
theorem restU_cons (met : List Te) (t : Te) (r : List Te) : restU met (t :: r) = (!dupAt (met.drop 1) t.name && restU (met ++ [t]) r) := by
 cases met with
 | nil => simp [restU, dupAt]
 | cons a q =>
  show unlikeF q (t :: r) = _
  rw [unlikeF, any_dup]
  rfl
theorem standE_eq (k : Int) (i : Nat) (p : Int) : standsE k i p = ((decide (k = 5) && decide (0 < i)) == decide (p = 6)) := by
 unfold standsE
 by_cases h1 : k = 5 <;> by_cases h2 : 0 < i <;> simp [h1, h2]
mutual
theorem may_same : ∀ (t : Te) (f b : Int), 0 ≤ f + b → mayE t f b = mayQ t (f + b) (decide (t.kind = 6))
 | .node k n s l, f, b, hfb => by
  rw [mayE, mayQ, head_same, decide_eq_true hfb, Bool.true_and]
  show _ = (headR k n s l.length (f + b) (decide (k = 6)) && mayQL k [] l (f + b + moreE k n))
  cases hh : headR k n s l.length (f + b) (decide (k = 6)) with
  | false => rfl
  | true =>
   have hm : 0 ≤ moreE k n := by
    have := (head_facts hh).1
    unfold moreE
    split
    ·omega
    ·split
     ·rename_i h6; exact (this h6).1
     ·omega
   have := may_sameL l k [] f (b + moreE k n) (by omega)
   rw [Int.add_assoc, this]
   rfl
theorem may_sameL : ∀ (l : List Te) (k : Int) (met : List Te) (f b : Int), 0 ≤ f + b → mayQL k met l (f + b) = (mayEL k met.length l f b && (!(decide (k = 5)) || restU met l))
 | [], k, met, f, b, _ => by
  rw [mayQL, mayEL, Bool.true_and]
  cases met with
  | nil => cases decide (k = 5) <;> rfl
  | cons a q => cases decide (k = 5) <;> (simp [restU, unlikeF])
 | t :: r, k, met, f, b, hfb => by
  have h1 := may_same t f b hfb
  have h2 := may_sameL r k (met ++ [t]) f b hfb
  rw [List.length_append, List.length_singleton] at h2
  rw [mayQL, mayEL, h2, restU_cons, standE_eq, h1]
  obtain ⟨al, hal⟩ : ∃ al, al = (decide (k = 5) && decide (0 < met.length)) := ⟨_, rfl⟩
  rw [← hal]
  have h3 : mayQ t (f + b) al = ((al == decide (t.kind = 6)) && mayQ t (f + b) (decide (t.kind = 6))) := by
   by_cases e : al = decide (t.kind = 6)
   ·rw [e]; simp
   ·have e1 : (al == decide (t.kind = 6)) = false := by simpa using e
    rw [e1, Bool.false_and]
    cases hq : mayQ t (f + b) al with
    | false => rfl
    | true => exact absurd (may_alt hq) e
  rw [h3]
  cases (al == decide (t.kind = 6)) <;> cases mayQ t (f + b) (decide (t.kind = 6)) <;> cases decide (k = 5) <;> cases dupAt (met.drop 1) t.name <;> cases mayEL k (met.length + 1) r f b <;> cases restU (met ++ [t]) r <;> rfl
end
theorem may6_same (t : Te) (f : Int) : mayV6 t f = mayQ t f false := by
 unfold mayV6
 by_cases hf : 0 ≤ f
 ·rw [decide_eq_true hf, Bool.true_and]
  have h := may_same t f 0 (by omega)
  rw [Int.add_zero] at h
  by_cases h6 : t.kind = 6
  ·have e : decide (t.kind ≠ 6) = false := by simp [h6]
   rw [e, Bool.false_and]
   cases hq : mayQ t f false with
   | false => rfl
   | true => have := may_alt hq; rw [decide_eq_true h6] at this; cases this
  ·have e : decide (t.kind ≠ 6) = true := by simp [h6]
   rw [e, Bool.true_and, h, decide_eq_false h6]
 ·rw [decide_eq_false hf, Bool.false_and]
  obtain ⟨k, n, s, l⟩ := t
  rw [mayQ, decide_eq_false hf, Bool.false_and]
end Lx
end Go.Proofs.YtiocmiikghcoaaaGreatDoor
