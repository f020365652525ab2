/-
  Texts that lie one behind the other: MayEk MayEt.
-/
import Derived.Test.YteagbndjoklogaaDoorKG
namespace Go.Proofs.YteagbndjoklogaaDoor
open Go.RowKit
namespace Lx
set_option maxRecDepth 100000
theorem caught_new (w : World) (k n : Int) (s : ByteArray) (A : Option Addr) (m c : Nat) (free bound : Int) :
    Caught (((w.alloc (.cells #[.int .i64 k, .int .i64 n, .string s, .slice A m c] 24)).alloc (.cells #[.int .i64 free] 3)).alloc (.cells #[.int .i64 bound] 3)) w.heap.size k n s A m c free bound := by
  have h1 := Lies.new w 24 #[.int .i64 k, .int .i64 n, .string s, .slice A m c]
  have h2 := Lies.new (w.alloc (.cells #[.int .i64 k, .int .i64 n, .string s, .slice A m c] 24)) 3 #[.int .i64 free]
  have h3 := Lies.new ((w.alloc (.cells #[.int .i64 k, .int .i64 n, .string s, .slice A m c] 24)).alloc (.cells #[.int .i64 free] 3)) 3 #[.int .i64 bound]
  rw [show (w.alloc (.cells #[.int .i64 k, .int .i64 n, .string s, .slice A m c] 24)).heap.size = w.heap.size + 1 from by simp] at h2
  rw [show ((w.alloc (.cells #[.int .i64 k, .int .i64 n, .string s, .slice A m c] 24)).alloc (.cells #[.int .i64 free] 3)).heap.size = w.heap.size + 2 from by simp] at h3
  exact ⟨(h1.old _).old _, h2.old _, h3⟩
/-- What a call of the closure tells. -/
def CloC (w : World) (k n : Int) (s : ByteArray) (l : List Te) (A : Option Addr) (m c : Nat) (free bound : Int) : Prop :=
  ∀ (V : World) (least most more : Int), Caught V w.heap.size k n s A m c free bound → Below w.heap.size w V → 0 ≤ more → more ≤ 8 → more = moreE k n →
    Calls Tryd.prog 21 #[.int .i64 least, .int .i64 most, .int .i64 more, .pointer (some ⟨w.heap.size, 0, none⟩), .pointer (some ⟨w.heap.size + 1, 0, none⟩), .pointer (some ⟨w.heap.size + 1 + 1, 0, none⟩)] V
      fun e w' => e = .returned (.bool (partsE k l free (bound + more) least most)) ∧ Below V.heap.size V w'
theorem ELIn.shift : ∀ (l : List Te) {w : World} {X : Nat → Prop} {g o j : Nat}, ELIn w X l (some ⟨g, o, none⟩) (j + 1) → ELIn w X l (some ⟨g, o + 4, none⟩) j
  | [], w, X, g, o, j, _ => by rw [ELIn]; trivial
  | t :: r, w, X, g, o, j, h => by
    rw [ELIn] at h ⊢
    obtain ⟨⟨g', o', A', c, ⟨e, hX⟩, h0, h1, h2, h3, ht⟩, hr⟩ := h
    injection e with e
    injection e with e1 e2
    subst e1 e2
    have ho : o + 4 + j * 4 = o + (j + 1) * 4 := by omega
    exact ⟨⟨g, o + 4, A', c, ⟨rfl, hX⟩, by rw [ho]; exact h0, by rw [ho]; exact h1, by rw [ho]; exact h2, by rw [ho]; exact h3, ht⟩, ELIn.shift r hr⟩
theorem erest_unlike (l : List Te) (A : Option Addr) (m c : Nat) (W : World) (hm : m = l.length) (h2 : 2 ≤ m) (h9 : m ≤ 9) (hmc : m ≤ c) (hI : ELIn W Any l A 0) (g o : Nat) (hA : A = some ⟨g, o, none⟩) :
    Calls Tryd.prog 25 #[.slice (some ⟨g, o + 4, none⟩) (m - 1) (c - 1)] W fun e w' => e = .returned (.bool (unlikeE (l.drop 1))) ∧ Below W.heap.size W w' := by
  subst hA
  obtain ⟨t, r, rfl⟩ : ∃ t r, l = t :: r := by
    cases l with
    | nil => simp at hm; omega
    | cons t r => exact ⟨t, r, rfl⟩
  rw [ELIn] at hI
  exact eunlike_any r _ (m - 1) (c - 1) W (by rw [hm]; simp) (by omega) (by omega) (ELIn.shift r hI.2)
set_option maxHeartbeats 4000000 in
theorem emay_k1 (n : Int) (s : ByteArray) (l : List Te) (A : Option Addr) (m c : Nat) (free bound : Int) (w : World) (hm : m = l.length) (_hmc : m ≤ c) (_hml : m ≤ 140737488351232) (hg : Signs w) (hI : ELIn w Any l A 0) (_hn0 : -9223372036854775808 ≤ n) (_hn1 : n ≤ 9223372036854775807)
    (_hb0 : 0 ≤ bound) (_hb1 : bound ≤ 1000000) (HP : Hid (CloC w 1 n s l A m c free bound)) :
    Calls Tryd.prog 17 #[.agg #[.int .i64 1, .int .i64 n, .string s, .slice A m c], .int .i64 free, .int .i64 bound] w fun e w' => e = .returned (.bool (mayE (.node 1 n s l) free bound)) ∧ Below w.heap.size w w' := by
  have HE := Lib.hid (mayE_1 n s l free bound)
  have hb3 : Below w.heap.size w (((w.alloc (.cells #[.int .i64 1, .int .i64 n, .string s, .slice A m c] 24)).alloc (.cells #[.int .i64 free] 3)).alloc (.cells #[.int .i64 bound] 3)) := (((Below.refl _ w).alloc (Nat.le_refl _) _).alloc (by simp) _).alloc (by simp; omega) _
  have hC : Caught (((w.alloc (.cells #[.int .i64 1, .int .i64 n, .string s, .slice A m c] 24)).alloc (.cells #[.int .i64 free] 3)).alloc (.cells #[.int .i64 bound] 3)) w.heap.size 1 n s A m c free bound := caught_new w 1 n s A m c free bound
  have hs3 : (((w.alloc (.cells #[.int .i64 1, .int .i64 n, .string s, .slice A m c] 24)).alloc (.cells #[.int .i64 free] 3)).alloc (.cells #[.int .i64 bound] 3)).heap.size = w.heap.size + 3 := by simp
  obtain ⟨a0, a1, a2, a3⟩ := hC.t.four'
  have a4 := hC.f.cell 0
  have a5 := hC.b.cell 0
  simp at a4 a5
  have HB3 := Lib.hid hb3
  have HC := Lib.hid hC
  have HS3 := Lib.hid hs3
  have hg3 : Signs (((w.alloc (.cells #[.int .i64 1, .int .i64 n, .string s, .slice A m c] 24)).alloc (.cells #[.int .i64 free] 3)).alloc (.cells #[.int .i64 bound] 3)) := hg.below hb3 hg.pos
  have hmk : ∀ w0, (Instr.makeFunc (.func 21) #[] #[.pointer (some ⟨w.heap.size, 0, none⟩), .pointer (some ⟨w.heap.size + 1, 0, none⟩), .pointer (some ⟨w.heap.size + 1 + 1, 0, none⟩)]).run Tryd.prog w0 = .ok (.func (.func 21) #[] #[.pointer (some ⟨w.heap.size, 0, none⟩), .pointer (some ⟨w.heap.size + 1, 0, none⟩), .pointer (some ⟨w.heap.size + 1 + 1, 0, none⟩)]) w0 := fun _ => rfl
  have HI := Lib.hid hI
  have HM := Lib.hid hm
  rw [← data_list] at HE
  clear hb3 hC hs3 hI hm
  by_cases hs : s.toList = []
  · have hs2 : s.toList.isEmpty = true := by simp [hs]
    by_cases hn : 0 ≤ n
    · have hw : IntKind.i64.wrap (n - bound) = n - bound := IntWalk.i64_in _ (by omega)
      by_cases hf : n - bound < free
      · have HF := Lib.hid hf
        have HN := Lib.hid hn
        have HSS := Lib.hid hs
        go_enter Tryd.func17, Tryd.ntmps17
        go_wp2_with fail
        refine (HP.out _ 0 0 0 (HC.out) (HB3.out) (by omega) (by omega) (by first | rfl | simp [moreE])).mono ?_
        rintro e w9 ⟨rfl, hb9⟩
        go_wp2_with fail
        go_ret
        exact ⟨ret_bool (by rw [HE.out]; simp [HSS.out, HN.out, HF.out]), HB3.out.trans (hb9.mono (by rw [HS3.out]; omega))⟩
      · have hf2 : decide (n - bound < free) = false := by simpa using hf
        go_enter Tryd.func17, Tryd.ntmps17
        go_wp2_with fail
        go_ret
        exact ⟨ret_bool (by rw [HE.out]; rw [show decide (n - bound < free) = false from decide_eq_false (by omega)]; simp), HB3.out⟩
    · have hn2 : ¬ 0 ≤ n := hn
      go_enter Tryd.func17, Tryd.ntmps17
      go_wp2_with fail
      go_ret
      exact ⟨ret_bool (by rw [HE.out]; rw [show decide (0 ≤ n) = false from decide_eq_false (by omega)]; simp), HB3.out⟩
  · have hs2 : s.toList.isEmpty = false := by simpa using hs
    go_enter Tryd.func17, Tryd.ntmps17
    go_wp2_with fail
    go_ret
    exact ⟨ret_bool (by rw [HE.out]; simp [hs]), HB3.out⟩
set_option maxHeartbeats 4000000 in
theorem emay_k7 (n : Int) (s : ByteArray) (l : List Te) (A : Option Addr) (m c : Nat) (free bound : Int) (w : World) (hm : m = l.length) (_hmc : m ≤ c) (_hml : m ≤ 140737488351232) (hg : Signs w) (hI : ELIn w Any l A 0) (_hn0 : -9223372036854775808 ≤ n) (_hn1 : n ≤ 9223372036854775807)
    (_hb0 : 0 ≤ bound) (_hb1 : bound ≤ 1000000) (HP : Hid (CloC w 7 n s l A m c free bound)) :
    Calls Tryd.prog 17 #[.agg #[.int .i64 7, .int .i64 n, .string s, .slice A m c], .int .i64 free, .int .i64 bound] w fun e w' => e = .returned (.bool (mayE (.node 7 n s l) free bound)) ∧ Below w.heap.size w w' := by
  have HE := Lib.hid (mayE_7 n s l free bound)
  have hb3 : Below w.heap.size w (((w.alloc (.cells #[.int .i64 7, .int .i64 n, .string s, .slice A m c] 24)).alloc (.cells #[.int .i64 free] 3)).alloc (.cells #[.int .i64 bound] 3)) := (((Below.refl _ w).alloc (Nat.le_refl _) _).alloc (by simp) _).alloc (by simp; omega) _
  have hC : Caught (((w.alloc (.cells #[.int .i64 7, .int .i64 n, .string s, .slice A m c] 24)).alloc (.cells #[.int .i64 free] 3)).alloc (.cells #[.int .i64 bound] 3)) w.heap.size 7 n s A m c free bound := caught_new w 7 n s A m c free bound
  have hs3 : (((w.alloc (.cells #[.int .i64 7, .int .i64 n, .string s, .slice A m c] 24)).alloc (.cells #[.int .i64 free] 3)).alloc (.cells #[.int .i64 bound] 3)).heap.size = w.heap.size + 3 := by simp
  obtain ⟨a0, a1, a2, a3⟩ := hC.t.four'
  have a4 := hC.f.cell 0
  have a5 := hC.b.cell 0
  simp at a4 a5
  have HB3 := Lib.hid hb3
  have HC := Lib.hid hC
  have HS3 := Lib.hid hs3
  have hg3 : Signs (((w.alloc (.cells #[.int .i64 7, .int .i64 n, .string s, .slice A m c] 24)).alloc (.cells #[.int .i64 free] 3)).alloc (.cells #[.int .i64 bound] 3)) := hg.below hb3 hg.pos
  have hmk : ∀ w0, (Instr.makeFunc (.func 21) #[] #[.pointer (some ⟨w.heap.size, 0, none⟩), .pointer (some ⟨w.heap.size + 1, 0, none⟩), .pointer (some ⟨w.heap.size + 1 + 1, 0, none⟩)]).run Tryd.prog w0 = .ok (.func (.func 21) #[] #[.pointer (some ⟨w.heap.size, 0, none⟩), .pointer (some ⟨w.heap.size + 1, 0, none⟩), .pointer (some ⟨w.heap.size + 1 + 1, 0, none⟩)]) w0 := fun _ => rfl
  have HI := Lib.hid hI
  have HM := Lib.hid hm
  rw [← data_list] at HE
  clear hb3 hC hs3 hI hm
  by_cases hs : s.toList = []
  · have hs2 : s.toList.isEmpty = true := by simp [hs]
    have HSS := Lib.hid hs
    go_enter Tryd.func17, Tryd.ntmps17
    go_wp2_with fail
    refine (HP.out _ 0 0 0 (HC.out) (HB3.out) (by omega) (by omega) (by first | rfl | simp [moreE])).mono ?_
    rintro e w9 ⟨rfl, hb9⟩
    go_wp2_with fail
    go_ret
    exact ⟨ret_bool (by rw [HE.out]; simp [HSS.out]), HB3.out.trans (hb9.mono (by rw [HS3.out]; omega))⟩
  · have hs2 : s.toList.isEmpty = false := by simpa using hs
    go_enter Tryd.func17, Tryd.ntmps17
    go_wp2_with fail
    go_ret
    exact ⟨ret_bool (by rw [HE.out]; simp [hs]), HB3.out⟩
set_option maxHeartbeats 4000000 in
theorem emay_k2 (n : Int) (s : ByteArray) (l : List Te) (A : Option Addr) (m c : Nat) (free bound : Int) (w : World) (hm : m = l.length) (_hmc : m ≤ c) (_hml : m ≤ 140737488351232) (hg : Signs w) (hI : ELIn w Any l A 0) (_hn0 : -9223372036854775808 ≤ n) (_hn1 : n ≤ 9223372036854775807)
    (_hb0 : 0 ≤ bound) (_hb1 : bound ≤ 1000000) (HP : Hid (CloC w 2 n s l A m c free bound)) :
    Calls Tryd.prog 17 #[.agg #[.int .i64 2, .int .i64 n, .string s, .slice A m c], .int .i64 free, .int .i64 bound] w fun e w' => e = .returned (.bool (mayE (.node 2 n s l) free bound)) ∧ Below w.heap.size w w' := by
  have HE := Lib.hid (mayE_2 n s l free bound)
  have hb3 : Below w.heap.size w (((w.alloc (.cells #[.int .i64 2, .int .i64 n, .string s, .slice A m c] 24)).alloc (.cells #[.int .i64 free] 3)).alloc (.cells #[.int .i64 bound] 3)) := (((Below.refl _ w).alloc (Nat.le_refl _) _).alloc (by simp) _).alloc (by simp; omega) _
  have hC : Caught (((w.alloc (.cells #[.int .i64 2, .int .i64 n, .string s, .slice A m c] 24)).alloc (.cells #[.int .i64 free] 3)).alloc (.cells #[.int .i64 bound] 3)) w.heap.size 2 n s A m c free bound := caught_new w 2 n s A m c free bound
  have hs3 : (((w.alloc (.cells #[.int .i64 2, .int .i64 n, .string s, .slice A m c] 24)).alloc (.cells #[.int .i64 free] 3)).alloc (.cells #[.int .i64 bound] 3)).heap.size = w.heap.size + 3 := by simp
  obtain ⟨a0, a1, a2, a3⟩ := hC.t.four'
  have a4 := hC.f.cell 0
  have a5 := hC.b.cell 0
  simp at a4 a5
  have HB3 := Lib.hid hb3
  have HC := Lib.hid hC
  have HS3 := Lib.hid hs3
  have hg3 : Signs (((w.alloc (.cells #[.int .i64 2, .int .i64 n, .string s, .slice A m c] 24)).alloc (.cells #[.int .i64 free] 3)).alloc (.cells #[.int .i64 bound] 3)) := hg.below hb3 hg.pos
  have hmk : ∀ w0, (Instr.makeFunc (.func 21) #[] #[.pointer (some ⟨w.heap.size, 0, none⟩), .pointer (some ⟨w.heap.size + 1, 0, none⟩), .pointer (some ⟨w.heap.size + 1 + 1, 0, none⟩)]).run Tryd.prog w0 = .ok (.func (.func 21) #[] #[.pointer (some ⟨w.heap.size, 0, none⟩), .pointer (some ⟨w.heap.size + 1, 0, none⟩), .pointer (some ⟨w.heap.size + 1 + 1, 0, none⟩)]) w0 := fun _ => rfl
  have HI := Lib.hid hI
  have HM := Lib.hid hm
  rw [← data_list] at HE
  clear hb3 hC hs3 hI hm
  have hB := eblank_any 2 n s A m c (((w.alloc (.cells #[.int .i64 2, .int .i64 n, .string s, .slice A m c] 24)).alloc (.cells #[.int .i64 free] 3)).alloc (.cells #[.int .i64 bound] 3))
  rw [← data_list] at hB
  have HB := Lib.hid hB
  clear hB
  cases hq : blankE n s.toList
  · rw [hq] at HB HE
    clear hq
    go_enter Tryd.func17, Tryd.ntmps17
    go_wp2_with fail
    refine HB.out.mono ?_
    rintro e w4 ⟨rfl, hb4⟩
    go_wp2_with fail
    go_ret
    exact ⟨ret_bool (by rw [HE.out]; rfl), HB3.out.trans (hb4.mono (by rw [HS3.out]; omega))⟩
  · rw [hq] at HB HE
    clear hq
    go_enter Tryd.func17, Tryd.ntmps17
    go_wp2_with fail
    refine HB.out.mono ?_
    rintro e w4 ⟨rfl, hb4⟩
    have HC4 := Lib.hid (HC.out.below hb4)
    have HB4 := Lib.hid (HB3.out.trans (hb4.mono (by rw [HS3.out]; omega)))
    go_wp2_with fail
    refine (HP.out _ 1 1 1 (HC4.out) (HB4.out) (by omega) (by omega) (by first | rfl | simp [moreE])).mono ?_
    rintro e w9 ⟨rfl, hb9⟩
    go_wp2_with fail
    go_ret
    exact ⟨ret_bool (by rw [HE.out]; simp), HB4.out.trans (hb9.mono HB4.out.size)⟩
set_option maxHeartbeats 4000000 in
theorem emay_k3 (n : Int) (s : ByteArray) (l : List Te) (A : Option Addr) (m c : Nat) (free bound : Int) (w : World) (hm : m = l.length) (_hmc : m ≤ c) (_hml : m ≤ 140737488351232) (hg : Signs w) (hI : ELIn w Any l A 0) (_hn0 : -9223372036854775808 ≤ n) (_hn1 : n ≤ 9223372036854775807)
    (_hb0 : 0 ≤ bound) (_hb1 : bound ≤ 1000000) (HP : Hid (CloC w 3 n s l A m c free bound)) :
    Calls Tryd.prog 17 #[.agg #[.int .i64 3, .int .i64 n, .string s, .slice A m c], .int .i64 free, .int .i64 bound] w fun e w' => e = .returned (.bool (mayE (.node 3 n s l) free bound)) ∧ Below w.heap.size w w' := by
  have HE := Lib.hid (mayE_3 n s l free bound)
  have hb3 : Below w.heap.size w (((w.alloc (.cells #[.int .i64 3, .int .i64 n, .string s, .slice A m c] 24)).alloc (.cells #[.int .i64 free] 3)).alloc (.cells #[.int .i64 bound] 3)) := (((Below.refl _ w).alloc (Nat.le_refl _) _).alloc (by simp) _).alloc (by simp; omega) _
  have hC : Caught (((w.alloc (.cells #[.int .i64 3, .int .i64 n, .string s, .slice A m c] 24)).alloc (.cells #[.int .i64 free] 3)).alloc (.cells #[.int .i64 bound] 3)) w.heap.size 3 n s A m c free bound := caught_new w 3 n s A m c free bound
  have hs3 : (((w.alloc (.cells #[.int .i64 3, .int .i64 n, .string s, .slice A m c] 24)).alloc (.cells #[.int .i64 free] 3)).alloc (.cells #[.int .i64 bound] 3)).heap.size = w.heap.size + 3 := by simp
  obtain ⟨a0, a1, a2, a3⟩ := hC.t.four'
  have a4 := hC.f.cell 0
  have a5 := hC.b.cell 0
  simp at a4 a5
  have HB3 := Lib.hid hb3
  have HC := Lib.hid hC
  have HS3 := Lib.hid hs3
  have hg3 : Signs (((w.alloc (.cells #[.int .i64 3, .int .i64 n, .string s, .slice A m c] 24)).alloc (.cells #[.int .i64 free] 3)).alloc (.cells #[.int .i64 bound] 3)) := hg.below hb3 hg.pos
  have hmk : ∀ w0, (Instr.makeFunc (.func 21) #[] #[.pointer (some ⟨w.heap.size, 0, none⟩), .pointer (some ⟨w.heap.size + 1, 0, none⟩), .pointer (some ⟨w.heap.size + 1 + 1, 0, none⟩)]).run Tryd.prog w0 = .ok (.func (.func 21) #[] #[.pointer (some ⟨w.heap.size, 0, none⟩), .pointer (some ⟨w.heap.size + 1, 0, none⟩), .pointer (some ⟨w.heap.size + 1 + 1, 0, none⟩)]) w0 := fun _ => rfl
  have HI := Lib.hid hI
  have HM := Lib.hid hm
  rw [← data_list] at HE
  clear hb3 hC hs3 hI hm
  have hB := eblank_any 3 n s A m c (((w.alloc (.cells #[.int .i64 3, .int .i64 n, .string s, .slice A m c] 24)).alloc (.cells #[.int .i64 free] 3)).alloc (.cells #[.int .i64 bound] 3))
  rw [← data_list] at hB
  have HB := Lib.hid hB
  clear hB
  cases hq : blankE n s.toList
  · rw [hq] at HB HE
    clear hq
    go_enter Tryd.func17, Tryd.ntmps17
    go_wp2_with fail
    refine HB.out.mono ?_
    rintro e w4 ⟨rfl, hb4⟩
    go_wp2_with fail
    go_ret
    exact ⟨ret_bool (by rw [HE.out]; rfl), HB3.out.trans (hb4.mono (by rw [HS3.out]; omega))⟩
  · rw [hq] at HB HE
    clear hq
    go_enter Tryd.func17, Tryd.ntmps17
    go_wp2_with fail
    refine HB.out.mono ?_
    rintro e w4 ⟨rfl, hb4⟩
    have HC4 := Lib.hid (HC.out.below hb4)
    have HB4 := Lib.hid (HB3.out.trans (hb4.mono (by rw [HS3.out]; omega)))
    go_wp2_with fail
    refine (HP.out _ 2 2 0 (HC4.out) (HB4.out) (by omega) (by omega) (by first | rfl | simp [moreE])).mono ?_
    rintro e w9 ⟨rfl, hb9⟩
    go_wp2_with fail
    go_ret
    exact ⟨ret_bool (by rw [HE.out]; simp), HB4.out.trans (hb9.mono HB4.out.size)⟩
set_option maxHeartbeats 4000000 in
theorem emay_k9 (n : Int) (s : ByteArray) (l : List Te) (A : Option Addr) (m c : Nat) (free bound : Int) (w : World) (hm : m = l.length) (_hmc : m ≤ c) (_hml : m ≤ 140737488351232) (hg : Signs w) (hI : ELIn w Any l A 0) (_hn0 : -9223372036854775808 ≤ n) (_hn1 : n ≤ 9223372036854775807)
    (_hb0 : 0 ≤ bound) (_hb1 : bound ≤ 1000000) (HP : Hid (CloC w 9 n s l A m c free bound)) :
    Calls Tryd.prog 17 #[.agg #[.int .i64 9, .int .i64 n, .string s, .slice A m c], .int .i64 free, .int .i64 bound] w fun e w' => e = .returned (.bool (mayE (.node 9 n s l) free bound)) ∧ Below w.heap.size w w' := by
  have HE := Lib.hid (mayE_9 n s l free bound)
  have hb3 : Below w.heap.size w (((w.alloc (.cells #[.int .i64 9, .int .i64 n, .string s, .slice A m c] 24)).alloc (.cells #[.int .i64 free] 3)).alloc (.cells #[.int .i64 bound] 3)) := (((Below.refl _ w).alloc (Nat.le_refl _) _).alloc (by simp) _).alloc (by simp; omega) _
  have hC : Caught (((w.alloc (.cells #[.int .i64 9, .int .i64 n, .string s, .slice A m c] 24)).alloc (.cells #[.int .i64 free] 3)).alloc (.cells #[.int .i64 bound] 3)) w.heap.size 9 n s A m c free bound := caught_new w 9 n s A m c free bound
  have hs3 : (((w.alloc (.cells #[.int .i64 9, .int .i64 n, .string s, .slice A m c] 24)).alloc (.cells #[.int .i64 free] 3)).alloc (.cells #[.int .i64 bound] 3)).heap.size = w.heap.size + 3 := by simp
  obtain ⟨a0, a1, a2, a3⟩ := hC.t.four'
  have a4 := hC.f.cell 0
  have a5 := hC.b.cell 0
  simp at a4 a5
  have HB3 := Lib.hid hb3
  have HC := Lib.hid hC
  have HS3 := Lib.hid hs3
  have hg3 : Signs (((w.alloc (.cells #[.int .i64 9, .int .i64 n, .string s, .slice A m c] 24)).alloc (.cells #[.int .i64 free] 3)).alloc (.cells #[.int .i64 bound] 3)) := hg.below hb3 hg.pos
  have hmk : ∀ w0, (Instr.makeFunc (.func 21) #[] #[.pointer (some ⟨w.heap.size, 0, none⟩), .pointer (some ⟨w.heap.size + 1, 0, none⟩), .pointer (some ⟨w.heap.size + 1 + 1, 0, none⟩)]).run Tryd.prog w0 = .ok (.func (.func 21) #[] #[.pointer (some ⟨w.heap.size, 0, none⟩), .pointer (some ⟨w.heap.size + 1, 0, none⟩), .pointer (some ⟨w.heap.size + 1 + 1, 0, none⟩)]) w0 := fun _ => rfl
  have HI := Lib.hid hI
  have HM := Lib.hid hm
  rw [← data_list] at HE
  clear hb3 hC hs3 hI hm
  have hB := eblank_any 9 n s A m c (((w.alloc (.cells #[.int .i64 9, .int .i64 n, .string s, .slice A m c] 24)).alloc (.cells #[.int .i64 free] 3)).alloc (.cells #[.int .i64 bound] 3))
  rw [← data_list] at hB
  have HB := Lib.hid hB
  clear hB
  cases hq : blankE n s.toList
  · rw [hq] at HB HE
    clear hq
    go_enter Tryd.func17, Tryd.ntmps17
    go_wp2_with fail
    refine HB.out.mono ?_
    rintro e w4 ⟨rfl, hb4⟩
    go_wp2_with fail
    go_ret
    exact ⟨ret_bool (by rw [HE.out]; rfl), HB3.out.trans (hb4.mono (by rw [HS3.out]; omega))⟩
  · rw [hq] at HB HE
    clear hq
    go_enter Tryd.func17, Tryd.ntmps17
    go_wp2_with fail
    refine HB.out.mono ?_
    rintro e w4 ⟨rfl, hb4⟩
    have HC4 := Lib.hid (HC.out.below hb4)
    have HB4 := Lib.hid (HB3.out.trans (hb4.mono (by rw [HS3.out]; omega)))
    go_wp2_with fail
    refine (HP.out _ 0 0 0 (HC4.out) (HB4.out) (by omega) (by omega) (by first | rfl | simp [moreE])).mono ?_
    rintro e w9 ⟨rfl, hb9⟩
    go_wp2_with fail
    go_ret
    exact ⟨ret_bool (by rw [HE.out]; simp), HB4.out.trans (hb9.mono HB4.out.size)⟩
set_option maxHeartbeats 4000000 in
theorem emay_k4 (n : Int) (s : ByteArray) (l : List Te) (A : Option Addr) (m c : Nat) (free bound : Int) (w : World) (hm : m = l.length) (_hmc : m ≤ c) (_hml : m ≤ 140737488351232) (hg : Signs w) (hI : ELIn w Any l A 0) (_hn0 : -9223372036854775808 ≤ n) (_hn1 : n ≤ 9223372036854775807)
    (_hb0 : 0 ≤ bound) (_hb1 : bound ≤ 1000000) (HP : Hid (CloC w 4 n s l A m c free bound)) :
    Calls Tryd.prog 17 #[.agg #[.int .i64 4, .int .i64 n, .string s, .slice A m c], .int .i64 free, .int .i64 bound] w fun e w' => e = .returned (.bool (mayE (.node 4 n s l) free bound)) ∧ Below w.heap.size w w' := by
  have HE := Lib.hid (mayE_4 n s l free bound)
  have hb3 : Below w.heap.size w (((w.alloc (.cells #[.int .i64 4, .int .i64 n, .string s, .slice A m c] 24)).alloc (.cells #[.int .i64 free] 3)).alloc (.cells #[.int .i64 bound] 3)) := (((Below.refl _ w).alloc (Nat.le_refl _) _).alloc (by simp) _).alloc (by simp; omega) _
  have hC : Caught (((w.alloc (.cells #[.int .i64 4, .int .i64 n, .string s, .slice A m c] 24)).alloc (.cells #[.int .i64 free] 3)).alloc (.cells #[.int .i64 bound] 3)) w.heap.size 4 n s A m c free bound := caught_new w 4 n s A m c free bound
  have hs3 : (((w.alloc (.cells #[.int .i64 4, .int .i64 n, .string s, .slice A m c] 24)).alloc (.cells #[.int .i64 free] 3)).alloc (.cells #[.int .i64 bound] 3)).heap.size = w.heap.size + 3 := by simp
  obtain ⟨a0, a1, a2, a3⟩ := hC.t.four'
  have a4 := hC.f.cell 0
  have a5 := hC.b.cell 0
  simp at a4 a5
  have HB3 := Lib.hid hb3
  have HC := Lib.hid hC
  have HS3 := Lib.hid hs3
  have hg3 : Signs (((w.alloc (.cells #[.int .i64 4, .int .i64 n, .string s, .slice A m c] 24)).alloc (.cells #[.int .i64 free] 3)).alloc (.cells #[.int .i64 bound] 3)) := hg.below hb3 hg.pos
  have hmk : ∀ w0, (Instr.makeFunc (.func 21) #[] #[.pointer (some ⟨w.heap.size, 0, none⟩), .pointer (some ⟨w.heap.size + 1, 0, none⟩), .pointer (some ⟨w.heap.size + 1 + 1, 0, none⟩)]).run Tryd.prog w0 = .ok (.func (.func 21) #[] #[.pointer (some ⟨w.heap.size, 0, none⟩), .pointer (some ⟨w.heap.size + 1, 0, none⟩), .pointer (some ⟨w.heap.size + 1 + 1, 0, none⟩)]) w0 := fun _ => rfl
  have HI := Lib.hid hI
  have HM := Lib.hid hm
  rw [← data_list] at HE
  clear hb3 hC hs3 hI hm
  have hB := econ_any s (((w.alloc (.cells #[.int .i64 4, .int .i64 n, .string s, .slice A m c] 24)).alloc (.cells #[.int .i64 free] 3)).alloc (.cells #[.int .i64 bound] 3)) hg3
  rw [← data_list] at hB
  have HB := Lib.hid hB
  clear hB
  cases hq : conV s.toList
  · rw [hq] at HB HE
    clear hq
    go_enter Tryd.func17, Tryd.ntmps17
    go_wp2_with fail
    refine HB.out.mono ?_
    rintro e w4 ⟨rfl, hb4⟩
    have HC4 := Lib.hid (HC.out.below hb4)
    have HB4 := Lib.hid (HB3.out.trans (hb4.mono (by rw [HS3.out]; omega)))
    obtain ⟨z0, z1, z2, z3⟩ := HC4.out.t.four'
    go_wp2_with fail
    go_ret
    exact ⟨ret_bool (by rw [HE.out]; rfl), HB4.out⟩
  · rw [hq] at HB HE
    clear hq
    by_cases hn : n = 0
    · have e0 : (n == 0) = true := by simpa using hn
      have HHN := Lib.hid hn
      clear hn
      go_enter Tryd.func17, Tryd.ntmps17
      go_wp2_with fail
      refine HB.out.mono ?_
      rintro e w4 ⟨rfl, hb4⟩
      have HC4 := Lib.hid (HC.out.below hb4)
      have HB4 := Lib.hid (HB3.out.trans (hb4.mono (by rw [HS3.out]; omega)))
      obtain ⟨z0, z1, z2, z3⟩ := HC4.out.t.four'
      go_wp2_with fail
      refine (HP.out _ 0 8 0 (HC4.out) (HB4.out) (by omega) (by omega) (by first | rfl | simp [moreE])).mono ?_
      rintro e w9 ⟨rfl, hb9⟩
      go_wp2_with fail
      go_ret
      exact ⟨ret_bool (by rw [HE.out]; simp [HHN.out]), HB4.out.trans (hb9.mono HB4.out.size)⟩
    · have e0 : (n == 0) = false := by simpa using hn
      go_enter Tryd.func17, Tryd.ntmps17
      go_wp2_with fail
      refine HB.out.mono ?_
      rintro e w4 ⟨rfl, hb4⟩
      have HC4 := Lib.hid (HC.out.below hb4)
      have HB4 := Lib.hid (HB3.out.trans (hb4.mono (by rw [HS3.out]; omega)))
      obtain ⟨z0, z1, z2, z3⟩ := HC4.out.t.four'
      go_wp2_with fail
      go_ret
      exact ⟨ret_bool (by rw [HE.out]; rw [show decide (n = 0) = false from decide_eq_false (by omega)]; simp), HB4.out⟩
set_option maxHeartbeats 4000000 in
theorem emay_k8 (n : Int) (s : ByteArray) (l : List Te) (A : Option Addr) (m c : Nat) (free bound : Int) (w : World) (hm : m = l.length) (_hmc : m ≤ c) (_hml : m ≤ 140737488351232) (hg : Signs w) (hI : ELIn w Any l A 0) (_hn0 : -9223372036854775808 ≤ n) (_hn1 : n ≤ 9223372036854775807)
    (_hb0 : 0 ≤ bound) (_hb1 : bound ≤ 1000000) (HP : Hid (CloC w 8 n s l A m c free bound)) :
    Calls Tryd.prog 17 #[.agg #[.int .i64 8, .int .i64 n, .string s, .slice A m c], .int .i64 free, .int .i64 bound] w fun e w' => e = .returned (.bool (mayE (.node 8 n s l) free bound)) ∧ Below w.heap.size w w' := by
  have HE := Lib.hid (mayE_8 n s l free bound)
  have hb3 : Below w.heap.size w (((w.alloc (.cells #[.int .i64 8, .int .i64 n, .string s, .slice A m c] 24)).alloc (.cells #[.int .i64 free] 3)).alloc (.cells #[.int .i64 bound] 3)) := (((Below.refl _ w).alloc (Nat.le_refl _) _).alloc (by simp) _).alloc (by simp; omega) _
  have hC : Caught (((w.alloc (.cells #[.int .i64 8, .int .i64 n, .string s, .slice A m c] 24)).alloc (.cells #[.int .i64 free] 3)).alloc (.cells #[.int .i64 bound] 3)) w.heap.size 8 n s A m c free bound := caught_new w 8 n s A m c free bound
  have hs3 : (((w.alloc (.cells #[.int .i64 8, .int .i64 n, .string s, .slice A m c] 24)).alloc (.cells #[.int .i64 free] 3)).alloc (.cells #[.int .i64 bound] 3)).heap.size = w.heap.size + 3 := by simp
  obtain ⟨a0, a1, a2, a3⟩ := hC.t.four'
  have a4 := hC.f.cell 0
  have a5 := hC.b.cell 0
  simp at a4 a5
  have HB3 := Lib.hid hb3
  have HC := Lib.hid hC
  have HS3 := Lib.hid hs3
  have hg3 : Signs (((w.alloc (.cells #[.int .i64 8, .int .i64 n, .string s, .slice A m c] 24)).alloc (.cells #[.int .i64 free] 3)).alloc (.cells #[.int .i64 bound] 3)) := hg.below hb3 hg.pos
  have hmk : ∀ w0, (Instr.makeFunc (.func 21) #[] #[.pointer (some ⟨w.heap.size, 0, none⟩), .pointer (some ⟨w.heap.size + 1, 0, none⟩), .pointer (some ⟨w.heap.size + 1 + 1, 0, none⟩)]).run Tryd.prog w0 = .ok (.func (.func 21) #[] #[.pointer (some ⟨w.heap.size, 0, none⟩), .pointer (some ⟨w.heap.size + 1, 0, none⟩), .pointer (some ⟨w.heap.size + 1 + 1, 0, none⟩)]) w0 := fun _ => rfl
  have HI := Lib.hid hI
  have HM := Lib.hid hm
  rw [← data_list] at HE
  clear hb3 hC hs3 hI hm
  have hB := eoper_any s (((w.alloc (.cells #[.int .i64 8, .int .i64 n, .string s, .slice A m c] 24)).alloc (.cells #[.int .i64 free] 3)).alloc (.cells #[.int .i64 bound] 3))
  rw [← data_list] at hB
  have HB := Lib.hid hB
  clear hB
  cases hq : opV s.toList
  · rw [hq] at HB HE
    clear hq
    go_enter Tryd.func17, Tryd.ntmps17
    go_wp2_with fail
    refine HB.out.mono ?_
    rintro e w4 ⟨rfl, rfl⟩
    have HC4 := HC
    have HB4 := HB3
    go_wp2_with fail
    go_ret
    exact ⟨ret_bool (by rw [HE.out]; rfl), HB4.out⟩
  · rw [hq] at HB HE
    clear hq
    by_cases hn : n = 0
    · have e0 : (n == 0) = true := by simpa using hn
      have HHN := Lib.hid hn
      clear hn
      go_enter Tryd.func17, Tryd.ntmps17
      go_wp2_with fail
      refine HB.out.mono ?_
      rintro e w4 ⟨rfl, rfl⟩
      have HC4 := HC
      have HB4 := HB3
      go_wp2_with fail
      refine (HP.out _ 2 2 0 (HC4.out) (HB4.out) (by omega) (by omega) (by first | rfl | simp [moreE])).mono ?_
      rintro e w9 ⟨rfl, hb9⟩
      go_wp2_with fail
      go_ret
      exact ⟨ret_bool (by rw [HE.out]; simp [HHN.out]), HB4.out.trans (hb9.mono HB4.out.size)⟩
    · have e0 : (n == 0) = false := by simpa using hn
      go_enter Tryd.func17, Tryd.ntmps17
      go_wp2_with fail
      refine HB.out.mono ?_
      rintro e w4 ⟨rfl, rfl⟩
      have HC4 := HC
      have HB4 := HB3
      go_wp2_with fail
      go_ret
      exact ⟨ret_bool (by rw [HE.out]; rw [show decide (n = 0) = false from decide_eq_false (by omega)]; simp), HB4.out⟩
set_option maxHeartbeats 4000000 in
theorem emay_k6 (n : Int) (s : ByteArray) (l : List Te) (A : Option Addr) (m c : Nat) (free bound : Int) (w : World) (hm : m = l.length) (_hmc : m ≤ c) (_hml : m ≤ 140737488351232) (hg : Signs w) (hI : ELIn w Any l A 0) (_hn0 : -9223372036854775808 ≤ n) (_hn1 : n ≤ 9223372036854775807)
    (_hb0 : 0 ≤ bound) (_hb1 : bound ≤ 1000000) (HP : Hid (CloC w 6 n s l A m c free bound)) :
    Calls Tryd.prog 17 #[.agg #[.int .i64 6, .int .i64 n, .string s, .slice A m c], .int .i64 free, .int .i64 bound] w fun e w' => e = .returned (.bool (mayE (.node 6 n s l) free bound)) ∧ Below w.heap.size w w' := by
  have HE := Lib.hid (mayE_6 n s l free bound)
  have hb3 : Below w.heap.size w (((w.alloc (.cells #[.int .i64 6, .int .i64 n, .string s, .slice A m c] 24)).alloc (.cells #[.int .i64 free] 3)).alloc (.cells #[.int .i64 bound] 3)) := (((Below.refl _ w).alloc (Nat.le_refl _) _).alloc (by simp) _).alloc (by simp; omega) _
  have hC : Caught (((w.alloc (.cells #[.int .i64 6, .int .i64 n, .string s, .slice A m c] 24)).alloc (.cells #[.int .i64 free] 3)).alloc (.cells #[.int .i64 bound] 3)) w.heap.size 6 n s A m c free bound := caught_new w 6 n s A m c free bound
  have hs3 : (((w.alloc (.cells #[.int .i64 6, .int .i64 n, .string s, .slice A m c] 24)).alloc (.cells #[.int .i64 free] 3)).alloc (.cells #[.int .i64 bound] 3)).heap.size = w.heap.size + 3 := by simp
  obtain ⟨a0, a1, a2, a3⟩ := hC.t.four'
  have a4 := hC.f.cell 0
  have a5 := hC.b.cell 0
  simp at a4 a5
  have HB3 := Lib.hid hb3
  have HC := Lib.hid hC
  have HS3 := Lib.hid hs3
  have hg3 : Signs (((w.alloc (.cells #[.int .i64 6, .int .i64 n, .string s, .slice A m c] 24)).alloc (.cells #[.int .i64 free] 3)).alloc (.cells #[.int .i64 bound] 3)) := hg.below hb3 hg.pos
  have hmk : ∀ w0, (Instr.makeFunc (.func 21) #[] #[.pointer (some ⟨w.heap.size, 0, none⟩), .pointer (some ⟨w.heap.size + 1, 0, none⟩), .pointer (some ⟨w.heap.size + 1 + 1, 0, none⟩)]).run Tryd.prog w0 = .ok (.func (.func 21) #[] #[.pointer (some ⟨w.heap.size, 0, none⟩), .pointer (some ⟨w.heap.size + 1, 0, none⟩), .pointer (some ⟨w.heap.size + 1 + 1, 0, none⟩)]) w0 := fun _ => rfl
  have HI := Lib.hid hI
  have HM := Lib.hid hm
  rw [← data_list] at HE
  clear hb3 hC hs3 hI hm
  have hB := econ_any s (((w.alloc (.cells #[.int .i64 6, .int .i64 n, .string s, .slice A m c] 24)).alloc (.cells #[.int .i64 free] 3)).alloc (.cells #[.int .i64 bound] 3)) hg3
  rw [← data_list] at hB
  have HB := Lib.hid hB
  clear hB
  cases hq : conV s.toList
  · rw [hq] at HB HE
    clear hq
    go_enter Tryd.func17, Tryd.ntmps17
    go_wp2_with fail
    refine HB.out.mono ?_
    rintro e w4 ⟨rfl, hb4⟩
    have HC4 := Lib.hid (HC.out.below hb4)
    have HB4 := Lib.hid (HB3.out.trans (hb4.mono (by rw [HS3.out]; omega)))
    obtain ⟨z0, z1, z2, z3⟩ := HC4.out.t.four'
    go_wp2_with fail
    go_ret
    exact ⟨ret_bool (by rw [HE.out]; rfl), HB4.out⟩
  · rw [hq] at HB HE
    clear hq
    by_cases hn : 0 ≤ n
    · have e0 := trivial
      by_cases hm8 : n ≤ 8
      · have e1 := trivial
        have HHN := Lib.hid hn
        have HHM8 := Lib.hid hm8
        go_enter Tryd.func17, Tryd.ntmps17
        go_wp2_with fail
        refine HB.out.mono ?_
        rintro e w4 ⟨rfl, hb4⟩
        have HC4 := Lib.hid (HC.out.below hb4)
        have HB4 := Lib.hid (HB3.out.trans (hb4.mono (by rw [HS3.out]; omega)))
        obtain ⟨z0, z1, z2, z3⟩ := HC4.out.t.four'
        go_wp2_with fail
        refine (HP.out _ 1 1 n (HC4.out) (HB4.out) (by omega) (by omega) (by first | rfl | simp [moreE])).mono ?_
        rintro e w9 ⟨rfl, hb9⟩
        go_wp2_with fail
        go_ret
        exact ⟨ret_bool (by rw [HE.out]; simp [HHN.out, HHM8.out]), HB4.out.trans (hb9.mono HB4.out.size)⟩
      · have e1 : ¬ n ≤ 8 := hm8
        go_enter Tryd.func17, Tryd.ntmps17
        go_wp2_with fail
        refine HB.out.mono ?_
        rintro e w4 ⟨rfl, hb4⟩
        have HC4 := Lib.hid (HC.out.below hb4)
        have HB4 := Lib.hid (HB3.out.trans (hb4.mono (by rw [HS3.out]; omega)))
        obtain ⟨z0, z1, z2, z3⟩ := HC4.out.t.four'
        go_wp2_with fail
        go_ret
        exact ⟨ret_bool (by rw [HE.out]; rw [show decide (n ≤ 8) = false from decide_eq_false (by omega)]; simp), HB4.out⟩
    · have e0 : ¬ 0 ≤ n := hn
      go_enter Tryd.func17, Tryd.ntmps17
      go_wp2_with fail
      refine HB.out.mono ?_
      rintro e w4 ⟨rfl, hb4⟩
      have HC4 := Lib.hid (HC.out.below hb4)
      have HB4 := Lib.hid (HB3.out.trans (hb4.mono (by rw [HS3.out]; omega)))
      obtain ⟨z0, z1, z2, z3⟩ := HC4.out.t.four'
      go_wp2_with fail
      go_ret
      exact ⟨ret_bool (by rw [HE.out]; rw [show decide (0 ≤ n) = false from decide_eq_false (by omega)]; simp), HB4.out⟩
set_option maxHeartbeats 4000000 in
theorem emay_k5 (n : Int) (s : ByteArray) (l : List Te) (A : Option Addr) (m c : Nat) (free bound : Int) (w : World) (hm : m = l.length) (_hmc : m ≤ c) (_hml : m ≤ 140737488351232) (hg : Signs w) (hI : ELIn w Any l A 0) (_hn0 : -9223372036854775808 ≤ n) (_hn1 : n ≤ 9223372036854775807)
    (_hb0 : 0 ≤ bound) (_hb1 : bound ≤ 1000000) (HP : Hid (CloC w 5 n s l A m c free bound)) :
    Calls Tryd.prog 17 #[.agg #[.int .i64 5, .int .i64 n, .string s, .slice A m c], .int .i64 free, .int .i64 bound] w fun e w' => e = .returned (.bool (mayE (.node 5 n s l) free bound)) ∧ Below w.heap.size w w' := by
  have HE := Lib.hid (mayE_5 n s l free bound)
  have hb3 : Below w.heap.size w (((w.alloc (.cells #[.int .i64 5, .int .i64 n, .string s, .slice A m c] 24)).alloc (.cells #[.int .i64 free] 3)).alloc (.cells #[.int .i64 bound] 3)) := (((Below.refl _ w).alloc (Nat.le_refl _) _).alloc (by simp) _).alloc (by simp; omega) _
  have hC : Caught (((w.alloc (.cells #[.int .i64 5, .int .i64 n, .string s, .slice A m c] 24)).alloc (.cells #[.int .i64 free] 3)).alloc (.cells #[.int .i64 bound] 3)) w.heap.size 5 n s A m c free bound := caught_new w 5 n s A m c free bound
  have hs3 : (((w.alloc (.cells #[.int .i64 5, .int .i64 n, .string s, .slice A m c] 24)).alloc (.cells #[.int .i64 free] 3)).alloc (.cells #[.int .i64 bound] 3)).heap.size = w.heap.size + 3 := by simp
  obtain ⟨a0, a1, a2, a3⟩ := hC.t.four'
  have a4 := hC.f.cell 0
  have a5 := hC.b.cell 0
  simp at a4 a5
  have HB3 := Lib.hid hb3
  have HC := Lib.hid hC
  have HS3 := Lib.hid hs3
  have hg3 : Signs (((w.alloc (.cells #[.int .i64 5, .int .i64 n, .string s, .slice A m c] 24)).alloc (.cells #[.int .i64 free] 3)).alloc (.cells #[.int .i64 bound] 3)) := hg.below hb3 hg.pos
  have hmk : ∀ w0, (Instr.makeFunc (.func 21) #[] #[.pointer (some ⟨w.heap.size, 0, none⟩), .pointer (some ⟨w.heap.size + 1, 0, none⟩), .pointer (some ⟨w.heap.size + 1 + 1, 0, none⟩)]).run Tryd.prog w0 = .ok (.func (.func 21) #[] #[.pointer (some ⟨w.heap.size, 0, none⟩), .pointer (some ⟨w.heap.size + 1, 0, none⟩), .pointer (some ⟨w.heap.size + 1 + 1, 0, none⟩)]) w0 := fun _ => rfl
  have HI := Lib.hid hI
  have HM := Lib.hid hm
  rw [← data_list] at HE
  clear hb3 hC hs3 hI hm
  have hB := eblank_any 5 n s A m c (((w.alloc (.cells #[.int .i64 5, .int .i64 n, .string s, .slice A m c] 24)).alloc (.cells #[.int .i64 free] 3)).alloc (.cells #[.int .i64 bound] 3))
  rw [← data_list] at hB
  have HB := Lib.hid hB
  clear hB
  cases hq : blankE n s.toList
  · rw [hq] at HB HE
    clear hq
    go_enter Tryd.func17, Tryd.ntmps17
    go_wp2_with fail
    refine HB.out.mono ?_
    rintro e w4 ⟨rfl, hb4⟩
    go_wp2_with fail
    go_ret
    exact ⟨ret_bool (by rw [HE.out]; rfl), HB3.out.trans (hb4.mono (by rw [HS3.out]; omega))⟩
  · rw [hq] at HB HE
    clear hq
    cases hp : partsE 5 l free (bound + 0) 2 9
    · rw [hp] at HE
      have HPP := Lib.hid hp
      clear hp
      go_enter Tryd.func17, Tryd.ntmps17
      go_wp2_with fail
      refine HB.out.mono ?_
      rintro e w4 ⟨rfl, hb4⟩
      have HC4 := Lib.hid (HC.out.below hb4)
      have HB4 := Lib.hid (HB3.out.trans (hb4.mono (by rw [HS3.out]; omega)))
      have hq9 := HP.out w4 2 9 0 HC4.out HB4.out (by omega) (by omega) rfl
      rw [HPP.out] at hq9
      have HQ9 := Lib.hid hq9
      clear hq9
      go_wp2_with fail
      refine HQ9.out.mono ?_
      rintro e w9 ⟨rfl, hb9⟩
      go_wp2_with fail
      go_ret
      exact ⟨ret_bool (by rw [HE.out]; rfl), HB4.out.trans (hb9.mono HB4.out.size)⟩
    · rw [hp] at HE
      have HPP := Lib.hid hp
      have hm2 : 2 ≤ m ∧ m ≤ 9 := by
        have h := hp
        simp [partsE] at h
        rw [HM.out]; omega
      clear hp
      have hc1 : 1 < c := by omega
      go_enter Tryd.func17, Tryd.ntmps17
      go_wp2_with fail
      refine HB.out.mono ?_
      rintro e w4 ⟨rfl, hb4⟩
      have HC4 := Lib.hid (HC.out.below hb4)
      have HB4 := Lib.hid (HB3.out.trans (hb4.mono (by rw [HS3.out]; omega)))
      have hq9 := HP.out w4 2 9 0 HC4.out HB4.out (by omega) (by omega) rfl
      rw [HPP.out] at hq9
      have HQ9 := Lib.hid hq9
      clear hq9
      go_wp2_with fail
      refine HQ9.out.mono ?_
      rintro e w9 ⟨rfl, hb9⟩
      have hb10 := HB4.out.trans (hb9.mono HB4.out.size)
      obtain ⟨z0, z1, z2, z3⟩ := (HC4.out.below hb9).t.four'
      have HU := Lib.hid (erest_unlike l A m c w9 HM.out hm2.1 hm2.2 _hmc (ELIn.below l HI.out hb10 (Nat.le_refl _)))
      have HB10 := Lib.hid hb10
      clear hb10
      obtain ⟨g, o, hA⟩ : ∃ g o, A = some ⟨g, o, none⟩ := by
        obtain ⟨g, o, _, _, ⟨e, _⟩, _⟩ := ELIn.at_ l HI.out 0 (by rw [← HM.out]; omega)
        exact ⟨g, o, e⟩
      subst hA
      go_wp2_with fail
      refine (HU.out _ _ rfl).mono ?_
      rintro e w11 ⟨rfl, hb11⟩
      go_wp2_with fail
      go_ret
      exact ⟨ret_bool (by rw [HE.out]; simp), HB10.out.trans (hb11.mono HB10.out.size)⟩
set_option maxHeartbeats 4000000 in
theorem emay_kno (k n : Int) (s : ByteArray) (l : List Te) (A : Option Addr) (m c : Nat) (free bound : Int) (w : World) (hm : m = l.length) (_hmc : m ≤ c) (_hml : m ≤ 140737488351232) (hg : Signs w) (hI : ELIn w Any l A 0) (_hn0 : -9223372036854775808 ≤ n) (_hn1 : n ≤ 9223372036854775807)
    (_hb0 : 0 ≤ bound) (_hb1 : bound ≤ 1000000) (hk : k < 1 ∨ 9 < k) :
    Calls Tryd.prog 17 #[.agg #[.int .i64 k, .int .i64 n, .string s, .slice A m c], .int .i64 free, .int .i64 bound] w fun e w' => e = .returned (.bool (mayE (.node k n s l) free bound)) ∧ Below w.heap.size w w' := by
  have HE := Lib.hid (mayE_no hk n s l free bound)
  have hb3 : Below w.heap.size w (((w.alloc (.cells #[.int .i64 k, .int .i64 n, .string s, .slice A m c] 24)).alloc (.cells #[.int .i64 free] 3)).alloc (.cells #[.int .i64 bound] 3)) := (((Below.refl _ w).alloc (Nat.le_refl _) _).alloc (by simp) _).alloc (by simp; omega) _
  have hC : Caught (((w.alloc (.cells #[.int .i64 k, .int .i64 n, .string s, .slice A m c] 24)).alloc (.cells #[.int .i64 free] 3)).alloc (.cells #[.int .i64 bound] 3)) w.heap.size k n s A m c free bound := caught_new w k n s A m c free bound
  have hs3 : (((w.alloc (.cells #[.int .i64 k, .int .i64 n, .string s, .slice A m c] 24)).alloc (.cells #[.int .i64 free] 3)).alloc (.cells #[.int .i64 bound] 3)).heap.size = w.heap.size + 3 := by simp
  obtain ⟨a0, a1, a2, a3⟩ := hC.t.four'
  have a4 := hC.f.cell 0
  have a5 := hC.b.cell 0
  simp at a4 a5
  have HB3 := Lib.hid hb3
  have HC := Lib.hid hC
  have HS3 := Lib.hid hs3
  have hg3 : Signs (((w.alloc (.cells #[.int .i64 k, .int .i64 n, .string s, .slice A m c] 24)).alloc (.cells #[.int .i64 free] 3)).alloc (.cells #[.int .i64 bound] 3)) := hg.below hb3 hg.pos
  have hmk : ∀ w0, (Instr.makeFunc (.func 21) #[] #[.pointer (some ⟨w.heap.size, 0, none⟩), .pointer (some ⟨w.heap.size + 1, 0, none⟩), .pointer (some ⟨w.heap.size + 1 + 1, 0, none⟩)]).run Tryd.prog w0 = .ok (.func (.func 21) #[] #[.pointer (some ⟨w.heap.size, 0, none⟩), .pointer (some ⟨w.heap.size + 1, 0, none⟩), .pointer (some ⟨w.heap.size + 1 + 1, 0, none⟩)]) w0 := fun _ => rfl
  have HI := Lib.hid hI
  have HM := Lib.hid hm
  clear hb3 hC hs3 hI hm
  have e1 : (k == 1) = false := by simp; omega
  have e2 : (k == 2) = false := by simp; omega
  have e3 : (k == 3) = false := by simp; omega
  have e4 : (k == 4) = false := by simp; omega
  have e5 : (k == 5) = false := by simp; omega
  have e6 : (k == 6) = false := by simp; omega
  have e7 : (k == 7) = false := by simp; omega
  have e8 : (k == 8) = false := by simp; omega
  have e9 : (k == 9) = false := by simp; omega
  clear hk
  go_enter Tryd.func17, Tryd.ntmps17
  go_wp2_with fail
  go_ret
  exact ⟨ret_bool HE.out.symm, HB3.out⟩
end Lx
end Go.Proofs.YteagbndjoklogaaDoor
namespace Go.Proofs.YteagbndjoklogaaDoor
open Go.RowKit
namespace Lx
set_option maxRecDepth 100000
theorem emay_any (d : Nat) : ∀ (t : Te) (A : Option Addr) (c : Nat) (free bound : Int) (w : World), depthE t ≤ d → EIn w Any t A → Signs w → 0 ≤ bound → bound + 8 * depthE t ≤ 100000 →
    Calls Tryd.prog 17 #[ev t A c, .int .i64 free, .int .i64 bound] w fun e w' => e = .returned (.bool (mayE t free bound)) ∧ Below w.heap.size w w' := by
  induction d with
  | zero => intro t A c _ _ w h; have := depthE_pos t; omega
  | succ d ih =>
    intro t A c free bound w hd hI hg hb0 hb1
    obtain ⟨k, n, s, l⟩ := t
    have hdL : depthEL l ≤ d := by rw [depthE] at hd; omega
    have hdB : bound + 8 * (depthEL l + 1 : Nat) ≤ 100000 := by rw [depthE] at hb1; exact hb1
    rw [EIn] at hI
    obtain ⟨⟨_, hn0, hn1⟩, hml, hL⟩ := hI
    show Calls Tryd.prog 17 #[.agg #[.int .i64 k, .int .i64 n, .string s, .slice A l.length (capF l.length c)], .int .i64 free, .int .i64 bound] w _
    have hmc := le_capF l.length c
    generalize capF l.length c = c' at hmc
    have HP : Hid (CloC w k n s l A l.length c' free bound) := Lib.hid fun V least most more hC hb h0 h8 hmo =>
      emayp_any k n s l A l.length c' w.heap.size free bound least most more V rfl (ELIn.below l hL hb (Nat.le_refl _)) hml (hg.below hb hg.pos) hC hb0 (by omega) h0 h8
        fun t' A' c2 w' hmem hT hg' => ih t' A' c2 free (bound + more) w' (by have := depthEL_mem l t' hmem; omega) hT hg' (by omega) (by have := depthEL_mem l t' hmem; omega)
    rcases (by omega : k = 1 ∨ k = 2 ∨ k = 3 ∨ k = 4 ∨ k = 5 ∨ k = 6 ∨ k = 7 ∨ k = 8 ∨ k = 9 ∨ (k < 1 ∨ 9 < k)) with rfl | rfl | rfl | rfl | rfl | rfl | rfl | rfl | rfl | hk
    · exact emay_k1 n s l A _ c' free bound w rfl hmc hml hg hL hn0 hn1 hb0 (by omega) HP
    · exact emay_k2 n s l A _ c' free bound w rfl hmc hml hg hL hn0 hn1 hb0 (by omega) HP
    · exact emay_k3 n s l A _ c' free bound w rfl hmc hml hg hL hn0 hn1 hb0 (by omega) HP
    · exact emay_k4 n s l A _ c' free bound w rfl hmc hml hg hL hn0 hn1 hb0 (by omega) HP
    · exact emay_k5 n s l A _ c' free bound w rfl hmc hml hg hL hn0 hn1 hb0 (by omega) HP
    · exact emay_k6 n s l A _ c' free bound w rfl hmc hml hg hL hn0 hn1 hb0 (by omega) HP
    · exact emay_k7 n s l A _ c' free bound w rfl hmc hml hg hL hn0 hn1 hb0 (by omega) HP
    · exact emay_k8 n s l A _ c' free bound w rfl hmc hml hg hL hn0 hn1 hb0 (by omega) HP
    · exact emay_k9 n s l A _ c' free bound w rfl hmc hml hg hL hn0 hn1 hb0 (by omega) HP
    · exact emay_kno k n s l A _ c' free bound w rfl hmc hml hg hL hn0 hn1 hb0 (by omega) hk
set_option maxHeartbeats 1000000 in
theorem eMay_any (t : Te) (A : Option Addr) (c : Nat) (free : Int) (w : World) (hI : EIn w Any t A) (hg : Signs w) (hd : depthE t ≤ 1000) :
    Calls Tryd.prog 10 #[ev t A c, .int .i64 free] w fun e w' => e = .returned (.bool (mayV6 t free)) ∧ Below w.heap.size w w' := by
  have hb0 : Below w.heap.size w (w.alloc (.cells #[.int .i64 t.kind, .int .i64 t.n, .string t.name, .slice A t.parts.length (capF t.parts.length c)] 24)) := (Below.refl _ w).alloc (Nat.le_refl _) _
  have HM := Lib.hid (emay_any _ t A c free 0 _ (Nat.le_refl _) (EIn.below _ hI hb0 (Nat.le_refl _)) (hg.below hb0 hg.pos) (by omega) (by omega))
  have HV : Hid (mayV6 t free = (decide (0 ≤ free) && (decide (t.kind ≠ 6) && mayE t free 0))) := by exact rfl
  have HB := Lib.hid hb0
  clear hI hg hd hb0
  obtain ⟨b, hb⟩ : ∃ b, b = mayE t free 0 := ⟨_, rfl⟩
  rw [← hb] at HM HV
  clear hb
  obtain ⟨V, hV⟩ : ∃ V, V = mayV6 t free := ⟨_, rfl⟩
  rw [← hV] at HV ⊢
  clear hV
  obtain ⟨k, n, s, l⟩ := t
  show Calls Tryd.prog 10 #[.agg #[.int .i64 k, .int .i64 n, .string s, .slice A l.length (capF l.length c)], .int .i64 free] w _
  simp only [ev, Te.kind, Te.n, Te.name, Te.parts] at HM HB HV
  by_cases hf : 0 ≤ free
  · by_cases h6 : k = 6
    · have e6 : (k != 6) = false := by simpa using h6
      have HE : Hid (V = false) := by
        show _ = _
        rw [HV.out]; simp [h6]
      clear h6 HM
      go_enter Tryd.func10, Tryd.ntmps10
      go_wp2_with fail
      go_ret
      exact ⟨ret_bool HE.out.symm, HB.out⟩
    · have e6 : (k != 6) = true := by simpa using h6
      have HE : Hid (V = b) := by
        show _ = _
        rw [HV.out]; simp [h6, hf]
      clear h6
      go_enter Tryd.func10, Tryd.ntmps10
      go_wp2_with fail
      refine HM.out.mono ?_
      rintro e w2 ⟨rfl, hb2⟩
      go_wp2_with fail
      go_ret
      exact ⟨ret_bool HE.out.symm, HB.out.trans (hb2.mono HB.out.size)⟩
  · have HE : Hid (V = false) := by
      show _ = _
      rw [HV.out]; simp [hf]
    clear HM
    go_enter Tryd.func10, Tryd.ntmps10
    go_wp2_with fail
    go_ret
    exact ⟨ret_bool HE.out.symm, HB.out⟩
end Lx
end Go.Proofs.YteagbndjoklogaaDoor
