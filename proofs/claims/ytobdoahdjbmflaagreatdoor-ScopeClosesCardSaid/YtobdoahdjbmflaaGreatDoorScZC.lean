/-
  The law ScopeCloses, walked.
-/
import Derived.Test.YtobdoahdjbmflaaGreatDoorC22
import Derived.Test.YtobdoahdjbmflaaGreatDoorC15
import Derived.Test.YtobdoahdjbmflaaGreatDoorC8
import Derived.Test.YtobdoahdjbmflaaGreatDoorC14
import Derived.Deep.RegionHeld3
import Derived.Deep.DrawnRows
namespace Go.Proofs.YtobdoahdjbmflaaGreatDoor
open Go Go.RowKit
namespace Lx
set_option maxRecDepth 100000
theorem closes_plain (s : ByteArray) (t : Tr) (h : mayV t = true) : ((checkV t).2 = 0 → (freeV5 t).length = 0) ∧ ((checkV t).2 = 50 → (freeV5 t).length ≠ 0) ∧ (mayV (lamT s t) = true → (freeV5 (lamT s t)).length + (if inN (freeV5 t) s = true then 1 else 0) = (freeV5 t).length) := by
  have e1 : freeV5 t = freeT t := if_pos h
  have e2 : checkV t = badT (consT t) [] [] t := if_pos h
  rw [e1, e2]
  refine ⟨fun h0 => ?_, fun h50 => ?_, fun hm => ?_⟩
  · rw [freeV_nil (free_of_ok t h h0)]; rfl
  · exact fun e => freeV_some (free_of_name t h h50) (List.eq_nil_of_length_eq_zero e)
  · rw [freeV5, if_pos hm]; exact lam_len t s
/-- What stands in the loop: the box of the tree, that of the tree with functions around, and the names. -/
structure ClosR (w : World) (t : Tr) (T : Array Value) (g0 g1 : Nat) (fr : List ByteArray) (El : Option Addr) (i : Nat) (wr : World) : Prop where
  hb : Below w.heap.size w wr
  l0 : Lies wr g0 24 T
  l1 : ∃ Au cu, Lies wr g1 24 #[.int .i64 (lamsT (fr.take i) t).kind, .string (lamsT (fr.take i) t).name, .int .i64 (lamsT (fr.take i) t).n, .int .i64 (lamsT (fr.take i) t).place, .slice Au (lamsT (fr.take i) t).parts.length (capF (lamsT (fr.take i) t).parts.length cu)] ∧ TIn wr (fun g => g ≠ g1) (lamsT (fr.take i) t) Au
  hl : SIn wr (fun g => g ≠ g1) fr El
theorem closR_next {w wr : World} {t u : Tr} {T : Array Value} {g0 g1 i : Nat} {fr : List ByteArray} {El Au : Option Addr} {cu um uc : Nat} {uk un ua : Int} {us x : ByteArray} (hb : Below w.heap.size w wr) (L0 : Lies wr g0 24 T)
    (L1 : Lies wr g1 24 #[.int .i64 uk, .string us, .int .i64 un, .int .i64 ua, .slice Au um uc]) (hu : TIn wr (fun g => g ≠ g1) u Au) (hl : SIn wr (fun g => g ≠ g1) fr El) (h01 : g0 ≠ g1) (hw1 : w.heap.size ≤ g1) (hsz : g1 < wr.heap.size)
    (HU : cellsT u Au cu = [.int .i64 uk, .string us, .int .i64 un, .int .i64 ua, .slice Au um uc]) (hx : x.size ≤ 140737488351232) (hk : lamsT (fr.take (i + 1)) t = lamT x u) :
    ClosR w t T g0 g1 fr El (i + 1) (((put5S wr g1 (.int .i64 2) (.string x) (.int .i64 0) (.int .i64 0) (.slice (some ⟨wr.heap.size, 0, none⟩) 1 1)).alloc (.cells #[.int .i64 uk, .string us, .int .i64 un, .int .i64 ua, .slice Au um uc] 24)).drew) := by
  obtain ⟨P, hP⟩ : ∃ P, P = put5S wr g1 (.int .i64 2) (.string x) (.int .i64 0) (.int .i64 0) (.slice (some ⟨wr.heap.size, 0, none⟩) 1 1) := ⟨_, rfl⟩
  have hs : P.heap.size = wr.heap.size := by rw [hP]; exact put5_size ..
  have hba := below_allocS P (.cells #[.int .i64 uk, .string us, .int .i64 un, .int .i64 ua, .slice Au um uc] 24)
  have p0 : Lies P g0 24 T := by rw [hP]; exact L0.off5 h01 ..
  have p1 : Lies P g1 24 #[.int .i64 2, .string x, .int .i64 0, .int .i64 0, .slice (some ⟨wr.heap.size, 0, none⟩) 1 1] := by rw [hP]; exact L1.put5 ..
  have pu : TIn P (fun g => g ≠ g1) u Au := by rw [hP]; exact TIn.put5 _ hu (fun h => h rfl) _ _ _ _ _
  have pl : SIn P (fun g => g ≠ g1) fr El := by rw [hP]; exact SIn.put5 hl (fun h => h rfl) _ _ _ _ _
  have pb : Below w.heap.size w P := by rw [hP]; exact Below.put5 hb hw1 _ _ _ _ _
  have LN := Lies.new P 24 #[.int .i64 uk, .string us, .int .i64 un, .int .i64 ua, .slice Au um uc]
  rw [← hP]
  refine ⟨(pb.alloc pb.size _).drew, (p0.old _).drew, ⟨some ⟨wr.heap.size, 0, none⟩, 1, ?_, ?_⟩, pl.below (below_allocS P _).drew (Nat.le_refl _)⟩
  · rw [hk]; exact (p1.old _).drew
  · rw [hk]
    refine TIn.mk hx (by simp) (LIn.one (t1 := u) (A1 := Au) (c1 := cu) (g := wr.heap.size) (t := 24) (cs := #[.int .i64 uk, .string us, .int .i64 un, .int .i64 ua, .slice Au um uc]) ?_ HU.symm (by show wr.heap.size ≠ g1; omega) ?_)
    · rw [← hs]; exact LN.drew
    · exact TIn.below _ pu hba.drew (Nat.le_refl _)
theorem name_leS {t : Tr} {A : Option Addr} {w : World} (_ : decide (0 ≤ fewT t 200 200) = true) (hI : TIn w Any t A) : ∀ i (hi : i < (freeV5 t).length), (freeV5 t)[i].size ≤ 140737488351232 := fun i hi => by
  have hm : (freeV5 t)[i] ∈ freeV5 t := List.getElem_mem hi
  generalize (freeV5 t)[i] = x at hm ⊢
  unfold freeV5 at hm
  split at hm
  · rw [free_mem, ← frees_spots t [] false, freesS, List.mem_map] at hm
    obtain ⟨y, hy, rfl⟩ := hm
    exact nameS t [] false w Any A hI y (List.mem_filter.1 hy).1
  · cases hm
set_option maxHeartbeats 16000000 in
theorem scopeCloses_law (t : Tr) (s : ByteArray) (A : Option Addr) (c : Nat) (w : World) (ht : TIn w Any t A) (hss : s.size ≤ 140737488351232) (hg : Signs w) :
    Calls Tryz.prog 4 #[tv t A c, .string s] w fun e w' => e = .returned (.bool true) ∧ Below w.heap.size w w' := by
  have HF := Lib.hid (fun (W : World) (h : Below w.heap.size w W) => fixed5_any W (hg.below h hg.pos))
  have HSt := Lib.hid (fun (W : World) (h : Below w.heap.size w W) => tsmall_any t A c 200 W (TIn.below _ ht h (Nat.le_refl _)) (by omega) (by omega))
  have HDt := Lib.hid (fun (hq : decide (0 ≤ fewT t 200 200) = true) (W : World) (h : Below w.heap.size w W) => rdepth_any (depthT t) t A c W (Nat.le_refl _) (by have := few5 hq; omega) (TIn.below _ ht h (Nat.le_refl _)))
  have HMt := Lib.hid (fun (W : World) (h : Below w.heap.size w W) => rMay_any t A c W (TIn.below _ ht h (Nat.le_refl _)))
  have HFT := Lib.hid (fun (hq : decide (0 ≤ fewT t 200 200) = true) (W : World) (h : Below w.heap.size w W) => (sFree_any t A c W ⟨by have := few5 hq; omega, by have := few5 hq; omega, TIn.below _ ht h (Nat.le_refl _), hg.below h hg.pos⟩).mono fun e w' h => giveN_in h)
  have HCK := Lib.hid (fun (hq : decide (0 ≤ fewT t 200 200) = true) (W : World) (h : Below w.heap.size w W) => sCheck_any t A c W ⟨by have := few5 hq; omega, by have := few5 hq; omega, TIn.below _ ht h (Nat.le_refl _), hg.below h hg.pos⟩)
  have HKT := Lib.hid (fun (hq : decide (0 ≤ fewT t 200 200) = true) (W : World) (h : Below w.heap.size w W) => (sCons_any t A c W ⟨by have := few5 hq; omega, by have := few5 hq; omega, TIn.below _ ht h (Nat.le_refl _), hg.below h hg.pos⟩).mono fun e w' h => giveA_in h)
  have HFU : Hid (decide (0 ≤ fewT t 200 200) = true → mayV t = true → ∀ W, Below w.heap.size w W → ∀ D d, TIn W Any (lamsT (freeV5 t) t) D → Calls Tryz.prog 12 #[tv (lamsT (freeV5 t) t) D d] W fun e w' => ∃ E x, e = .returned (.slice E 0 x) ∧ SIn w' Any [] E ∧ Below W.heap.size W w') := Lib.hid (fun hq hv W h D d hI => by
    have f0 := few5 hq
    have hl := loose_len t
    obtain ⟨a1, a2, a3, a4, a5⟩ := lams_free t hv
    have e0 : freeV5 t = freeT t := if_pos hv
    rw [e0] at hI ⊢
    have h9 := (sFree_any _ D d W ⟨by rw [a4]; omega, by rw [a5]; omega, hI, hg.below h hg.pos⟩).mono fun e w' h => giveN_in h
    rw [freeV5, if_pos a1, a2] at h9
    exact h9)
  have HKU : Hid (decide (0 ≤ fewT t 200 200) = true → mayV t = true → ∀ W, Below w.heap.size w W → ∀ D d, TIn W Any (lamsT (freeV5 t) t) D → Calls Tryz.prog 15 #[tv (lamsT (freeV5 t) t) D d] W fun e w' => ∃ E x, e = .returned (.slice E (consV5 t).length x) ∧ AIn w' Any (consV5 t) E ∧ Below W.heap.size W w') := Lib.hid (fun hq hv W h D d hI => by
    have f0 := few5 hq
    have hl := loose_len t
    obtain ⟨a1, a2, a3, a4, a5⟩ := lams_free t hv
    have e0 : freeV5 t = freeT t := if_pos hv
    rw [e0] at hI ⊢
    have h9 := (sCons_any _ D d W ⟨by rw [a4]; omega, by rw [a5]; omega, hI, hg.below h hg.pos⟩).mono fun e w' h => giveA_in h
    rw [consV5, if_pos a1, a3] at h9
    rw [consV5, if_pos hv]
    exact h9)
  have HMV : Hid (∀ W, Below w.heap.size w W → ∀ D, TIn W Any (lamT s t) D → Calls Tryz.prog 18 #[.agg #[.int .i64 2, .string s, .int .i64 0, .int .i64 0, .slice D 1 1]] W fun e w' => e = .returned (.bool (mayV (lamT s t))) ∧ Below W.heap.size W w') := Lib.hid (fun W h D hI => rMay_any (lamT s t) D 1 W hI)
  have HFV : Hid (decide (0 ≤ fewT t 200 200) = true → ∀ W, Below w.heap.size w W → ∀ D, TIn W Any (lamT s t) D → Calls Tryz.prog 12 #[.agg #[.int .i64 2, .string s, .int .i64 0, .int .i64 0, .slice D 1 1]] W fun e w' => ∃ E x, e = .returned (.slice E (freeV5 (lamT s t)).length x) ∧ SIn w' Any (freeV5 (lamT s t)) E ∧ Below W.heap.size W w') := Lib.hid (fun hq W h D hI => by
    have f0 := few5 hq
    exact (sFree_any (lamT s t) D 1 W ⟨by rw [depth_lam]; omega, by rw [size_lam]; omega, hI, hg.below h hg.pos⟩).mono fun e w' h => giveN_in h)
  have PL : Hid (mayV t = true → ((checkV t).2 = 0 → (freeV5 t).length = 0) ∧ ((checkV t).2 = 50 → (freeV5 t).length ≠ 0) ∧ (mayV (lamT s t) = true → (freeV5 (lamT s t)).length + (if inN (freeV5 t) s = true then 1 else 0) = (freeV5 t).length)) := Lib.hid (closes_plain s t)
  have HSZ : Hid (decide (0 ≤ fewT t 200 200) = true → ∀ i (hi : i < (freeV5 t).length), (freeV5 t)[i].size ≤ 140737488351232) := Lib.hid (fun hq i hi => by
    have h1 := name_leS hq ht
    exact h1 i hi)
  have HNF : Hid (decide (0 ≤ fewT t 200 200) = true → (freeV5 t).length ≤ 1000 ∧ (consV5 t).length ≤ 1000) := Lib.hid (fun hq => by have := few5 hq; have := freeV_len t; have := consV_len t; omega)
  obtain ⟨qt, hqt9⟩ : ∃ z9, z9 = decide (0 ≤ fewT t 200 200) := ⟨_, rfl⟩
  obtain ⟨vt, hvt9⟩ : ∃ z9, z9 = mayV t := ⟨_, rfl⟩
  obtain ⟨dt, hdt9⟩ : ∃ z9, z9 = depthT t := ⟨_, rfl⟩
  obtain ⟨cx, hcx9⟩ : ∃ z9, z9 = (checkV t).1 := ⟨_, rfl⟩
  obtain ⟨cy, hcy9⟩ : ∃ z9, z9 = (checkV t).2 := ⟨_, rfl⟩
  obtain ⟨vm, hvm9⟩ : ∃ z9, z9 = mayV (lamT s t) := ⟨_, rfl⟩
  obtain ⟨vf, hvf9⟩ : ∃ z9, z9 = (freeV5 (lamT s t)).length := ⟨_, rfl⟩
  obtain ⟨fr, hfr9⟩ : ∃ z9, z9 = freeV5 t := ⟨_, rfl⟩
  obtain ⟨be, hbe9⟩ : ∃ z9, z9 = inN fr s := ⟨_, rfl⟩
  obtain ⟨kr, hkr9⟩ : ∃ z9, z9 = consV5 t := ⟨_, rfl⟩
  obtain ⟨fn, hfn9⟩ : ∃ z9, z9 = fr.length := ⟨_, rfl⟩
  obtain ⟨kn, hkn9⟩ : ∃ z9, z9 = kr.length := ⟨_, rfl⟩
  try rw [← hqt9] at HSt
  try rw [← hqt9] at HDt
  try rw [← hqt9] at HMt
  try rw [← hqt9] at HFT
  try rw [← hqt9] at HCK
  try rw [← hqt9] at HKT
  try rw [← hqt9] at HFU
  try rw [← hqt9] at HKU
  try rw [← hqt9] at HMV
  try rw [← hqt9] at HFV
  try rw [← hqt9] at PL
  try rw [← hqt9] at HSZ
  try rw [← hqt9] at HNF
  try rw [← hvt9] at HSt
  try rw [← hvt9] at HDt
  try rw [← hvt9] at HMt
  try rw [← hvt9] at HFT
  try rw [← hvt9] at HCK
  try rw [← hvt9] at HKT
  try rw [← hvt9] at HFU
  try rw [← hvt9] at HKU
  try rw [← hvt9] at HMV
  try rw [← hvt9] at HFV
  try rw [← hvt9] at PL
  try rw [← hvt9] at HSZ
  try rw [← hvt9] at HNF
  try rw [← hdt9] at HSt
  try rw [← hdt9] at HDt
  try rw [← hdt9] at HMt
  try rw [← hdt9] at HFT
  try rw [← hdt9] at HCK
  try rw [← hdt9] at HKT
  try rw [← hdt9] at HFU
  try rw [← hdt9] at HKU
  try rw [← hdt9] at HMV
  try rw [← hdt9] at HFV
  try rw [← hdt9] at PL
  try rw [← hdt9] at HSZ
  try rw [← hdt9] at HNF
  try rw [← hcx9] at HSt
  try rw [← hcx9] at HDt
  try rw [← hcx9] at HMt
  try rw [← hcx9] at HFT
  try rw [← hcx9] at HCK
  try rw [← hcx9] at HKT
  try rw [← hcx9] at HFU
  try rw [← hcx9] at HKU
  try rw [← hcx9] at HMV
  try rw [← hcx9] at HFV
  try rw [← hcx9] at PL
  try rw [← hcx9] at HSZ
  try rw [← hcx9] at HNF
  try rw [← hcy9] at HSt
  try rw [← hcy9] at HDt
  try rw [← hcy9] at HMt
  try rw [← hcy9] at HFT
  try rw [← hcy9] at HCK
  try rw [← hcy9] at HKT
  try rw [← hcy9] at HFU
  try rw [← hcy9] at HKU
  try rw [← hcy9] at HMV
  try rw [← hcy9] at HFV
  try rw [← hcy9] at PL
  try rw [← hcy9] at HSZ
  try rw [← hcy9] at HNF
  try rw [← hvm9] at HSt
  try rw [← hvm9] at HDt
  try rw [← hvm9] at HMt
  try rw [← hvm9] at HFT
  try rw [← hvm9] at HCK
  try rw [← hvm9] at HKT
  try rw [← hvm9] at HFU
  try rw [← hvm9] at HKU
  try rw [← hvm9] at HMV
  try rw [← hvm9] at HFV
  try rw [← hvm9] at PL
  try rw [← hvm9] at HSZ
  try rw [← hvm9] at HNF
  try rw [← hvf9] at HSt
  try rw [← hvf9] at HDt
  try rw [← hvf9] at HMt
  try rw [← hvf9] at HFT
  try rw [← hvf9] at HCK
  try rw [← hvf9] at HKT
  try rw [← hvf9] at HFU
  try rw [← hvf9] at HKU
  try rw [← hvf9] at HMV
  try rw [← hvf9] at HFV
  try rw [← hvf9] at PL
  try rw [← hvf9] at HSZ
  try rw [← hvf9] at HNF
  try rw [← hfr9] at HSt
  try rw [← hfr9] at HDt
  try rw [← hfr9] at HMt
  try rw [← hfr9] at HFT
  try rw [← hfr9] at HCK
  try rw [← hfr9] at HKT
  try rw [← hfr9] at HFU
  try rw [← hfr9] at HKU
  try rw [← hfr9] at HMV
  try rw [← hfr9] at HFV
  try rw [← hfr9] at PL
  try rw [← hfr9] at HSZ
  try rw [← hfr9] at HNF
  try rw [← hbe9] at HSt
  try rw [← hbe9] at HDt
  try rw [← hbe9] at HMt
  try rw [← hbe9] at HFT
  try rw [← hbe9] at HCK
  try rw [← hbe9] at HKT
  try rw [← hbe9] at HFU
  try rw [← hbe9] at HKU
  try rw [← hbe9] at HMV
  try rw [← hbe9] at HFV
  try rw [← hbe9] at PL
  try rw [← hbe9] at HSZ
  try rw [← hbe9] at HNF
  try rw [← hkr9] at HSt
  try rw [← hkr9] at HDt
  try rw [← hkr9] at HMt
  try rw [← hkr9] at HFT
  try rw [← hkr9] at HCK
  try rw [← hkr9] at HKT
  try rw [← hkr9] at HFU
  try rw [← hkr9] at HKU
  try rw [← hkr9] at HMV
  try rw [← hkr9] at HFV
  try rw [← hkr9] at PL
  try rw [← hkr9] at HSZ
  try rw [← hkr9] at HNF
  try rw [← hfn9] at HSt
  try rw [← hfn9] at HDt
  try rw [← hfn9] at HMt
  try rw [← hfn9] at HFT
  try rw [← hfn9] at HCK
  try rw [← hfn9] at HKT
  try rw [← hfn9] at HFU
  try rw [← hfn9] at HKU
  try rw [← hfn9] at HMV
  try rw [← hfn9] at HFV
  try rw [← hfn9] at PL
  try rw [← hfn9] at HSZ
  try rw [← hfn9] at HNF
  try rw [← hkn9] at HSt
  try rw [← hkn9] at HDt
  try rw [← hkn9] at HMt
  try rw [← hkn9] at HFT
  try rw [← hkn9] at HCK
  try rw [← hkn9] at HKT
  try rw [← hkn9] at HFU
  try rw [← hkn9] at HKU
  try rw [← hkn9] at HMV
  try rw [← hkn9] at HFV
  try rw [← hkn9] at PL
  try rw [← hkn9] at HSZ
  try rw [← hkn9] at HNF
  have HTt := Lib.hid ht
  have HLfn := Lib.hid hfn9
  have HLkn := Lib.hid hkn9
  have HLBE := Lib.hid hbe9
  clear hg hqt9 hvt9 hdt9 hcx9 hcy9 hvm9 hvf9 hfr9 hbe9 hkr9 hfn9 hkn9 ht
  obtain ⟨tk, ts, tn, ta, tl⟩ := t
  try simp only [tv, Tr.kind, Tr.name, Tr.n, Tr.place, Tr.parts] at HSt
  try simp only [tv, Tr.kind, Tr.name, Tr.n, Tr.place, Tr.parts] at HDt
  try simp only [tv, Tr.kind, Tr.name, Tr.n, Tr.place, Tr.parts] at HMt
  try simp only [tv, Tr.kind, Tr.name, Tr.n, Tr.place, Tr.parts] at HFT
  try simp only [tv, Tr.kind, Tr.name, Tr.n, Tr.place, Tr.parts] at HCK
  try simp only [tv, Tr.kind, Tr.name, Tr.n, Tr.place, Tr.parts] at HKT
  try simp only [tv, Tr.kind, Tr.name, Tr.n, Tr.place, Tr.parts] at HFU
  try simp only [tv, Tr.kind, Tr.name, Tr.n, Tr.place, Tr.parts] at HKU
  try simp only [tv, Tr.kind, Tr.name, Tr.n, Tr.place, Tr.parts] at HMV
  try simp only [tv, Tr.kind, Tr.name, Tr.n, Tr.place, Tr.parts] at HFV
  try simp only [tv, Tr.kind, Tr.name, Tr.n, Tr.place, Tr.parts] at PL
  try simp only [tv, Tr.kind, Tr.name, Tr.n, Tr.place, Tr.parts] at HSZ
  try simp only [tv, Tr.kind, Tr.name, Tr.n, Tr.place, Tr.parts] at HNF
  simp only [tv, Tr.kind, Tr.name, Tr.n, Tr.place, Tr.parts]
  obtain ⟨tm, htm9⟩ : ∃ m, m = tl.length := ⟨_, rfl⟩
  try rw [← htm9] at HSt
  try rw [← htm9] at HDt
  try rw [← htm9] at HMt
  try rw [← htm9] at HFT
  try rw [← htm9] at HCK
  try rw [← htm9] at HKT
  try rw [← htm9] at HFU
  try rw [← htm9] at HKU
  try rw [← htm9] at HMV
  try rw [← htm9] at HFV
  try rw [← htm9] at PL
  try rw [← htm9] at HSZ
  try rw [← htm9] at HNF
  rw [← htm9]
  have HMtm := Lib.hid htm9
  obtain ⟨tc, htc9⟩ : ∃ x, x = capF tm c := ⟨_, rfl⟩
  try rw [← htc9] at HSt
  try rw [← htc9] at HDt
  try rw [← htc9] at HMt
  try rw [← htc9] at HFT
  try rw [← htc9] at HCK
  try rw [← htc9] at HKT
  try rw [← htc9] at HFU
  try rw [← htc9] at HKU
  try rw [← htc9] at HMV
  try rw [← htc9] at HFV
  try rw [← htc9] at PL
  try rw [← htc9] at HSZ
  try rw [← htc9] at HNF
  rw [← htc9]
  have HTC := Lib.hid htc9
  rw [htm9] at HTC
  clear htm9 htc9
  obtain ⟨u0, hu0⟩ : ∃ W, W = w.alloc (.cells #[.int .i64 tk, .string ts, .int .i64 tn, .int .i64 ta, .slice A tm tc] 24) := ⟨_, rfl⟩
  have hb0 : Below w.heap.size w u0 := by rw [hu0]; exact below_allocS w _
  have L0 : Lies u0 w.heap.size 24 #[.int .i64 tk, .string ts, .int .i64 tn, .int .i64 ta, .slice A tm tc] := by rw [hu0]; exact Lies.new _ _ _
  obtain ⟨g0, hg0⟩ : ∃ g, g = w.heap.size := ⟨_, rfl⟩
  rw [← hg0] at L0
  go_enter Tryz.func4, Tryz.ntmps4
  go_upto_region 1 with fail
  rw [← hu0]
  rw [← hg0]
  have HB0 := Lib.hid hb0
  clear hu0 hg0 hb0
  go_wp2_with fail
  refine (HF.out u0 HB0.out).mono ?_
  rintro e w1 ⟨rfl, hb⟩
  replace HB0 := Lib.hid (HB0.out.trans (hb.mono HB0.out.size))
  replace L0 := L0.below hb L0.lt
  clear hb
  obtain ⟨⟨x00, x01, x02, x03, x04⟩, _⟩ := L0.five
  go_wp2_with fail
  refine (HSt.out w1 HB0.out).mono ?_
  rintro e w2 ⟨rfl, hb⟩
  replace HB0 := Lib.hid (HB0.out.trans (hb.mono HB0.out.size))
  replace L0 := L0.below hb L0.lt
  clear hb
  clear x00 x01 x02 x03 x04
  cases qt with
  | false =>
    go_wp2_with fail
    refine (HF.out _ HB0.out).mono ?_
    rintro e wz ⟨rfl, hbz⟩
    go_wp2_with fail
    go_ret
    exact ⟨rfl, HB0.out.trans (hbz.mono HB0.out.size)⟩
  | true =>
    obtain ⟨⟨x00, x01, x02, x03, x04⟩, _⟩ := L0.five
    go_wp2_with fail
    refine (HDt.out (by simp) w2 HB0.out).mono ?_
    rintro e w3 ⟨rfl, hb⟩
    replace HB0 := Lib.hid (HB0.out.trans (hb.mono HB0.out.size))
    replace L0 := L0.below hb L0.lt
    clear hb
    clear x00 x01 x02 x03 x04
    by_cases hd_dt : 150 < dt
    · have hd1_dt : (150 : Int) < (dt : Int) := by omega
      go_wp2_with fail
      refine (HF.out _ HB0.out).mono ?_
      rintro e wz ⟨rfl, hbz⟩
      go_wp2_with fail
      go_ret
      exact ⟨rfl, HB0.out.trans (hbz.mono HB0.out.size)⟩
    · have hd1_dt : ¬ (150 : Int) < (dt : Int) := by omega
      obtain ⟨⟨x00, x01, x02, x03, x04⟩, _⟩ := L0.five
      go_wp2_with fail
      refine (HMt.out w3 HB0.out).mono ?_
      rintro e w4 ⟨rfl, hb⟩
      replace HB0 := Lib.hid (HB0.out.trans (hb.mono HB0.out.size))
      replace L0 := L0.below hb L0.lt
      clear hb
      clear x00 x01 x02 x03 x04
      cases vt with
      | false =>
        go_wp2_with fail
        refine (HF.out _ HB0.out).mono ?_
        rintro e wz ⟨rfl, hbz⟩
        go_wp2_with fail
        go_ret
        exact ⟨rfl, HB0.out.trans (hbz.mono HB0.out.size)⟩
      | true =>
        obtain ⟨P1, P2, P3⟩ := PL.out (by simp)
        have P1 := Lib.hid P1
        have P2 := Lib.hid P2
        have P3 := Lib.hid P3
        obtain ⟨N1, N2⟩ := HNF.out (by simp)
        clear PL HNF
        obtain ⟨⟨x00, x01, x02, x03, x04⟩, _⟩ := L0.five
        go_wp2_with fail
        refine (HFT.out (by simp) w4 HB0.out).mono ?_
        rintro e w5 ⟨El, Elc, rfl, hl, hb⟩
        replace HB0 := Lib.hid (HB0.out.trans (hb.mono HB0.out.size))
        replace L0 := L0.below hb L0.lt
        clear hb
        clear x00 x01 x02 x03 x04
        obtain ⟨⟨x00, x01, x02, x03, x04⟩, _⟩ := L0.five
        go_wp2_with fail
        refine (HCK.out (by simp) w5 HB0.out).mono ?_
        rintro e w6 ⟨rfl, hb⟩
        replace HB0 := Lib.hid (HB0.out.trans (hb.mono HB0.out.size))
        replace L0 := L0.below hb L0.lt
        replace hl := hl.below hb (Nat.le_refl _)
        clear hb
        clear x00 x01 x02 x03 x04
        have HW : Hid ((cy = 0 ∧ fn = 0) ∨ (cy = 50 ∧ fn ≠ 0) ∨ (cy ≠ 0 ∧ cy ≠ 50)) := Lib.hid (by
          have h1 := P1.out
          have h2 := P2.out
          by_cases e1 : cy = 0
          · exact .inl ⟨e1, h1 e1⟩
          · by_cases e2 : cy = 50
            · exact .inr (.inl ⟨e2, h2 e2⟩)
            · exact .inr (.inr ⟨e1, e2⟩))
        go_upto_region 5 with fail
        rcases HW.out with ⟨e1, e2⟩ | ⟨e1, e2⟩ | ⟨e1, e2⟩
        case' inl =>
          have g1 : (cy == 0) = true := by simp [e1]
          have g2 : decide ((0 : Int) < (fn : Int)) = false := by simp; omega
          have g3 : (cy == 50) = false := by simp [e1]
          have g4 : decide (0 < fn) = false := by simp; omega
        case' inr.inl =>
          have g1 : (cy == 0) = false := by simp [e1]
          have g3 : (cy == 50) = true := by simp [e1]
          have g2 : ((fn : Int) == 0) = false := by simp; omega
          have g4 : (fn == 0) = false := by simp; omega
        case' inr.inr =>
          have g1 : (cy == 0) = false := by simp [e1]
          have g3 : (cy == 50) = false := by simp [e2]
          have g2 := True.intro
          have g4 := True.intro
        all_goals clear e1 e2 HW
        all_goals go_upto_region 7 with fail
        all_goals clear g1 g2 g3 g4 P1 P2 HF HSt HDt HMt HCK
        all_goals
          obtain ⟨⟨x00, x01, x02, x03, x04⟩, _⟩ := L0.five
          obtain ⟨v0, hv0⟩ : ∃ X, X = w6.alloc (.cells #[.int .i64 tk, .string ts, .int .i64 tn, .int .i64 ta, .slice A tm tc] 24) := ⟨_, rfl⟩
          have hb : Below w6.heap.size w6 v0 := by rw [hv0]; exact below_allocS w6 _
          have L1 : Lies v0 w6.heap.size 24 #[.int .i64 tk, .string ts, .int .i64 tn, .int .i64 ta, .slice A tm tc] := by rw [hv0]; exact Lies.new _ _ _
          obtain ⟨g1, hg1⟩ : ∃ g, g = w6.heap.size := ⟨_, rfl⟩
          go_upto_region 8 with fail
          rw [← hv0, ← hg1]
          rw [← hg1] at L1
          have h01 : g0 ≠ g1 := by have := L0.lt; omega
          have hw1 : w.heap.size ≤ g1 := by have := HB0.out.size; omega
          have hv1 : g1 < v0.heap.size := L1.lt
          have hR0 : ClosR w (.node tk ts tn ta tl) #[.int .i64 tk, .string ts, .int .i64 tn, .int .i64 ta, .slice A tm tc] g0 g1 fr El 0 v0 := by
            refine ⟨HB0.out.trans (hb.mono HB0.out.size), L0.below hb L0.lt, ⟨A, c, ?_, ?_⟩, ?_⟩
            · have h9 := L1
              rw [HMtm.out, HTC.out] at h9
              exact h9
            · exact TIn.below _ (TIn.below _ (TIn.wide _ HTt.out fun g _ hlt => by show g ≠ g1; omega) HB0.out (Nat.le_refl _)) hb (Nat.le_refl _)
            · exact (hl.keep (Y := fun g => g ≠ g1) fun g j _ hlt => ⟨rfl, by show g ≠ g1; omega⟩).below hb (Nat.le_refl _)
          clear hv0 hg1 hb L1 L0 HB0 hl x00 x01 x02 x03 x04
          go_wp2_with fail
          go_loopw [9] (fun x wr => ∃ i : Nat, i ≤ fn ∧ x = .int .i64 i ∧ ClosR w (.node tk ts tn ta tl) #[.int .i64 tk, .string ts, .int .i64 tn, .int .i64 ta, .slice A tm tc] g0 g1 fr El i wr) (fun x _ => fn - (intOf x).toNat)
          case atStart => exact ⟨0, by omega, rfl, hR0⟩
          case round =>
            obtain ⟨i, hi, rfl, hb, L0, ⟨Au, cu, L1, hu⟩, hl⟩ := hrel
            clear hR0
            by_cases hlt : i < fn
            · have hit : i < fr.length := by have := HLfn.out; omega
              have HSX := Lib.hid (HSZ.out (by simp) i hit)
              obtain ⟨g, o, rfl, hgn, d0⟩ := hl i hit
              have HTK : Hid (lamsT (fr.take (i + 1)) (.node tk ts tn ta tl) = lamT (fr[i]'hit) (lamsT (fr.take i) (.node tk ts tn ta tl))) := Lib.hid (by rw [List.take_succ_eq_append_getElem hit, lams_snoc])
              obtain ⟨x, hx⟩ : ∃ x, x = fr[i]'hit := ⟨_, rfl⟩
              obtain ⟨u, hu9⟩ : ∃ u, u = lamsT (fr.take i) (.node tk ts tn ta tl) := ⟨_, rfl⟩
              rw [← hx] at d0 HSX HTK
              rw [← hu9] at L1 hu HTK
              clear hx hu9 hit
              obtain ⟨uk, huk⟩ : ∃ z, z = u.kind := ⟨_, rfl⟩
              obtain ⟨us, hus⟩ : ∃ z, z = u.name := ⟨_, rfl⟩
              obtain ⟨un, hun⟩ : ∃ z, z = u.n := ⟨_, rfl⟩
              obtain ⟨ua, hua⟩ : ∃ z, z = u.place := ⟨_, rfl⟩
              obtain ⟨um, hum⟩ : ∃ z, z = u.parts.length := ⟨_, rfl⟩
              obtain ⟨uc, huc⟩ : ∃ z, z = capF um cu := ⟨_, rfl⟩
              have HU : Hid (cellsT u Au cu = [.int .i64 uk, .string us, .int .i64 un, .int .i64 ua, .slice Au um uc]) := Lib.hid (by rw [huk, hus, hun, hua, huc, hum]; rfl)
              rw [← huk, ← hus, ← hun, ← hua, ← hum, ← huc] at L1
              clear huk hus hun hua hum huc
              have HB := Lib.hid hb
              have HL0 := Lib.hid L0
              have HL1 := Lib.hid L1
              have HLS := Lib.hid hl
              have HUI := Lib.hid hu
              obtain ⟨⟨y0, y1, y2, y3, y4⟩, z0, z1, z2, z3, z4⟩ := L1.five
              have hsz : g1 < wr.heap.size := L1.lt
              have a0 : (wr.alloc (.cells #[.int .i64 uk, .string us, .int .i64 un, .int .i64 ua, .slice Au um uc] 24)).cell? ⟨g, o + i, none⟩ = some (.string x) := ((below_allocS wr _).cell (p := ⟨g, o + i, none⟩) (cell_lt d0)).trans d0
              obtain ⟨⟨b0, b1, b2, b3, b4⟩, f0, f1, f2, f3, f4⟩ := (L1.old (.cells #[.int .i64 uk, .string us, .int .i64 un, .int .i64 ua, .slice Au um uc] 24)).five
              clear hb L0 L1 hl hu hgn
              go_wp2_with fail
              go_region
              go_wp2_with fail
              go_roundw
              case rel => exact ⟨i + 1, by omega, by go_num, closR_next HB.out HL0.out HL1.out HUI.out HLS.out h01 hw1 hsz HU.out HSX.out HTK.out⟩
              case measure => simp [intOf]; omega
            · obtain rfl : i = fn := by omega
              have HTK : Hid (fr.take i = fr) := Lib.hid (List.take_of_length_le (by have := HLfn.out; omega))
              rw [HTK.out] at L1 hu
              clear hlt hi HTK HSZ
              obtain ⟨fz, hfz⟩ : ∃ z, z = i := ⟨_, rfl⟩
              obtain ⟨U, hU⟩ : ∃ u, u = lamsT fr (.node tk ts tn ta tl) := ⟨_, rfl⟩
              rw [← hU] at L1 hu HFU HKU
              clear hU
              obtain ⟨uk, us, un, ua, ul⟩ := U
              simp only [Tr.kind, Tr.name, Tr.n, Tr.place, Tr.parts] at L1 HFU HKU
              obtain ⟨um, hum⟩ : ∃ z, z = ul.length := ⟨_, rfl⟩
              rw [← hum] at L1 HFU HKU
              clear hum
              obtain ⟨x0, x1, x2, x3, x4⟩ := L0.five.1
              have HLR := Lib.hid hl
              obtain ⟨V, hV⟩ : ∃ V, V = (wr.alloc (.cells #[.int .i64 tk, .string ts, .int .i64 tn, .int .i64 ta, .slice A tm tc] 24)).alloc (.cells #[.int .i64 2, .string s, .int .i64 0, .int .i64 0, .slice (some ⟨wr.heap.size, 0, none⟩) 1 1] 24) := ⟨_, rfl⟩
              have hb9 := below_allocS wr (.cells #[.int .i64 tk, .string ts, .int .i64 tn, .int .i64 ta, .slice A tm tc] 24)
              have hb8 : Below wr.heap.size wr V := by rw [hV]; exact hb9.alloc hb9.size _
              have L2 : Lies V (wr.heap.size + 1) 24 #[.int .i64 2, .string s, .int .i64 0, .int .i64 0, .slice (some ⟨wr.heap.size, 0, none⟩) 1 1] := by rw [hV]; exact lies_nextS _ _ _ _ (by simp)
              have LR : Lies V wr.heap.size 24 #[.int .i64 tk, .string ts, .int .i64 tn, .int .i64 ta, .slice A tm tc] := by rw [hV]; exact (Lies.new _ _ _).old _
              have hV2 : TIn V Any (lamT s (.node tk ts tn ta tl)) (some ⟨wr.heap.size, 0, none⟩) := by
                refine TIn.mk hss (by simp) (LIn.one (t1 := (.node tk ts tn ta tl)) (A1 := A) (c1 := c) LR ?_ trivial ?_)
                · rw [HMtm.out, HTC.out]; rfl
                · exact TIn.below _ (TIn.below _ HTt.out hb (Nat.le_refl _)) hb8 (Nat.le_refl _)
              obtain ⟨gr, hgr⟩ : ∃ g, g = wr.heap.size := ⟨_, rfl⟩
              go_wp2_with fail
              go_upto_region 13 with fail
              rw [← hV, ← hgr]
              rw [← hgr] at L2 hV2
              replace L0 := L0.below hb8 L0.lt
              replace L1 := L1.below hb8 L1.lt
              have hu2 := TIn.any _ (TIn.below _ hu hb8 (Nat.le_refl _))
              have hl2 := (hl.below hb8 (Nat.le_refl _)).any
              have HB0 := Lib.hid (hb.trans (hb8.mono hb.size))
              clear hV hgr hb9 hb8 LR hb hu hl HLR x0 x1 x2 x3 x4
              obtain ⟨El9, hEl⟩ : ∃ z, z = El := ⟨_, rfl⟩
              rw [← hEl] at hl2 ⊢
              clear hEl
              have HSS : Hid (∀ V', Below V.heap.size V V' → (fun V' : World => (V'.cell? ⟨g0, 0, none⟩ = some (.int .i64 tk) ∧ V'.cell? ⟨g0, 1, none⟩ = some (.string ts) ∧ V'.cell? ⟨g0, 2, none⟩ = some (.int .i64 tn) ∧ V'.cell? ⟨g0, 3, none⟩ = some (.int .i64 ta) ∧ V'.cell? ⟨g0, 4, none⟩ = some (.slice A tm tc) ∧ V'.cell? ⟨g1, 0, none⟩ = some (.int .i64 uk) ∧ V'.cell? ⟨g1, 1, none⟩ = some (.string us) ∧ V'.cell? ⟨g1, 2, none⟩ = some (.int .i64 un) ∧ V'.cell? ⟨g1, 3, none⟩ = some (.int .i64 ua) ∧ V'.cell? ⟨g1, 4, none⟩ = some (.slice Au um (capF um cu)))) V') := Lib.hid fun V' h =>
                ⟨(h.cell (p := ⟨g0, 0, none⟩) L0.lt).trans (L0.cell 0), (h.cell (p := ⟨g0, 1, none⟩) L0.lt).trans (L0.cell 1), (h.cell (p := ⟨g0, 2, none⟩) L0.lt).trans (L0.cell 2), (h.cell (p := ⟨g0, 3, none⟩) L0.lt).trans (L0.cell 3), (h.cell (p := ⟨g0, 4, none⟩) L0.lt).trans (L0.cell 4), (h.cell (p := ⟨g1, 0, none⟩) L1.lt).trans (L1.cell 0), (h.cell (p := ⟨g1, 1, none⟩) L1.lt).trans (L1.cell 1), (h.cell (p := ⟨g1, 2, none⟩) L1.lt).trans (L1.cell 2), (h.cell (p := ⟨g1, 3, none⟩) L1.lt).trans (L1.cell 3), (h.cell (p := ⟨g1, 4, none⟩) L1.lt).trans (L1.cell 4)⟩
              have H1 : Hid (∀ X, Below V.heap.size V X → Calls Tryz.prog 12 #[.agg #[.int .i64 uk, .string us, .int .i64 un, .int .i64 ua, .slice Au um (capF um cu)]] X (fun e w' => ∃ E x, e = .returned (.slice E 0 x) ∧ SIn w' Any [] E ∧ Below X.heap.size X w')) := Lib.hid fun X hX => HFU.out (by simp) (by simp) X (HB0.out.trans (hX.mono HB0.out.size)) Au cu (TIn.below _ hu2 hX (Nat.le_refl _))
              have H2 : Hid (∀ X, Below V.heap.size V X → Calls Tryz.prog 15 #[.agg #[.int .i64 uk, .string us, .int .i64 un, .int .i64 ua, .slice Au um (capF um cu)]] X (fun e w' => ∃ E x, e = .returned (.slice E kn x) ∧ AIn w' Any kr E ∧ Below X.heap.size X w')) := Lib.hid fun X hX => HKU.out (by simp) (by simp) X (HB0.out.trans (hX.mono HB0.out.size)) Au cu (TIn.below _ hu2 hX (Nat.le_refl _))
              have H3 : Hid (∀ X, Below V.heap.size V X → Calls Tryz.prog 15 #[.agg #[.int .i64 tk, .string ts, .int .i64 tn, .int .i64 ta, .slice A tm tc]] X (fun e w' => ∃ E x, e = .returned (.slice E kn x) ∧ AIn w' Any kr E ∧ Below X.heap.size X w')) := Lib.hid fun X hX => HKT.out (by simp) X (HB0.out.trans (hX.mono HB0.out.size))
              have H4 : Hid (∀ X, Below V.heap.size V X → ∀ (E G : Option Addr) (x y : Nat), AIn X Any kr E → AIn X Any kr G → Calls Tryz.prog 14 #[.slice E kn x, .slice G kn y] X (fun e w' => e = .returned (.bool true) ∧ Below X.heap.size X w')) := Lib.hid fun X hX E G x y h1 h2 => by
                have h := arities_any kr kr E G kn kn x y X HLkn.out HLkn.out (by omega) (by omega) h1 h2
                rw [decide_eq_true (rfl : kr = kr)] at h
                exact h
              have hb_1 : Below V.heap.size V V := Below.refl _ _
              refine wp_region_held_drew (S := (fun V' : World => (V'.cell? ⟨g0, 0, none⟩ = some (.int .i64 tk) ∧ V'.cell? ⟨g0, 1, none⟩ = some (.string ts) ∧ V'.cell? ⟨g0, 2, none⟩ = some (.int .i64 tn) ∧ V'.cell? ⟨g0, 3, none⟩ = some (.int .i64 ta) ∧ V'.cell? ⟨g0, 4, none⟩ = some (.slice A tm tc) ∧ V'.cell? ⟨g1, 0, none⟩ = some (.int .i64 uk) ∧ V'.cell? ⟨g1, 1, none⟩ = some (.string us) ∧ V'.cell? ⟨g1, 2, none⟩ = some (.int .i64 un) ∧ V'.cell? ⟨g1, 3, none⟩ = some (.int .i64 ua) ∧ V'.cell? ⟨g1, 4, none⟩ = some (.slice Au um (capF um cu))))) rfl (HSS.out _ hb_1.drew) (fun hSs => ?_)
              change wpAnyH _ _ _ _ _ 12 (Array.replicate 12 false) _ _
              refine wpAnyH_take (i := 0) (oi := ⟨some 71, _, _, _, _, _⟩) (v := .agg #[.int .i64 uk, .string us, .int .i64 un, .int .i64 ua, .slice Au um (capF um cu)]) rfl (by kernel_rfl) (by kernel_rfl) (by kernel_rfl) (fun _ _ _ h => h) (.inl ⟨by kernel_rfl, fun W hW => by first | (obtain ⟨z0, z1, z2, z3, z4, z5, z6, z7, z8, z9⟩ := hW; go_simp; done) | (obtain ⟨z0, z1, z2, z3, z4, z5, z6, z7, z8, z9⟩ := hW; go_simp; omega) | (obtain ⟨z0, z1, z2, z3, z4, z5, z6, z7, z8, z9⟩ := hW; go_simp; exact IntWalk.i64_in _ (by omega)) | (obtain ⟨z0, z1, z2, z3, z4, z5, z6, z7, z8, z9⟩ := hW; go_simp; simp [*]; done)⟩) hSs ?_
              try simp only [Act.put, List.setIfInBounds_toArray, List.set_cons_zero, List.set_cons_succ]
              refine wpAnyH_ready (rs := [1]) (by kernel_rfl) (by simp) (AllReadyH.cons rfl (fun K hK => ?_) AllReadyH.nil)
              go_simp
              refine (H1.out _ (hb_1.drew)).mono ?_
              rintro e u_2 ⟨A_2, c_2, rfl, hR_2, hq_2⟩
              have hb_2 := (hb_1.drew).trans (hq_2.mono (hb_1.drew).size)
              have hl2_2 := (hl2.below (Below.refl _ _).drew (Nat.le_refl _)).below hq_2 (Nat.le_refl _)
              clear hl2
              refine hK.out _ _ (HSS.out _ hb_2) (fun hS_2 => ?_)
              clear hK K
              try simp only [Act.put, List.setIfInBounds_toArray, List.set_cons_zero, List.set_cons_succ]
              refine wpAnyH_take (i := 2) (oi := ⟨some 73, _, _, _, _, _⟩) (v := .int .i64 (0 : Int)) rfl (by kernel_rfl) (by kernel_rfl) (by kernel_rfl) (fun _ _ _ h => h) (.inl ⟨by kernel_rfl, fun W hW => by first | (obtain ⟨z0, z1, z2, z3, z4, z5, z6, z7, z8, z9⟩ := hW; go_simp; done) | (obtain ⟨z0, z1, z2, z3, z4, z5, z6, z7, z8, z9⟩ := hW; go_simp; omega) | (obtain ⟨z0, z1, z2, z3, z4, z5, z6, z7, z8, z9⟩ := hW; go_simp; exact IntWalk.i64_in _ (by omega)) | (obtain ⟨z0, z1, z2, z3, z4, z5, z6, z7, z8, z9⟩ := hW; go_simp; simp [*]; done)⟩) hS_2 ?_
              try simp only [Act.put, List.setIfInBounds_toArray, List.set_cons_zero, List.set_cons_succ]
              refine wpAnyH_take (i := 3) (oi := ⟨some 74, _, _, _, _, _⟩) (v := .bool false) rfl (by kernel_rfl) (by kernel_rfl) (by kernel_rfl) (fun _ _ _ h => h) (.inl ⟨by kernel_rfl, fun W hW => by first | (obtain ⟨z0, z1, z2, z3, z4, z5, z6, z7, z8, z9⟩ := hW; go_simp; done) | (obtain ⟨z0, z1, z2, z3, z4, z5, z6, z7, z8, z9⟩ := hW; go_simp; omega) | (obtain ⟨z0, z1, z2, z3, z4, z5, z6, z7, z8, z9⟩ := hW; go_simp; exact IntWalk.i64_in _ (by omega)) | (obtain ⟨z0, z1, z2, z3, z4, z5, z6, z7, z8, z9⟩ := hW; go_simp; simp [*]; done)⟩) hS_2 ?_
              try simp only [Act.put, List.setIfInBounds_toArray, List.set_cons_zero, List.set_cons_succ]
              refine wpAnyH_take (i := 4) (oi := ⟨some 75, _, _, _, _, _⟩) (v := .bool false) rfl (by kernel_rfl) (by kernel_rfl) (by kernel_rfl) (fun _ _ _ h => h) (.inl ⟨by kernel_rfl, fun W hW => by kernel_rfl⟩) hS_2 ?_
              try simp only [Act.put, List.setIfInBounds_toArray, List.set_cons_zero, List.set_cons_succ]
              refine wpAnyH_take (i := 5) (oi := ⟨some 76, _, _, _, _, _⟩) (v := .agg #[.int .i64 uk, .string us, .int .i64 un, .int .i64 ua, .slice Au um (capF um cu)]) rfl (by kernel_rfl) (by kernel_rfl) (by kernel_rfl) (fun _ _ _ h => h) (.inl ⟨by kernel_rfl, fun W hW => by first | (obtain ⟨z0, z1, z2, z3, z4, z5, z6, z7, z8, z9⟩ := hW; go_simp; done) | (obtain ⟨z0, z1, z2, z3, z4, z5, z6, z7, z8, z9⟩ := hW; go_simp; omega) | (obtain ⟨z0, z1, z2, z3, z4, z5, z6, z7, z8, z9⟩ := hW; go_simp; exact IntWalk.i64_in _ (by omega)) | (obtain ⟨z0, z1, z2, z3, z4, z5, z6, z7, z8, z9⟩ := hW; go_simp; simp [*]; done)⟩) hS_2 ?_
              try simp only [Act.put, List.setIfInBounds_toArray, List.set_cons_zero, List.set_cons_succ]
              refine wpAnyH_take (i := 7) (oi := ⟨some 78, _, _, _, _, _⟩) (v := .agg #[.int .i64 tk, .string ts, .int .i64 tn, .int .i64 ta, .slice A tm tc]) rfl (by kernel_rfl) (by kernel_rfl) (by kernel_rfl) (fun _ _ _ h => h) (.inl ⟨by kernel_rfl, fun W hW => by first | (obtain ⟨z0, z1, z2, z3, z4, z5, z6, z7, z8, z9⟩ := hW; go_simp; done) | (obtain ⟨z0, z1, z2, z3, z4, z5, z6, z7, z8, z9⟩ := hW; go_simp; omega) | (obtain ⟨z0, z1, z2, z3, z4, z5, z6, z7, z8, z9⟩ := hW; go_simp; exact IntWalk.i64_in _ (by omega)) | (obtain ⟨z0, z1, z2, z3, z4, z5, z6, z7, z8, z9⟩ := hW; go_simp; simp [*]; done)⟩) hS_2 ?_
              try simp only [Act.put, List.setIfInBounds_toArray, List.set_cons_zero, List.set_cons_succ]
              refine wpAnyH_ready (rs := [6]) (by kernel_rfl) (by simp) (AllReadyH.cons rfl (fun K hK => ?_) AllReadyH.nil)
              rw [if_pos (by kernel_rfl)]
              go_simp
              refine (H2.out _ hb_2).mono ?_
              rintro e u_3 ⟨A_3, c_3, rfl, hR_3, hq_3⟩
              have hb_3 := hb_2.trans (hq_3.mono hb_2.size)
              have hl2_2_3 := hl2_2.below hq_3 (Nat.le_refl _)
              have hR_2_3 := hR_2.below hq_3 (Nat.le_refl _)
              clear hl2_2 hR_2
              refine hK.out _ _ (HSS.out _ hb_3) (fun hS_3 => ?_)
              clear hK K
              try simp only [Act.put, List.setIfInBounds_toArray, List.set_cons_zero, List.set_cons_succ]
              refine wpAnyH_ready (rs := [8]) (by kernel_rfl) (by simp) (AllReadyH.cons rfl (fun K hK => ?_) AllReadyH.nil)
              rw [if_pos (by kernel_rfl)]
              go_simp
              refine (H3.out _ hb_3).mono ?_
              rintro e u_4 ⟨A_4, c_4, rfl, hR_4, hq_4⟩
              have hb_4 := hb_3.trans (hq_4.mono hb_3.size)
              have hl2_2_3_4 := hl2_2_3.below hq_4 (Nat.le_refl _)
              have hR_2_3_4 := hR_2_3.below hq_4 (Nat.le_refl _)
              have hR_3_4 := hR_3.below hq_4 (Nat.le_refl _)
              clear hl2_2_3 hR_2_3 hR_3
              refine hK.out _ _ (HSS.out _ hb_4) (fun hS_4 => ?_)
              clear hK K
              try simp only [Act.put, List.setIfInBounds_toArray, List.set_cons_zero, List.set_cons_succ]
              refine wpAnyH_ready (rs := [9]) (by kernel_rfl) (by simp) (AllReadyH.cons rfl (fun K hK => ?_) AllReadyH.nil)
              rw [if_pos (by kernel_rfl)]
              go_simp
              refine (H4.out _ hb_4 A_3 A_4 c_3 c_4 hR_3_4 hR_4).mono ?_
              rintro e u_5 ⟨rfl, hq_5⟩
              have hb_5 := hb_4.trans (hq_5.mono hb_4.size)
              have hl2_2_3_4_5 := hl2_2_3_4.below hq_5 (Nat.le_refl _)
              have hR_2_3_4_5 := hR_2_3_4.below hq_5 (Nat.le_refl _)
              have hR_3_4_5 := hR_3_4.below hq_5 (Nat.le_refl _)
              have hR_4_5 := hR_4.below hq_5 (Nat.le_refl _)
              clear hl2_2_3_4 hR_2_3_4 hR_3_4 hR_4
              refine hK.out _ _ (HSS.out _ hb_5) (fun hS_5 => ?_)
              clear hK K
              try simp only [Act.put, List.setIfInBounds_toArray, List.set_cons_zero, List.set_cons_succ]
              refine wpAnyH_take (i := 10) (oi := ⟨some 81, _, _, _, _, _⟩) (v := .bool false) rfl (by kernel_rfl) (by kernel_rfl) (by kernel_rfl) (fun _ _ _ h => h) (.inl ⟨by kernel_rfl, fun W hW => by kernel_rfl⟩) hS_5 ?_
              try simp only [Act.put, List.setIfInBounds_toArray, List.set_cons_zero, List.set_cons_succ]
              refine wpAnyH_take (i := 11) (oi := ⟨some 82, _, _, _, _, _⟩) (v := .bool false) rfl (by kernel_rfl) (by kernel_rfl) (by kernel_rfl) (fun _ _ _ h => h) (.inl ⟨by kernel_rfl, fun W hW => by kernel_rfl⟩) hS_5 ?_
              try simp only [Act.put, List.setIfInBounds_toArray, List.set_cons_zero, List.set_cons_succ]
              refine wpAnyH_done (by kernel_rfl) ?_ _
              have hbV := hb_5
              have hl3 := hl2_2_3_4_5
              replace HB0 := Lib.hid (HB0.out.trans (hbV.mono HB0.out.size))
              replace L2 := L2.below hbV L2.lt
              replace hV2 := TIn.below _ hV2 hbV (Nat.le_refl _)
              obtain ⟨WZ, hWZ⟩ : ∃ W, W = u_5 := ⟨_, rfl⟩
              rw [← hWZ] at hl3 HB0 L2 hV2 ⊢
              clear hWZ hbV HSS H1 H2 H3 H4 HFU HKU HKT L0 L1
              obtain ⟨⟨y0, y1, y2, y3, y4⟩, _⟩ := L2.five
              go_wp2_with fail
              refine (HMV.out WZ HB0.out _ hV2).mono ?_
              rintro e wa ⟨rfl, hba⟩
              have hl4 := hl3.below hba (Nat.le_refl _)
              have hV4 := TIn.below _ hV2 hba (Nat.le_refl _)
              have HB4 := Lib.hid (HB0.out.trans (hba.mono HB0.out.size))
              have L4 := L2.below hba L2.lt
              clear hl3 hV2 HB0 L2 hba y0 y1 y2 y3 y4
              cases vm with
              | false =>
                go_wp2_with fail
                go_ret
                exact ⟨rfl, HB4.out⟩
              | true =>
                have HP := Lib.hid (P3.out (by simp))
                have HIN := Lib.hid (in5_any fr s El9 i Elc wa HLfn.out (by omega) hl4)
                rw [← HLBE.out] at HIN
                go_wp2_with fail
                refine HIN.out.mono ?_
                rintro e wb ⟨rfl, hbb⟩
                have hV5 := TIn.below _ hV4 hbb (Nat.le_refl _)
                have HB5 := Lib.hid (HB4.out.trans (hbb.mono HB4.out.size))
                have L5 := L4.below hbb L4.lt
                clear HIN hl4 hV4 HB4 L4 hbb
                obtain ⟨⟨y0, y1, y2, y3, y4⟩, _⟩ := L5.five
                cases be with
                | false =>
                  have hp : vf = i := by have := HP.out; simpa using this
                  go_wp2_with fail
                  refine (HFV.out (by simp) wb HB5.out _ hV5).mono ?_
                  rintro e wc ⟨Ev, Evc, rfl, _, hbc⟩
                  go_wp2_with fail
                  go_ret
                  exact ⟨ret_bool (by simp), HB5.out.trans (hbc.mono HB5.out.size)⟩
                | true =>
                  have hp : vf + 1 = i := by have := HP.out; simpa using this
                  go_wp2_with fail
                  refine (HFV.out (by simp) wb HB5.out _ hV5).mono ?_
                  rintro e wc ⟨Ev, Evc, rfl, _, hbc⟩
                  go_wp2_with fail
                  go_ret
                  exact ⟨ret_bool (by simp; omega), HB5.out.trans (hbc.mono HB5.out.size)⟩
end Lx
end Go.Proofs.YtobdoahdjbmflaaGreatDoor
