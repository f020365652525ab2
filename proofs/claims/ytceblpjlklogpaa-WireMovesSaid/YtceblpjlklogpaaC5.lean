/-
  Texts that lie one behind the other: NwC NwF.
-/
import Derived.Test.YtceblpjlklogpaaC4
import Derived.Deep.RegionHeld3
namespace Go.Proofs.Ytceblpjlklogpaa
open Go Go.RowKit
namespace Lx
set_option maxRecDepth 100000
theorem Cut.put2 {w : World} {D G gp m : Nat} {l : List Nd} {cs ps : Array Value} (h : Cut w D G gp m l m cs ps) (i k : Nat) (q : Int × Int) (hp : hasV l ((i : Int), (k : Int)) = true) :
    ∃ ps', Cut ((w.setCell ⟨gp, offN l i * 2 + k * 2, none⟩ (.int .i64 q.1)).setCell ⟨gp, offN l i * 2 + k * 2 + 1, none⟩ (.int .i64 q.2)) D G gp m (setNV l ((i : Int), (k : Int)) q) m cs ps' := by
  obtain ⟨ps', h'⟩ := h.put ((i : Int), (k : Int)) q.1 q.2 hp
  simp only [Int.toNat_natCast] at h'
  rw [show offN l i * 2 + k * 2 = (offN l i + k) * 2 by omega]
  exact ⟨ps', h'⟩
/-- A port's own cells. -/
theorem Cut.cells2 {w : World} {D G gp m : Nat} {l : List Nd} {cs ps : Array Value} (h : Cut w D G gp m l m cs ps) (i k : Nat) (hi : i < m) (hk : k < (ndAt l i).to.length) :
    (∃ u, w.cell? ⟨gp, offN l i * 2 + k * 2, none⟩ = some u) ∧ ∃ u, w.cell? ⟨gp, offN l i * 2 + k * 2 + 1, none⟩ = some u := by
  have hl := h.len
  have hlt : offN l i + k < (portsOf l).length := by have := offN_end l i (by omega); omega
  obtain ⟨c0, c1⟩ := cellsTo_at (portsOf l) (offN l i + k) hlt
  have e0 := h.pc _ _ c0
  have e1 := h.pc _ _ c1
  rw [← h.plies.cell, show (offN l i + k) * 2 = offN l i * 2 + k * 2 by omega] at e0
  rw [← h.plies.cell, show (offN l i + k) * 2 + 1 = offN l i * 2 + k * 2 + 1 by omega] at e1
  exact ⟨⟨_, e0⟩, ⟨_, e1⟩⟩
theorem nat_port {ns : List Nd} {p : Int × Int} (h : hasV ns p = true) : ∃ i k : Nat, p = ((i : Int), (k : Int)) ∧ i < ns.length ∧ k < (ndAt ns i).to.length := by
  obtain ⟨p1, p2, p3, p4⟩ := (hasV_iff ns p).1 h
  obtain ⟨a, b⟩ := p
  simp only at p1 p2 p3 p4
  exact ⟨a.toNat, b.toNat, by rw [Int.toNat_of_nonneg p1, Int.toNat_of_nonneg p3], by omega, by omega⟩
/-- A net without nodes has no ports. -/
theorem no_ports {p : Int × Int} : hasV [] p = false := by
  rw [Bool.eq_false_iff]
  intro h
  obtain ⟨p1, p2, _⟩ := (hasV_iff [] p).1 h
  simp at p2
  omega
/-- A net in new memory, whatever it has. -/
def GivesAny (l : List Nd) (m : Nat) (cap : Int) (w : World) (e : Ending) (w' : World) : Prop :=
  ∃ A c', e = .returned (.agg #[.slice A m c', .int .i64 cap]) ∧ m ≤ c' ∧ NdsIn w' (fun g => w.heap.size ≤ g) l A ∧ Below w.heap.size w w'
/-- Of at most so many nodes, ports and alternatives. -/
def Few9 (l : List Nd) : Prop := ∀ i, i < l.length → (ndAt l i).to.length ≤ 100000 ∧ (ndAt l i).alts.length ≤ 100000
theorem capN_ge {n c : Nat} (h : n ≤ c) : capN n c = c := capN_of h
theorem net_all (l : List Nd) (A : Option Addr) (m c : Nat) (cap : Int) (w : World) (hm : m = l.length) (hm2 : m ≤ 100000) (hk : Few9 l) (hN : NdsIn w AnyB l A) :
    Calls Try.prog 28 #[.agg #[.slice A m c, .int .i64 cap]] w (GivesAny l m cap w) := by
  by_cases h0 : 0 < m
  · refine (net_any l A m c cap w hm h0 hm2 hk hN).mono ?_
    rintro e w' ⟨G, gp, c', cs, ps, rfl, hC, _, h2, _, hb⟩
    exact ⟨_, _, rfl, h2, hC.row, hb⟩
  · have hl : l = [] := List.eq_nil_of_length_eq_zero (by omega)
    have hm0 : m = 0 := by omega
    subst hm0 hl
    refine (net_none A c cap w).mono ?_
    rintro e w' ⟨A', c', rfl, hb⟩
    exact ⟨_, _, rfl, Nat.zero_le _, NdsIn.nil, hb⟩
set_option maxHeartbeats 16000000 in
/-- Of two ports one is not there, or they are one. -/
theorem wlink_no (l : List Nd) (A : Option Addr) (m c : Nat) (cap : Int) (p q : Int × Int) (w : World) (hm : m = l.length) (hm2 : m ≤ 100000) (hk : Few9 l) (hN : NdsIn w AnyB l A) (hno : (!(p == q) && (hasV l p && hasV l q)) = false) :
    Calls Try.prog 12 #[.agg #[.slice A m c, .int .i64 cap], .agg #[.int .i64 p.1, .int .i64 p.2], .agg #[.int .i64 q.1, .int .i64 q.2]] w (GivesNet l cap [.int .i64 130] w) := by
  obtain ⟨a, b⟩ := p
  obtain ⟨a2, b2⟩ := q
  simp only
  obtain ⟨w1, hw1⟩ : ∃ w1, w1 = ((((w.alloc (.cells #[.slice A m c, .int .i64 cap] 24)).alloc (.cells #[.int .i64 a, .int .i64 b] 26)).alloc (.cells #[.int .i64 a2, .int .i64 b2] 26)).alloc (.cells #[.slice none 0 0, .int .i64 0] 24)) := ⟨_, rfl⟩
  have hb : Below w.heap.size w w1 := by rw [hw1]; exact ((((Below.refl _ w).alloc (Nat.le_refl _) _).alloc (by simp) _).alloc (by simp; omega) _).alloc (by simp; omega) _
  have L0 : Lies w1 w.heap.size 24 #[.slice A m c, .int .i64 cap] := by rw [hw1]; exact (((Lies.new _ _ _).old _).old _).old _
  have L1 : Lies w1 (w.heap.size + 1) 26 #[.int .i64 a, .int .i64 b] := by rw [hw1]; exact Lies.old (Lies.old (by simpa using Lies.new (w.alloc (.cells #[.slice A m c, .int .i64 cap] 24)) 26 #[.int .i64 a, .int .i64 b]) _) _
  have L2 : Lies w1 (w.heap.size + 2) 26 #[.int .i64 a2, .int .i64 b2] := by rw [hw1]; exact Lies.old (by simpa using Lies.new ((w.alloc (.cells #[.slice A m c, .int .i64 cap] 24)).alloc (.cells #[.int .i64 a, .int .i64 b] 26)) 26 #[.int .i64 a2, .int .i64 b2]) _
  have L3 : Lies w1 (w.heap.size + 3) 24 #[.slice none 0 0, .int .i64 0] := by rw [hw1]; simpa using Lies.new (((w.alloc (.cells #[.slice A m c, .int .i64 cap] 24)).alloc (.cells #[.int .i64 a, .int .i64 b] 26)).alloc (.cells #[.int .i64 a2, .int .i64 b2] 26)) 24 #[.slice none 0 0, .int .i64 0]
  have hs1 : w.heap.size + 4 ≤ w1.heap.size := by rw [hw1]; simp
  have HC := Lib.hid (net_all l A m c cap w1 hm hm2 hk (hN.below hb (Nat.le_refl _)))
  have HL0 := Lib.hid L0
  have HL1 := Lib.hid L1
  have HL2 := Lib.hid L2
  have HL3 := Lib.hid L3
  have HB := Lib.hid hb
  have HM := Lib.hid hm
  have HNO := Lib.hid hno
  obtain ⟨n0, n1⟩ := two_cells L0
  clear hN hm hk L0 L1 L2 L3 hb hno
  go_enter Try.func12, Try.ntmps12
  go_upto_region 1 with fail
  rw [← hw1]
  clear hw1
  go_wp2_with fail
  refine HC.out.mono ?_
  rintro e w2 ⟨A', c', rfl, hmc, hNd, hb2⟩
  clear HC n0 n1
  replace HL0 := Lib.hid (HL0.out.below hb2 HL0.out.lt)
  replace HL1 := Lib.hid (HL1.out.below hb2 HL1.out.lt)
  replace HL2 := Lib.hid (HL2.out.below hb2 HL2.out.lt)
  replace HL3 := Lib.hid (HL3.out.below hb2 HL3.out.lt)
  replace HB := Lib.hid (HB.out.trans (hb2.mono HB.out.size))
  have hNd' : NdsIn w2 (fun g => w.heap.size + 4 ≤ g) l A' := hNd.keep (keep_wide fun g hg _ => Nat.le_trans hs1 hg)
  have HNd := Lib.hid hNd'
  obtain ⟨n0, n1⟩ := two_cells HL0.out
  have f0 := HL0.out.frozen 0
  have f1 := HL0.out.frozen 1
  clear hb2 hNd hNd'
  go_upto_region 2 with fail
  obtain ⟨V, hV⟩ : ∃ V, V = (w2.setCell ⟨w.heap.size, 0, none⟩ (.slice A' m c')).setCell ⟨w.heap.size, 1, none⟩ (.int .i64 cap) := ⟨_, rfl⟩
  replace HL0 : Hid (Lies V w.heap.size 24 #[.slice A' m c', .int .i64 cap]) := Lib.hid (by rw [hV]; exact lies_put2 HL0.out _ _)
  replace HL1 := Lib.hid (show Lies V (w.heap.size + 1) _ _ by rw [hV]; exact (HL1.out.far (p := ⟨w.heap.size, 0, none⟩) (by simp) _).far (p := ⟨w.heap.size, 1, none⟩) (by simp) _)
  replace HL2 := Lib.hid (show Lies V (w.heap.size + 2) _ _ by rw [hV]; exact (HL2.out.far (p := ⟨w.heap.size, 0, none⟩) (by simp) _).far (p := ⟨w.heap.size, 1, none⟩) (by simp) _)
  replace HL3 := Lib.hid (show Lies V (w.heap.size + 3) _ _ by rw [hV]; exact (HL3.out.far (p := ⟨w.heap.size, 0, none⟩) (by simp) _).far (p := ⟨w.heap.size, 1, none⟩) (by simp) _)
  replace HB : Hid (Below w.heap.size w V) := Lib.hid (by rw [hV]; exact (HB.out.setCell (p := ⟨w.heap.size, 0, none⟩) (Nat.le_refl _) _).setCell (p := ⟨w.heap.size, 1, none⟩) (Nat.le_refl _) _)
  replace HNd : Hid (NdsIn V (fun g => w.heap.size + 4 ≤ g) l A') := Lib.hid (by rw [hV]; exact (HNd.out.keep (keep_set _ _ (by show ¬ w.heap.size + 4 ≤ w.heap.size; omega))).keep (keep_set _ _ (by show ¬ w.heap.size + 4 ≤ w.heap.size; omega)))
  rw [← hV]
  clear hV n0 n1 f0 f1
  have HH := Lib.hid (wboth_any l A' m c' cap (a, b) (a2, b2) V HM.out HNd.out.any)
  rw [HNO.out] at HH
  simp only at HH
  obtain ⟨n0, n1⟩ := two_cells HL0.out
  obtain ⟨y0, y1⟩ := two_cells HL1.out
  obtain ⟨z0, z1⟩ := two_cells HL2.out
  go_wp2_with fail
  refine HH.out.mono ?_
  rintro e V2 ⟨rfl, hb3⟩
  clear HH n0 n1 y0 y1 z0 z1
  replace HL0 := Lib.hid (HL0.out.below hb3 HL0.out.lt)
  replace HL3 := Lib.hid (HL3.out.below hb3 HL3.out.lt)
  replace HB := Lib.hid (HB.out.trans (hb3.mono HB.out.size))
  replace HNd := Lib.hid (HNd.out.below hb3 (Nat.le_refl _))
  obtain ⟨n0, n1⟩ := two_cells HL0.out
  obtain ⟨r0, r1⟩ := two_cells HL3.out
  have f0 := HL3.out.frozen 0
  have f1 := HL3.out.frozen 1
  clear hb3
  go_wp2_with fail
  have hR9 := lies_put2 HL3.out (.slice A' m c') (.int .i64 cap)
  refine bodyPost_ret (res_net2 (p := 6) Try.results12 rfl hR9) rfl ⟨A', c', ?_, ?_, (HB.out.setCell (p := ⟨w.heap.size + 3, 0, none⟩) (by show w.heap.size ≤ w.heap.size + 3; omega) _).setCell (p := ⟨w.heap.size + 3, 1, none⟩) (by show w.heap.size ≤ w.heap.size + 3; omega) _⟩
  · simp only [netv]
    rw [← HM.out, capN_of hmc]
    rfl
  · exact ((HNd.out.keep (keep_set ⟨w.heap.size + 3, 0, none⟩ _ (by show ¬ w.heap.size + 4 ≤ w.heap.size + 3; omega))).keep (keep_set ⟨w.heap.size + 3, 1, none⟩ _ (by show ¬ w.heap.size + 4 ≤ w.heap.size + 3; omega))).keep (keep_wide fun g hg _ => by omega)
set_option maxHeartbeats 16000000 in
/-- Two ports that are there. -/
theorem wlink_ok (l : List Nd) (A : Option Addr) (m c : Nat) (cap : Int) (i k i2 k2 : Nat) (w : World) (hm : m = l.length) (hm2 : m ≤ 100000) (hk : Few9 l) (hN : NdsIn w AnyB l A) (hp : hasV l ((i : Int), (k : Int)) = true) (hq : hasV l ((i2 : Int), (k2 : Int)) = true) (hne : (((i : Int), (k : Int)) == ((i2 : Int), (k2 : Int))) = false) :
    Calls Try.prog 12 #[.agg #[.slice A m c, .int .i64 cap], .agg #[.int .i64 i, .int .i64 k], .agg #[.int .i64 i2, .int .i64 k2]] w (GivesNet (setNV (setNV l ((i : Int), (k : Int)) ((i2 : Int), (k2 : Int))) ((i2 : Int), (k2 : Int)) ((i : Int), (k : Int))) cap [.int .i64 0] w) := by
  obtain ⟨w1, hw1⟩ : ∃ w1, w1 = ((((w.alloc (.cells #[.slice A m c, .int .i64 cap] 24)).alloc (.cells #[.int .i64 i, .int .i64 k] 26)).alloc (.cells #[.int .i64 i2, .int .i64 k2] 26)).alloc (.cells #[.slice none 0 0, .int .i64 0] 24)) := ⟨_, rfl⟩
  have hb : Below w.heap.size w w1 := by rw [hw1]; exact ((((Below.refl _ w).alloc (Nat.le_refl _) _).alloc (by simp) _).alloc (by simp; omega) _).alloc (by simp; omega) _
  have L0 : Lies w1 w.heap.size 24 #[.slice A m c, .int .i64 cap] := by rw [hw1]; exact (((Lies.new _ _ _).old _).old _).old _
  have L1 : Lies w1 (w.heap.size + 1) 26 #[.int .i64 i, .int .i64 k] := by rw [hw1]; exact Lies.old (Lies.old (by simpa using Lies.new (w.alloc (.cells #[.slice A m c, .int .i64 cap] 24)) 26 #[.int .i64 i, .int .i64 k]) _) _
  have L2 : Lies w1 (w.heap.size + 2) 26 #[.int .i64 i2, .int .i64 k2] := by rw [hw1]; exact Lies.old (by simpa using Lies.new ((w.alloc (.cells #[.slice A m c, .int .i64 cap] 24)).alloc (.cells #[.int .i64 i, .int .i64 k] 26)) 26 #[.int .i64 i2, .int .i64 k2]) _
  have L3 : Lies w1 (w.heap.size + 3) 24 #[.slice none 0 0, .int .i64 0] := by rw [hw1]; simpa using Lies.new (((w.alloc (.cells #[.slice A m c, .int .i64 cap] 24)).alloc (.cells #[.int .i64 i, .int .i64 k] 26)).alloc (.cells #[.int .i64 i2, .int .i64 k2] 26)) 24 #[.slice none 0 0, .int .i64 0]
  have hs1 : w.heap.size + 4 ≤ w1.heap.size := by rw [hw1]; simp
  obtain ⟨_, _, e9, hil, hkl⟩ := nat_port hp
  obtain ⟨e1, e2⟩ := Prod.mk.inj e9
  obtain ⟨_, _, e8, hil2, hkl2⟩ := nat_port hq
  obtain ⟨e3, e4⟩ := Prod.mk.inj e8
  obtain rfl := Int.ofNat.inj e1
  obtain rfl := Int.ofNat.inj e2
  obtain rfl := Int.ofNat.inj e3
  obtain rfl := Int.ofNat.inj e4
  have HC := Lib.hid (net_any l A m c cap w1 hm (by omega) hm2 hk (hN.below hb (Nat.le_refl _)))
  have HL0 := Lib.hid L0
  have HL1 := Lib.hid L1
  have HL2 := Lib.hid L2
  have HL3 := Lib.hid L3
  have HB := Lib.hid hb
  have HM := Lib.hid hm
  have HP := Lib.hid hp
  have HQ := Lib.hid hq
  have HNE := Lib.hid hne
  have HKL := Lib.hid hkl
  have HKL2 := Lib.hid hkl2
  have him : i < m := by omega
  have him2 : i2 < m := by omega
  obtain ⟨n0, n1⟩ := two_cells L0
  clear hN hm hk L0 L1 L2 L3 hb hp hq hne e9 e8 e1 e2 e3 e4 hil hil2 hkl hkl2
  go_enter Try.func12, Try.ntmps12
  go_upto_region 1 with fail
  rw [← hw1]
  clear hw1
  go_wp2_with fail
  refine HC.out.mono ?_
  rintro e w2 ⟨G, gp, c', cs, ps, rfl, hCut, hcs, hmc, hcm, hb2⟩
  clear HC n0 n1
  replace HL0 := Lib.hid (HL0.out.below hb2 HL0.out.lt)
  replace HL1 := Lib.hid (HL1.out.below hb2 HL1.out.lt)
  replace HL2 := Lib.hid (HL2.out.below hb2 HL2.out.lt)
  replace HL3 := Lib.hid (HL3.out.below hb2 HL3.out.lt)
  replace HB := Lib.hid (HB.out.trans (hb2.mono HB.out.size))
  have hCut' := hCut.less hs1
  have HCut := Lib.hid hCut'
  obtain ⟨n0, n1⟩ := two_cells HL0.out
  have f0 := HL0.out.frozen 0
  have f1 := HL0.out.frozen 1
  obtain ⟨hDG, hDp, _⟩ := hCut'.own
  clear hb2 hCut hCut' hcs hcm
  go_upto_region 2 with fail
  obtain ⟨V, hV⟩ : ∃ V, V = (w2.setCell ⟨w.heap.size, 0, none⟩ (.slice (some ⟨G, 0, none⟩) m c')).setCell ⟨w.heap.size, 1, none⟩ (.int .i64 cap) := ⟨_, rfl⟩
  replace HL0 : Hid (Lies V w.heap.size 24 #[.slice (some ⟨G, 0, none⟩) m c', .int .i64 cap]) := Lib.hid (by rw [hV]; exact lies_put2 HL0.out _ _)
  replace HL1 := Lib.hid (show Lies V (w.heap.size + 1) _ _ by rw [hV]; exact (HL1.out.far (p := ⟨w.heap.size, 0, none⟩) (by simp) _).far (p := ⟨w.heap.size, 1, none⟩) (by simp) _)
  replace HL2 := Lib.hid (show Lies V (w.heap.size + 2) _ _ by rw [hV]; exact (HL2.out.far (p := ⟨w.heap.size, 0, none⟩) (by simp) _).far (p := ⟨w.heap.size, 1, none⟩) (by simp) _)
  replace HL3 := Lib.hid (show Lies V (w.heap.size + 3) _ _ by rw [hV]; exact (HL3.out.far (p := ⟨w.heap.size, 0, none⟩) (by simp) _).far (p := ⟨w.heap.size, 1, none⟩) (by simp) _)
  replace HB : Hid (Below w.heap.size w V) := Lib.hid (by rw [hV]; exact (HB.out.setCell (p := ⟨w.heap.size, 0, none⟩) (Nat.le_refl _) _).setCell (p := ⟨w.heap.size, 1, none⟩) (Nat.le_refl _) _)
  replace HCut : Hid (Cut V (w.heap.size + 4) G gp m l m cs ps) := Lib.hid (by rw [hV]; exact (HCut.out.far ⟨w.heap.size, 0, none⟩ (by show w.heap.size < w.heap.size + 4; omega) _).far ⟨w.heap.size, 1, none⟩ (by show w.heap.size < w.heap.size + 4; omega) _)
  rw [← hV]
  clear hV n0 n1 f0 f1
  have HH := Lib.hid (wboth_any l (some ⟨G, 0, none⟩) m c' cap ((i : Int), (k : Int)) ((i2 : Int), (k2 : Int)) V HM.out HCut.out.row.any)
  rw [HNE.out, HP.out, HQ.out] at HH
  simp only [Bool.not_false, Bool.and_self] at HH
  obtain ⟨n0, n1⟩ := two_cells HL0.out
  obtain ⟨y0, y1⟩ := two_cells HL1.out
  obtain ⟨z0, z1⟩ := two_cells HL2.out
  go_wp2_with fail
  refine HH.out.mono ?_
  rintro e V2 ⟨rfl, hb3⟩
  clear HH n0 n1 y0 y1 z0 z1
  replace HL0 := Lib.hid (HL0.out.below hb3 HL0.out.lt)
  replace HL1 := Lib.hid (HL1.out.below hb3 HL1.out.lt)
  replace HL2 := Lib.hid (HL2.out.below hb3 HL2.out.lt)
  replace HL3 := Lib.hid (HL3.out.below hb3 HL3.out.lt)
  replace HB := Lib.hid (HB.out.trans (hb3.mono HB.out.size))
  replace HCut := Lib.hid (HCut.out.below hb3 (Nat.le_refl _))
  clear hb3
  obtain ⟨n0, n1⟩ := two_cells HL0.out
  obtain ⟨y0, y1⟩ := two_cells HL1.out
  obtain ⟨z0, z1⟩ := two_cells HL2.out
  obtain ⟨c5, x5⟩ := HCut.out.get him (by have := HKL.out; omega)
  obtain ⟨⟨d0', d0⟩, ⟨d1', d1⟩⟩ := HCut.out.cells2 i k him HKL.out
  have g0 := HCut.out.plies.frozen (offN l i * 2 + k * 2)
  have g1 := HCut.out.plies.frozen (offN l i * 2 + k * 2 + 1)
  obtain ⟨mt, hmt⟩ : ∃ mt, mt = (ndAt l i).to.length := ⟨_, rfl⟩
  have hkm : k < mt := by have := HKL.out; omega
  obtain ⟨ct, hct⟩ : ∃ ct, ct = capN mt c5 := ⟨_, rfl⟩
  have hmtc : mt ≤ ct := by rw [hct]; exact le_capN _ _
  rw [← hmt, ← hct] at x5
  clear hmt hct
  go_upto_region 4 with fail
  go_region
  obtain ⟨V4, hV4⟩ : ∃ V, V = ((V2.setCell ⟨gp, offN l i * 2 + k * 2, none⟩ (.int .i64 i2)).setCell ⟨gp, offN l i * 2 + k * 2 + 1, none⟩ (.int .i64 k2)).drew := ⟨_, rfl⟩
  obtain ⟨ps2, hC2⟩ := HCut.out.put2 i k ((i2 : Int), (k2 : Int)) HP.out
  have hC4 : Cut V4 (w.heap.size + 4) G gp m (setNV l ((i : Int), (k : Int)) ((i2 : Int), (k2 : Int))) m cs ps2 := by rw [hV4]; exact hC2.below (Below.refl _ _).drew (Nat.le_refl _)
  have hfar : ∀ q t cs', q ≠ gp → Lies V2 q t cs' → Lies V4 q t cs' := fun q t cs' hq hL => by rw [hV4]; exact ((hL.far (p := ⟨gp, _, none⟩) hq _).far (p := ⟨gp, _, none⟩) hq _).drew
  replace HL0 := Lib.hid (hfar _ _ _ (by omega) HL0.out)
  replace HL1 := Lib.hid (hfar _ _ _ (by omega) HL1.out)
  replace HL2 := Lib.hid (hfar _ _ _ (by omega) HL2.out)
  replace HL3 := Lib.hid (hfar _ _ _ (by omega) HL3.out)
  replace HB : Hid (Below w.heap.size w V4) := Lib.hid (by rw [hV4]; exact ((HB.out.setCell (p := ⟨gp, _, none⟩) (by show w.heap.size ≤ gp; omega) _).setCell (p := ⟨gp, _, none⟩) (by show w.heap.size ≤ gp; omega) _).drew)
  rw [← hV4]
  clear hV4 hC2 hfar HCut n0 n1 y0 y1 z0 z1 x5 d0 d1 g0 g1 hkm hmtc
  obtain ⟨l2, hl2⟩ : ∃ l2, l2 = setNV l ((i : Int), (k : Int)) ((i2 : Int), (k2 : Int)) := ⟨_, rfl⟩
  rw [← hl2] at hC4
  have HL9 := Lib.hid hl2
  have hn9 : (ndAt l2 i2).to.length = (ndAt l i2).to.length := by rw [hl2]; exact (setNV_kind _ _ _ _).2.1
  have HN9 := Lib.hid hn9
  have hq9 : hasV l2 ((i2 : Int), (k2 : Int)) = true := by rw [hl2, hasV_setN]; exact HQ.out
  have HQ9 := Lib.hid hq9
  have HC4 := Lib.hid hC4
  clear hl2 hn9 hq9 hC4
  obtain ⟨n0, n1⟩ := two_cells HL0.out
  obtain ⟨y0, y1⟩ := two_cells HL1.out
  obtain ⟨z0, z1⟩ := two_cells HL2.out
  obtain ⟨c6, x5⟩ := HC4.out.get him2 (by have := HKL2.out; have := HN9.out; omega)
  obtain ⟨⟨d0', d0⟩, ⟨d1', d1⟩⟩ := HC4.out.cells2 i2 k2 him2 (by rw [HN9.out]; exact HKL2.out)
  have g0 := HC4.out.plies.frozen (offN l2 i2 * 2 + k2 * 2)
  have g1 := HC4.out.plies.frozen (offN l2 i2 * 2 + k2 * 2 + 1)
  obtain ⟨mt2, hmt⟩ : ∃ mt, mt = (ndAt l2 i2).to.length := ⟨_, rfl⟩
  have hkm : k2 < mt2 := by have := HKL2.out; have := HN9.out; omega
  obtain ⟨ct2, hct⟩ : ∃ ct, ct = capN mt2 c6 := ⟨_, rfl⟩
  have hmtc : mt2 ≤ ct2 := by rw [hct]; exact le_capN _ _
  rw [← hmt, ← hct] at x5
  clear hmt hct
  go_upto_region 5 with fail
  go_region
  obtain ⟨V5, hV5⟩ : ∃ V, V = ((V4.setCell ⟨gp, offN l2 i2 * 2 + k2 * 2, none⟩ (.int .i64 i)).setCell ⟨gp, offN l2 i2 * 2 + k2 * 2 + 1, none⟩ (.int .i64 k)).drew := ⟨_, rfl⟩
  obtain ⟨ps3, hC2⟩ := HC4.out.put2 i2 k2 ((i : Int), (k : Int)) HQ9.out
  have hC5 : Cut V5 (w.heap.size + 4) G gp m (setNV l2 ((i2 : Int), (k2 : Int)) ((i : Int), (k : Int))) m cs ps3 := by rw [hV5]; exact hC2.below (Below.refl _ _).drew (Nat.le_refl _)
  have hfar : ∀ q t cs', q ≠ gp → Lies V4 q t cs' → Lies V5 q t cs' := fun q t cs' hq hL => by rw [hV5]; exact ((hL.far (p := ⟨gp, _, none⟩) hq _).far (p := ⟨gp, _, none⟩) hq _).drew
  replace HL0 := Lib.hid (hfar _ _ _ (by omega) HL0.out)
  replace HL3 := Lib.hid (hfar _ _ _ (by omega) HL3.out)
  replace HB : Hid (Below w.heap.size w V5) := Lib.hid (by rw [hV5]; exact ((HB.out.setCell (p := ⟨gp, _, none⟩) (by show w.heap.size ≤ gp; omega) _).setCell (p := ⟨gp, _, none⟩) (by show w.heap.size ≤ gp; omega) _).drew)
  rw [← hV5]
  have HC5 := Lib.hid hC5
  clear hV5 hC2 hC5 hfar HC4 HL1 HL2 n0 n1 y0 y1 z0 z1 x5 d0 d1 g0 g1 hkm hmtc
  obtain ⟨n0, n1⟩ := two_cells HL0.out
  obtain ⟨r0, r1⟩ := two_cells HL3.out
  have f0 := HL3.out.frozen 0
  have f1 := HL3.out.frozen 1
  go_wp2_with fail
  have hR9 := lies_put2 HL3.out (.slice (some ⟨G, 0, none⟩) m c') (.int .i64 cap)
  obtain rfl := HL9.out
  have hC9 := (HC5.out.far ⟨w.heap.size + 3, 0, none⟩ (by show w.heap.size + 3 < w.heap.size + 4; omega) (.slice (some ⟨G, 0, none⟩) m c')).far ⟨w.heap.size + 3, 1, none⟩ (by show w.heap.size + 3 < w.heap.size + 4; omega) (.int .i64 cap)
  refine bodyPost_ret (res_net2 (p := 6) Try.results12 rfl hR9) rfl ⟨some ⟨G, 0, none⟩, c', ?_, hC9.row.keep (keep_wide (Y := fun g => w.heap.size ≤ g) fun g hg _ => by have hg' : w.heap.size + 4 ≤ g := hg; omega), (HB.out.setCell (p := ⟨w.heap.size + 3, 0, none⟩) (by show w.heap.size ≤ w.heap.size + 3; omega) _).setCell (p := ⟨w.heap.size + 3, 1, none⟩) (by show w.heap.size ≤ w.heap.size + 3; omega) _⟩
  simp only [netv]
  rw [← hC9.len, capN_of hmc]
  rfl
/-- package wire's Link. -/
theorem wlink_any (l : List Nd) (A : Option Addr) (m c : Nat) (cap : Int) (p q : Int × Int) (w : World) (hm : m = l.length) (hm2 : m ≤ 100000) (hk : Few9 l) (hN : NdsIn w AnyB l A) :
    Calls Try.prog 12 #[.agg #[.slice A m c, .int .i64 cap], .agg #[.int .i64 p.1, .int .i64 p.2], .agg #[.int .i64 q.1, .int .i64 q.2]] w (GivesNet (linkNV l p q).1 cap [.int .i64 (linkNV l p q).2] w) := by
  cases hb : (!(p == q) && (hasV l p && hasV l q)) with
  | false =>
    have e : linkNV l p q = (l, 130) := by
      rw [linkNV, if_neg]
      rintro ⟨h1, h2, h3⟩
      rw [h1, h2, Bool.and_self, Bool.and_true, Bool.not_eq_false', beq_iff_eq] at hb
      exact h3 hb
    rw [e]
    exact wlink_no l A m c cap p q w hm hm2 hk hN hb
  | true =>
    simp only [Bool.and_eq_true, Bool.not_eq_true'] at hb
    obtain ⟨h0, h1, h2⟩ := hb
    obtain ⟨i, k, rfl, _, _⟩ := nat_port h1
    obtain ⟨i2, k2, rfl, _, _⟩ := nat_port h2
    rw [link_ok h1 h2 (fun e => by rw [e] at h0; simp at h0)]
    exact wlink_ok l A m c cap i k i2 k2 w hm hm2 hk hN h1 h2 h0
end Lx
end Go.Proofs.Ytceblpjlklogpaa
namespace Go.Proofs.Ytceblpjlklogpaa
open Go Go.RowKit
namespace Lx
set_option maxRecDepth 100000
/-- A net, whose rows may lie anywhere. -/
def GivesR (ns : List Nd) (cap er : Int) (X : Nat → Prop) (w : World) (e : Ending) (w' : World) : Prop :=
  ∃ A m c, e = .returned (.tuple #[.agg #[.slice A m c, .int .i64 cap], .int .i64 er]) ∧ m = ns.length ∧ NdsIn w' (fun g => X g ∨ w.heap.size ≤ g) ns A ∧ Below w.heap.size w w'
set_option maxHeartbeats 8000000 in
/-- What a port that is there is linked to. -/
theorem rto_any (l : List Nd) (A : Option Addr) (m c : Nat) (cap : Int) (p : Int × Int) (w : World) (hm : m = l.length) (hN : NdsIn w AnyB l A) (hp : hasV l p = true) :
    Calls Try.prog 27 #[.agg #[.slice A m c, .int .i64 cap], .agg #[.int .i64 p.1, .int .i64 p.2]] w fun e w' => e = .returned (.agg #[.int .i64 (toAt l p).1, .int .i64 (toAt l p).2]) ∧ Below w.heap.size w w' := by
  obtain ⟨a, b⟩ := p
  obtain ⟨p1, p2, p3, p4⟩ := (hasV_iff l (a, b)).1 hp
  simp only at p1 p2 p3 p4 ⊢
  obtain ⟨i, rfl⟩ : ∃ i : Nat, a = (i : Int) := ⟨a.toNat, by omega⟩
  obtain ⟨k, rfl⟩ : ∃ k : Nat, b = (k : Int) := ⟨b.toNat, by omega⟩
  simp only [Int.toNat_natCast] at p4
  have hil : i < l.length := by omega
  have hkl : k < (ndAt l i).to.length := by omega
  obtain ⟨q, hq⟩ : ∃ q, q = toAt l ((i : Int), (k : Int)) := ⟨_, rfl⟩
  rw [← hq]
  rw [toAt_get9 hkl] at hq
  obtain ⟨w1, hw1⟩ : ∃ w1, w1 = (((w.alloc (.cells #[.slice A m c, .int .i64 cap] 24)).alloc (.cells #[.int .i64 i, .int .i64 k] 26)).alloc (.cells #[.int .i64 0, .int .i64 0] 26)) := ⟨_, rfl⟩
  have hb : Below w.heap.size w w1 := by rw [hw1]; exact (((Below.refl _ w).alloc (Nat.le_refl _) _).alloc (by simp) _).alloc (by simp; omega) _
  have L0 : Lies w1 w.heap.size 24 #[.slice A m c, .int .i64 cap] := by rw [hw1]; exact ((Lies.new _ _ _).old _).old _
  have L1 : Lies w1 (w.heap.size + 1) 26 #[.int .i64 i, .int .i64 k] := by rw [hw1]; exact Lies.old (by simpa using Lies.new (w.alloc (.cells #[.slice A m c, .int .i64 cap] 24)) 26 #[.int .i64 i, .int .i64 k]) _
  have L2 : Lies w1 (w.heap.size + 2) 26 #[.int .i64 0, .int .i64 0] := by rw [hw1]; simpa using Lies.new ((w.alloc (.cells #[.slice A m c, .int .i64 cap] 24)).alloc (.cells #[.int .i64 i, .int .i64 k] 26)) 26 #[.int .i64 0, .int .i64 0]
  obtain ⟨g, o, x, B, bb, C, cc, hx, rfl, _, ⟨_, _, _, _, _, x5⟩, hI⟩ := NdsIn.get hN i hil
  have hkx : k < x.to.length := by rw [hx]; exact hkl
  obtain ⟨g2, o2, ⟨rfl, _⟩, d0, d1⟩ := hI.2.2 k hkx
  have e9 : q = x.to[k]'hkx := by rw [hq]; simp only [hx]
  rw [← e9] at d0 d1
  replace x5 := (hb.cell (p := ⟨g, o + i * 6 + 5, none⟩) (ncell_lt x5)).trans x5
  replace d0 := (hb.cell (p := ⟨g2, o2 + k * 2, none⟩) (ncell_lt d0)).trans d0
  replace d1 := (hb.cell (p := ⟨g2, o2 + k * 2 + 1, none⟩) (ncell_lt d1)).trans d1
  obtain ⟨mt, hmt⟩ : ∃ mt, mt = x.to.length := ⟨_, rfl⟩
  have hkm : k < mt := by omega
  have him : i < m := by omega
  rw [← hmt] at x5
  obtain ⟨ct, hct⟩ : ∃ ct, ct = capN mt cc := ⟨_, rfl⟩
  have hmc : mt ≤ ct := by rw [hct]; exact le_capN _ _
  rw [← hct] at x5
  obtain ⟨n0, n1⟩ := two_cells L0
  obtain ⟨y0, y1⟩ := two_cells L1
  obtain ⟨r0, r1⟩ := two_cells L2
  have f0 := L2.frozen 0
  have f1 := L2.frozen 1
  have HL2 := Lib.hid L2
  have HB := Lib.hid hb
  clear hN hm hp p1 p2 p3 p4 hq hx hI e9 hmt hct hkx hkl hil L0 L1 L2 hb
  obtain ⟨qa, qb⟩ := q
  simp only at d0 d1 ⊢
  go_enter Try.func27, Try.ntmps27
  go_upto_region 1 with fail
  rw [← hw1]
  clear hw1
  go_region
  obtain ⟨V8, hV8⟩ : ∃ V, V = ((w1.setCell ⟨w.heap.size + 2, 0, none⟩ (.int .i64 qa)).setCell ⟨w.heap.size + 2, 1, none⟩ (.int .i64 qb)).drew := ⟨_, rfl⟩
  have hR9 : Lies V8 (w.heap.size + 2) 26 #[.int .i64 qa, .int .i64 qb] := by rw [hV8]; exact (lies_put2 HL2.out (.int .i64 qa) (.int .i64 qb)).drew
  have hb9 : Below w.heap.size w V8 := by rw [hV8]; exact ((HB.out.setCell (p := ⟨w.heap.size + 2, 0, none⟩) (by show w.heap.size ≤ w.heap.size + 2; omega) _).setCell (p := ⟨w.heap.size + 2, 1, none⟩) (by show w.heap.size ≤ w.heap.size + 2; omega) _).drew
  rw [← hV8]
  clear hV8 d0 d1 x5 n0 n1 y0 y1 r0 r1 f0 f1
  go_wp2_with fail
  exact bodyPost_ret (res_port1 (p := 4) Try.results27 rfl hR9) rfl ⟨rfl, hb9⟩
/-- Other ports of one node. -/
theorem Half.to1 {w : World} {X : Nat → Prop} {G m : Nat} {l : List Nd} {cs : Array Value} (h : Half w X G m l m cs) (hm : m = l.length) {i : Nat} (hi : i < m) (hX : ¬ X G) {t' : List (Int × Int)} {C : Option Addr} (hb : t'.length ≤ 140737488351232) (ht : ToIn w X t' C) (c : Nat) :
    ∃ cs', Half (w.setCell ⟨G, i * 6 + 5, none⟩ (.slice C t'.length (capN t'.length c))) X G m (l.set i ((ndAt l i).withTo t')) m cs' ∧ cs'.size = cs.size := by
  have hs := h.size
  refine ⟨_, ⟨h.lies.put _ _, by simpa using hs, fun j hj => ?_, fun j hj hjm => absurd hjm (by omega)⟩, by simp⟩
  rw [ndAt_set]
  by_cases e : i = j
  · subst e
    rw [if_pos ⟨rfl, by omega⟩]
    obtain ⟨B', b', C', c', h5, h6⟩ := h.new i hj
    refine ⟨B', b', C, c, fun q hq => ?_, ⟨⟨h6.1.1, h6.1.2.1, hb⟩, h6.2.1.keep (keep_set _ _ hX), ht.keep (keep_set _ _ hX)⟩⟩
    have h9 := h5 q hq
    rcases (by omega : q = 0 ∨ q = 1 ∨ q = 2 ∨ q = 3 ∨ q = 4 ∨ q = 5) with rfl | rfl | rfl | rfl | rfl | rfl
    all_goals rw [Array.getElem?_setIfInBounds]
    all_goals first
      | (rw [if_neg (by omega), h9]; rfl)
      | (rw [if_pos rfl, if_pos (by omega)]; rfl)
  · rw [if_neg (fun h => e h.1)]
    obtain ⟨B', b', C', c', h5, h6⟩ := h.new j hj
    exact ⟨B', b', C', c', fun q hq => by rw [Array.getElem?_setIfInBounds, if_neg (by omega)]; exact h5 q hq, h6.keep (keep_set _ _ hX)⟩
theorem rcopy_half (l : List Nd) (A : Option Addr) (m c : Nat) (cap : Int) (w : World) (hm : m = l.length) (hm0 : 0 < m) (hm2 : m ≤ 100000) (X : Nat → Prop) (hX : ∀ g, X g → g < w.heap.size) (hN : NdsIn w X l A) :
    Calls Try.prog 35 #[.agg #[.slice A m c, .int .i64 cap]] w fun e w' => ∃ G c' cs, e = .returned (.agg #[.slice (some ⟨G, 0, none⟩) m c', .int .i64 cap]) ∧ Half w' X G m l m cs ∧ w.heap.size + 3 ≤ G ∧ cs.size = c' * 6 ∧ m ≤ c' ∧ c' ≤ maxLen ∧ Below w.heap.size w w' := by
  refine (rcopy_any l A m c cap w hm hm2 X hX hN).mono ?_
  rintro e w' ⟨Av, cv, xs, rfl, ho, hr, hb⟩
  obtain ⟨G, cG, hv⟩ := own_sliceN ho (fun e => by injection e with _ e _; omega)
  injection hv with hv1 _ hv2
  subst hv1 hv2
  obtain ⟨cur, h1, h2, h3, h4, h5, h6⟩ := own_curC ho
  refine ⟨G, cv, cur, rfl, ⟨h2, by rw [h3]; exact Nat.mul_le_mul_right 6 h1, fun j hj => ?_, fun j hj hjm => absurd hjm (by omega)⟩, h5, h3, h1, h6, hb⟩
  obtain ⟨B, b, C, cc, h7, h8⟩ := hr.2 j (by omega)
  rw [← ndAt_lt (by omega)] at h7 h8
  refine ⟨B, b, C, cc, fun q hq => ?_, h8⟩
  rw [← h7 q hq, ← h4, List.getElem?_take_of_lt (by omega)]
  simp
set_option maxHeartbeats 16000000 in
/-- A port has another one. -/
theorem rset_any (l : List Nd) (A : Option Addr) (m c : Nat) (cap : Int) (i k : Nat) (a2 b2 : Int) (w : World) (hm : m = l.length) (hm2 : m ≤ 100000) (hk : Few9 l) (X : Nat → Prop) (hX : ∀ g, X g → g < w.heap.size) (hN : NdsIn w X l A) (hi : i < m) (hkl : k < (ndAt l i).to.length) :
    Calls Try.prog 30 #[.agg #[.slice A m c, .int .i64 cap], .agg #[.int .i64 i, .int .i64 k], .agg #[.int .i64 a2, .int .i64 b2]] w fun e w' => ∃ A' c', e = .returned (.agg #[.slice A' m c', .int .i64 cap]) ∧ NdsIn w' (fun g => X g ∨ w.heap.size ≤ g) (setNV l ((i : Int), (k : Int)) (a2, b2)) A' ∧ Below w.heap.size w w' := by
  obtain ⟨w1, hw1⟩ : ∃ w1, w1 = ((((w.alloc (.cells #[.slice A m c, .int .i64 cap] 24)).alloc (.cells #[.int .i64 i, .int .i64 k] 26)).alloc (.cells #[.int .i64 a2, .int .i64 b2] 26)).alloc (.cells #[.slice none 0 0, .int .i64 0] 24)) := ⟨_, rfl⟩
  have hb : Below w.heap.size w w1 := by rw [hw1]; exact ((((Below.refl _ w).alloc (Nat.le_refl _) _).alloc (by simp) _).alloc (by simp; omega) _).alloc (by simp; omega) _
  have L0 : Lies w1 w.heap.size 24 #[.slice A m c, .int .i64 cap] := by rw [hw1]; exact (((Lies.new _ _ _).old _).old _).old _
  have L1 : Lies w1 (w.heap.size + 1) 26 #[.int .i64 i, .int .i64 k] := by rw [hw1]; exact Lies.old (Lies.old (by simpa using Lies.new (w.alloc (.cells #[.slice A m c, .int .i64 cap] 24)) 26 #[.int .i64 i, .int .i64 k]) _) _
  have L2 : Lies w1 (w.heap.size + 2) 26 #[.int .i64 a2, .int .i64 b2] := by rw [hw1]; exact Lies.old (by simpa using Lies.new ((w.alloc (.cells #[.slice A m c, .int .i64 cap] 24)).alloc (.cells #[.int .i64 i, .int .i64 k] 26)) 26 #[.int .i64 a2, .int .i64 b2]) _
  have L3 : Lies w1 (w.heap.size + 3) 24 #[.slice none 0 0, .int .i64 0] := by rw [hw1]; simpa using Lies.new (((w.alloc (.cells #[.slice A m c, .int .i64 cap] 24)).alloc (.cells #[.int .i64 i, .int .i64 k] 26)).alloc (.cells #[.int .i64 a2, .int .i64 b2] 26)) 24 #[.slice none 0 0, .int .i64 0]
  have hs1 : w1.heap.size = w.heap.size + 4 := by rw [hw1]; simp
  have HC := Lib.hid (rcopy_half l A m c cap w1 hm (by omega) hm2 X (fun g hg => Nat.lt_of_lt_of_le (hX g hg) hb.size) (hN.below hb (Nat.le_refl _)))
  have HL1 := Lib.hid L1
  have HL2 := Lib.hid L2
  have HL3 := Lib.hid L3
  have HB := Lib.hid hb
  have HM := Lib.hid hm
  have HKL := Lib.hid hkl
  have hkb := (hk i (by omega)).1
  obtain ⟨n0, n1⟩ := two_cells L0
  clear hN hm hk L0 L1 L2 L3 hb hkl
  go_enter Try.func30, Try.ntmps30
  go_upto_region 1 with fail
  rw [← hw1]
  clear hw1
  go_wp2_with fail
  refine HC.out.mono ?_
  rintro e V ⟨G, c', cs, rfl, hH, hG, hcs, hmc, hcm, hb2⟩
  clear HC n0 n1
  obtain ⟨O, hO⟩ : ∃ O, O = V.heap.size := ⟨_, rfl⟩
  obtain ⟨V1, hV1⟩ : ∃ V1, V1 = V.alloc (.cells #[.slice (some ⟨G, 0, none⟩) m c', .int .i64 cap] 24) := ⟨_, rfl⟩
  have hbV : Below V.heap.size V V1 := by rw [hV1]; exact (Below.refl _ V).alloc (Nat.le_refl _) _
  have LO : Lies V1 O 24 #[.slice (some ⟨G, 0, none⟩) m c', .int .i64 cap] := by rw [hV1, hO]; exact Lies.new _ _ _
  have hOs : O < V1.heap.size := LO.lt
  have hOw : w.heap.size + 4 ≤ O := by have := hb2.size; omega
  have hGO : G < O := by have := hH.lies.lt; omega
  have hs2 := hb2.trans (hbV.mono hb2.size)
  replace HL1 := Lib.hid (HL1.out.below hs2 HL1.out.lt)
  replace HL2 := Lib.hid (HL2.out.below hs2 HL2.out.lt)
  replace HL3 := Lib.hid (HL3.out.below hs2 HL3.out.lt)
  replace HB := Lib.hid (HB.out.trans (hs2.mono HB.out.size))
  have HH := Lib.hid (hH.below hbV (Nat.le_refl _))
  go_upto_region 2 with fail
  rw [← hV1, ← hO]
  have HLO := Lib.hid LO
  clear hV1 hbV LO hH hs2 hb2 hO hcs hcm
  -- the row that is made
  obtain ⟨V2, hV2⟩ : ∃ V2, V2 = V1.alloc (.cells #[] 26) := ⟨_, rfl⟩
  have hbV2 : Below V1.heap.size V1 V2 := by rw [hV2]; exact (Below.refl _ V1).alloc (Nat.le_refl _) _
  have hown0 : V2.ownsRow V1.heap.size 26 2 (.slice (some ⟨V1.heap.size, 0, none⟩) 0 0) 0 (cellsTo []) := by rw [hV2]; exact World.ownsRow_made V1 #[] 0 (Nat.le_refl _) (by simp [maxLen]) rfl
  have HOW := Lib.hid hown0
  replace HL1 := Lib.hid (HL1.out.below hbV2 HL1.out.lt)
  replace HL2 := Lib.hid (HL2.out.below hbV2 HL2.out.lt)
  replace HL3 := Lib.hid (HL3.out.below hbV2 HL3.out.lt)
  replace HLO := Lib.hid (HLO.out.below hbV2 HLO.out.lt)
  replace HH := Lib.hid (HH.out.below hbV2 (Nat.le_refl _))
  replace HB := Lib.hid (HB.out.trans (hbV2.mono HB.out.size))
  have hV2s : V1.heap.size ≤ V2.heap.size := hbV2.size
  obtain ⟨Bx, bx, Cx, cx, hcq, hNdx⟩ := HH.out.new i hi
  have x5 := (HH.out.lies.cell (i * 6 + 5)).trans (hcq 5 (by omega))
  simp only [cellsNd, List.getElem?_cons_zero, List.getElem?_cons_succ] at x5
  have HT := Lib.hid hNdx.2.2
  obtain ⟨mt, hmt⟩ : ∃ mt, mt = (ndAt l i).to.length := ⟨_, rfl⟩
  rw [← hmt] at x5 hkb
  have HMT := Lib.hid hmt
  obtain ⟨ct, hct⟩ : ∃ ct, ct = capN mt cx := ⟨_, rfl⟩
  rw [← hct] at x5
  clear hcq hNdx hmt hct
  obtain ⟨o0, o1⟩ := two_cells HLO.out
  obtain ⟨y0, y1⟩ := two_cells HL1.out
  have HV2 := Lib.hid hV2
  rw [hV2] at o0 o1 y0 y1 x5
  clear hV2 hbV2 hown0
  go_upto_region 3 with (at_builtin; rw [← HV2.out]; refine wpList_plain rfl fun _ hK => wp_append_ports (.tmp 11) (.tmp 18) rfl V1.heap.size [] (ndAt l i).to V1.heap.size 0 0 rfl rfl HOW.out Cx mt ct HMT.out rfl _ HT.out (by omega) hV2s (fun g2 c2 w2 ho2 hg2 => hK _ _ ?_))
  simp only [Nat.zero_add, List.nil_append] at ho2
  obtain ⟨cur2, hmc2, hL2, hcs2, htk2, hg2b, hcm2⟩ := own_curC ho2
  have hrow : ∀ q, q < V1.heap.size → (Value.slice (some ⟨V1.heap.size, 0, none⟩) 0 0).ownBlock ≠ some q := fun q hq e => by
    have := (HOW.out.lt q e).1
    omega
  have hheap : ∀ q, q < V1.heap.size → w2.heap[q]? = V2.heap[q]? := fun q hq => hg2.block q (by omega) (fun e => hrow q hq e.symm)
  have HB3 := Lib.hid (HB.out.grown hg2 HB.out.size (fun q hq => by have := (HOW.out.lt q hq).1; omega))
  have hpos := HB.out.size
  replace HL1 := Lib.hid (show Lies w2 (w.heap.size + 1) _ _ from (hheap _ (by omega)).trans HL1.out)
  replace HL2 := Lib.hid (show Lies w2 (w.heap.size + 2) _ _ from (hheap _ (by omega)).trans HL2.out)
  replace HL3 := Lib.hid (show Lies w2 (w.heap.size + 3) _ _ from (hheap _ (by omega)).trans HL3.out)
  replace HLO := Lib.hid (show Lies w2 O _ _ from (hheap _ hOs).trans HLO.out)
  have HH3 : Hid (Half w2 (fun g => g ≠ G ∧ X g) G m l m cs) := Lib.hid (by
    have h := HH.out
    refine ⟨(hheap _ (by omega)).trans h.lies, h.size, fun j hj => ?_, fun j hj hjm => absurd hjm (by omega)⟩
    obtain ⟨B', b', C', c', h5, h6⟩ := h.new j hj
    exact ⟨B', b', C', c', h5, h6.keep (fun q j hq hql => ⟨World.cell?_of_block (hheap q (by have hq' := hX q hq; omega)), by have hq' := hX q hq; omega, hq⟩)⟩)
  have HL2g := Lib.hid hL2
  have HTK : Hid (∀ j u, (cellsTo (ndAt l i).to)[j]? = some u → cur2[j]? = some u) := Lib.hid fun j u hu => by
    rw [← htk2] at hu
    have hj : j < mt * 2 := by
      rcases Nat.lt_or_ge j (mt * 2) with h | h
      · exact h
      · rw [List.getElem?_eq_none (by simp; omega)] at hu; cases hu
    rw [List.getElem?_take_of_lt hj] at hu
    simpa using hu
  have hGg : G ≠ g2 := by omega
  have hw1g : w1.heap.size ≤ g2 := by omega
  clear ho2 hg2 hL2 htk2 hheap hrow HOW HH HB HT x5 o0 o1 y0 y1 HV2 hK
  have hkm : k < mt := by have := HKL.out; have := HMT.out; omega
  have hk1 : k * 2 < cur2.size := by omega
  have hk2 : k * 2 + 1 < cur2.size := by omega
  have d0 := (HL2g.out.cell (k * 2)).trans (Array.getElem?_eq_getElem hk1)
  have d1 := (HL2g.out.cell (k * 2 + 1)).trans (Array.getElem?_eq_getElem hk2)
  have e0 := HL2g.out.frozen (k * 2)
  have e1 := HL2g.out.frozen (k * 2 + 1)
  obtain ⟨y0, y1⟩ := two_cells HL1.out
  obtain ⟨z0, z1⟩ := two_cells HL2.out
  obtain ⟨u0, hu0⟩ : ∃ u, u = cur2[k * 2] := ⟨_, rfl⟩
  obtain ⟨u1, hu1⟩ : ∃ u, u = cur2[k * 2 + 1] := ⟨_, rfl⟩
  rw [← hu0] at d0
  rw [← hu1] at d1
  clear hu0 hu1
  go_upto_region 4 with fail
  obtain ⟨V4, hV4⟩ : ∃ V, V = (w2.setCell ⟨g2, k * 2, none⟩ (.int .i64 a2)).setCell ⟨g2, k * 2 + 1, none⟩ (.int .i64 b2) := ⟨_, rfl⟩
  have hfar : ∀ q t cs', q ≠ g2 → Lies w2 q t cs' → Lies V4 q t cs' := fun q t cs' hq hL => by rw [hV4]; exact (hL.far (p := ⟨g2, _, none⟩) hq _).far (p := ⟨g2, _, none⟩) hq _
  replace HL1 := Lib.hid (hfar _ _ _ (by omega) HL1.out)
  replace HL3 := Lib.hid (hfar _ _ _ (by omega) HL3.out)
  replace HLO := Lib.hid (hfar _ _ _ (by omega) HLO.out)
  have HB4 : Hid (Below w.heap.size w V4) := Lib.hid (by rw [hV4]; exact (HB3.out.setCell (p := ⟨g2, _, none⟩) (by show w.heap.size ≤ g2; omega) _).setCell (p := ⟨g2, _, none⟩) (by show w.heap.size ≤ g2; omega) _)
  have HH4 : Hid (Half V4 (fun g => g ≠ G ∧ (X g ∨ w.heap.size + 4 ≤ g)) G m l m cs) := Lib.hid (by
    have h := HH3.out
    refine ⟨hfar _ _ _ hGg h.lies, h.size, fun j hj => ?_, fun j hj hjm => absurd hjm (by omega)⟩
    obtain ⟨B', b', C', c', h5, h6⟩ := h.new j hj
    refine ⟨B', b', C', c', h5, ?_⟩
    rw [hV4]
    exact ((h6.keep (keep_set ⟨g2, k * 2, none⟩ _ (fun h => by have h9 := hX g2 h.2; omega))).keep (keep_set ⟨g2, k * 2 + 1, none⟩ _ (fun h => by have h9 := hX g2 h.2; omega))).keep (keep_wide fun q hq _ => ⟨hq.1, .inl hq.2⟩))
  have HT4 : Hid (ToIn V4 (fun g => g ≠ G ∧ (X g ∨ w.heap.size + 4 ≤ g)) ((ndAt l i).to.set k (a2, b2)) (some ⟨g2, 0, none⟩)) := Lib.hid (ToIn.of ⟨fun e => hGg e.symm, .inr (by omega)⟩ fun j u hu => by
    have hL : Lies V4 g2 26 ((cur2.setIfInBounds (k * 2) (.int .i64 a2)).setIfInBounds (k * 2 + 1) (.int .i64 b2)) := by rw [hV4]; exact (HL2g.out.put _ _).put _ _
    rw [Nat.zero_add, hL.cell]
    rw [cellsTo_set _ _ _ _ HKL.out] at hu
    simp only [Array.getElem?_setIfInBounds, Array.size_setIfInBounds]
    simp only [List.getElem?_set, List.length_set] at hu
    have hcl := cellsTo_len (ndAt l i).to
    have hml := HMT.out
    by_cases e1 : k * 2 + 1 = j
    · rw [if_pos e1, if_pos (by omega)] at hu
      rw [if_pos e1, if_pos (by omega)]
      exact hu
    · rw [if_neg e1] at hu ⊢
      by_cases e2 : k * 2 = j
      · rw [if_pos e2, if_pos (by omega)] at hu
        rw [if_pos e2, if_pos (by omega)]
        exact hu
      · rw [if_neg e2] at hu ⊢
        exact HTK.out j u hu)
  rw [← hV4]
  clear hV4 hfar d0 d1 e0 e1 y0 y1 z0 z1 HH3 HB3 HL2 HL2g HTK hk1 hk2
  obtain ⟨o0, o1⟩ := two_cells HLO.out
  obtain ⟨y0, y1⟩ := two_cells HL1.out
  obtain ⟨Bx2, bx2, Cx2, cx2, hcq, _⟩ := HH4.out.new i hi
  have x5 := (HH4.out.lies.cell (i * 6 + 5)).trans (hcq 5 (by omega))
  simp only [cellsNd, List.getElem?_cons_zero, List.getElem?_cons_succ] at x5
  have g5 := HH4.out.lies.frozen (i * 6 + 5)
  clear hcq
  go_upto_region 5 with fail
  obtain ⟨V5, hV5⟩ : ∃ V, V = V4.setCell ⟨G, i * 6 + 5, none⟩ (.slice (some ⟨g2, 0, none⟩) mt c2) := ⟨_, rfl⟩
  have hln : ((ndAt l i).to.set k (a2, b2)).length = mt := by rw [List.length_set]; exact HMT.out.symm
  obtain ⟨cs5, hH5, _⟩ := HH4.out.to1 HM.out hi (fun h => h.1 rfl) (t' := (ndAt l i).to.set k (a2, b2)) (C := some ⟨g2, 0, none⟩) (by omega) HT4.out c2
  rw [hln, capN_of hmc2, ← hV5] at hH5
  have HH5 := Lib.hid hH5
  replace HLO := Lib.hid (show Lies V5 O _ _ by rw [hV5]; exact HLO.out.far (p := ⟨G, _, none⟩) (by show O ≠ G; omega) _)
  replace HL3 := Lib.hid (show Lies V5 (w.heap.size + 3) _ _ by rw [hV5]; exact HL3.out.far (p := ⟨G, _, none⟩) (by show w.heap.size + 3 ≠ G; omega) _)
  have HB5 : Hid (Below w.heap.size w V5) := Lib.hid (by rw [hV5]; exact HB4.out.setCell (p := ⟨G, _, none⟩) (by show w.heap.size ≤ G; omega) _)
  rw [← hV5]
  clear hV5 hH5 hln o0 o1 y0 y1 x5 g5 HT4 HH4 HB4
  obtain ⟨o0, o1⟩ := two_cells HLO.out
  obtain ⟨r0, r1⟩ := two_cells HL3.out
  have f0 := HL3.out.frozen 0
  have f1 := HL3.out.frozen 1
  go_wp2_with fail
  have hR9 := lies_put2 HL3.out (.slice (some ⟨G, 0, none⟩) m c') (.int .i64 cap)
  refine bodyPost_ret (res_net1 (p := 6) Try.results30 rfl hR9) rfl ⟨_, _, rfl, ?_, (HB5.out.setCell (p := ⟨w.heap.size + 3, 0, none⟩) (by show w.heap.size ≤ w.heap.size + 3; omega) _).setCell (p := ⟨w.heap.size + 3, 1, none⟩) (by show w.heap.size ≤ w.heap.size + 3; omega) _⟩
  have hrow5 : NdsIn V5 (fun g => X g ∨ w.heap.size + 4 ≤ g) (l.set i ((ndAt l i).withTo ((ndAt l i).to.set k (a2, b2)))) (some ⟨G, 0, none⟩) := HH5.out.row (by rw [List.length_set]; exact HM.out) (.inr (by omega)) (fun _ h _ => h.2)
  have hst : setNV l ((i : Int), (k : Int)) (a2, b2) = l.set i ((ndAt l i).withTo ((ndAt l i).to.set k (a2, b2))) := by rw [setNV_with]; simp
  rw [hst]
  exact ((hrow5.keep (keep_set ⟨w.heap.size + 3, 0, none⟩ _ (fun h => by rcases h with h | h; have h9 : w.heap.size + 3 < w.heap.size := hX _ h; omega; have h9 : w.heap.size + 4 ≤ w.heap.size + 3 := h; omega))).keep (keep_set ⟨w.heap.size + 3, 1, none⟩ _ (fun h => by rcases h with h | h; have h9 : w.heap.size + 3 < w.heap.size := hX _ h; omega; have h9 : w.heap.size + 4 ≤ w.heap.size + 3 := h; omega))).keep (keep_wide fun q h _ => by rcases h with h | h; exact .inl h; exact .inr (by omega))
end Lx
end Go.Proofs.Ytceblpjlklogpaa
