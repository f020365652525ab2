/-
  The law ScopeCons, walked.
-/
import Derived.Test.YtobdoahdjbmflaaGreatDoorC22
import Derived.Test.YtobdoahdjbmflaaGreatDoorC15
import Derived.Test.YtobdoahdjbmflaaGreatDoorC8
import Derived.Test.YtobdoahdjbmflaaGreatDoorC14
import Derived.Test.YtobdoahdjbmflaaGreatDoorC11
import Derived.Deep.RegionHeld3
import Derived.Deep.DrawnRows
namespace Go.Proofs.YtobdoahdjbmflaaGreatDoor
open Go Go.RowKit
namespace Lx
set_option maxRecDepth 100000
set_option maxHeartbeats 16000000 in
theorem scopeCons_law (a : Tr) (b : Tr) (A : Option Addr) (B : Option Addr) (c : Nat) (d : Nat) (w : World) (ha : TIn w Any a A) (hb : TIn w Any b B) (hg : Signs w) :
    Calls Tryz.prog 6 #[tv a A c, tv b B d] w fun e w' => e = .returned (.bool true) ∧ Below w.heap.size w w' := by
  have HF := Lib.hid (fun (W : World) (h : Below w.heap.size w W) => fixed5_any W (hg.below h hg.pos))
  have HSa := Lib.hid (fun (W : World) (h : Below w.heap.size w W) => tsmall_any a A c 150 W (TIn.below _ ha h (Nat.le_refl _)) (by omega) (by omega))
  have HMa := Lib.hid (fun (W : World) (h : Below w.heap.size w W) => rMay_any a A c W (TIn.below _ ha h (Nat.le_refl _)))
  have HSb := Lib.hid (fun (W : World) (h : Below w.heap.size w W) => tsmall_any b B d 150 W (TIn.below _ hb h (Nat.le_refl _)) (by omega) (by omega))
  have HMb := Lib.hid (fun (W : World) (h : Below w.heap.size w W) => rMay_any b B d W (TIn.below _ hb h (Nat.le_refl _)))
  have HKA := Lib.hid (fun (hq : decide (0 ≤ fewT a 150 200) = true) (W : World) (h : Below w.heap.size w W) => (sCons_any a A c W ⟨by have := few5 hq; omega, by have := few5 hq; omega, TIn.below _ ha h (Nat.le_refl _), hg.below h hg.pos⟩).mono fun e w' h => giveA_in h)
  have HKB := Lib.hid (fun (hq : decide (0 ≤ fewT b 150 200) = true) (W : World) (h : Below w.heap.size w W) => (sCons_any b B d W ⟨by have := few5 hq; omega, by have := few5 hq; omega, TIn.below _ hb h (Nat.le_refl _), hg.below h hg.pos⟩).mono fun e w' h => giveA_in h)
  have HK3 : Hid (decide (0 ≤ fewT a 150 200) = true → decide (0 ≤ fewT b 150 200) = true → mayV a = true → mayV b = true → ∀ W, Below w.heap.size w W → Calls Tryz.prog 15 #[.agg #[.int .i64 3, .string ⟨#[]⟩, .int .i64 0, .int .i64 0, .slice (some ⟨W.heap.size, 0, none⟩) 2 2]] (W.alloc (.cells #[.int .i64 a.kind, .string a.name, .int .i64 a.n, .int .i64 a.place, .slice A a.parts.length (capF a.parts.length c), .int .i64 b.kind, .string b.name, .int .i64 b.n, .int .i64 b.place, .slice B b.parts.length (capF b.parts.length d)] 24)) fun e w' => ∃ E x, e = .returned (.slice E (consV5 a ++ (consV5 b).filter (fun p => decide (ofN (consV5 a) p.1 < 0))).length x) ∧ AIn w' Any (consV5 a ++ (consV5 b).filter (fun p => decide (ofN (consV5 a) p.1 < 0))) E ∧ Below W.heap.size W w') := Lib.hid (fun hqa hqb hva hvb W h => by
    have hba := below_allocS W (.cells #[.int .i64 a.kind, .string a.name, .int .i64 a.n, .int .i64 a.place, .slice A a.parts.length (capF a.parts.length c), .int .i64 b.kind, .string b.name, .int .i64 b.n, .int .i64 b.place, .slice B b.parts.length (capF b.parts.length d)] 24)
    have hI : TIn (W.alloc (.cells #[.int .i64 a.kind, .string a.name, .int .i64 a.n, .int .i64 a.place, .slice A a.parts.length (capF a.parts.length c), .int .i64 b.kind, .string b.name, .int .i64 b.n, .int .i64 b.place, .slice B b.parts.length (capF b.parts.length d)] 24)) Any (letT 3 ⟨#[]⟩ a b) (some ⟨W.heap.size, 0, none⟩) := TIn.mk (by decide) (by simp) (LIn.two (t := 24) (c1 := c) (c2 := d) (Lies.new W 24 _) rfl trivial (TIn.below _ (TIn.below _ ha h (Nat.le_refl _)) hba (Nat.le_refl _)) (TIn.below _ (TIn.below _ hb h (Nat.le_refl _)) hba (Nat.le_refl _)))
    have f1 := few5 hqa
    have f2 := few5 hqb
    have hf : Fit (W.alloc (.cells #[.int .i64 a.kind, .string a.name, .int .i64 a.n, .int .i64 a.place, .slice A a.parts.length (capF a.parts.length c), .int .i64 b.kind, .string b.name, .int .i64 b.n, .int .i64 b.place, .slice B b.parts.length (capF b.parts.length d)] 24)) (letT 3 ⟨#[]⟩ a b) (some ⟨W.heap.size, 0, none⟩) := ⟨by rw [depth_two]; omega, by rw [size_two]; omega, hI, (hg.below h hg.pos).below hba (hg.below h hg.pos).pos⟩
    have e1 : consV5 (letT 3 ⟨#[]⟩ a b) = (consV5 a ++ (consV5 b).filter (fun p => decide (ofN (consV5 a) p.1 < 0))) := by
      have e2 : consV5 (letT 3 ⟨#[]⟩ a b) = consT (letT 3 ⟨#[]⟩ a b) := if_pos (may_app a b hva hvb)
      have e3 : consV5 a = consT a := if_pos hva
      have e4 : consV5 b = consT b := if_pos hvb
      rw [e2, e3, e4, cons_two 3 _ a b (by omega)]
    rw [← e1]
    exact (sCons_any (letT 3 ⟨#[]⟩ a b) (some ⟨W.heap.size, 0, none⟩) 2 _ hf).mono fun e w' h9 => by
      obtain ⟨E, x, he, hs, hb⟩ := giveA_in h9
      exact ⟨E, x, he, hs, hba.trans (hb.mono hba.size)⟩)
  have HK10 : Hid (decide (0 ≤ fewT a 150 200) = true → decide (0 ≤ fewT b 150 200) = true → mayV a = true → mayV b = true → ∀ W, Below w.heap.size w W → Calls Tryz.prog 15 #[.agg #[.int .i64 10, .string ⟨#[60]⟩, .int .i64 0, .int .i64 0, .slice (some ⟨W.heap.size, 0, none⟩) 2 2]] (W.alloc (.cells #[.int .i64 a.kind, .string a.name, .int .i64 a.n, .int .i64 a.place, .slice A a.parts.length (capF a.parts.length c), .int .i64 b.kind, .string b.name, .int .i64 b.n, .int .i64 b.place, .slice B b.parts.length (capF b.parts.length d)] 24)) fun e w' => ∃ E x, e = .returned (.slice E (consV5 a ++ (consV5 b).filter (fun p => decide (ofN (consV5 a) p.1 < 0))).length x) ∧ AIn w' Any (consV5 a ++ (consV5 b).filter (fun p => decide (ofN (consV5 a) p.1 < 0))) E ∧ Below W.heap.size W w') := Lib.hid (fun hqa hqb hva hvb W h => by
    have hba := below_allocS W (.cells #[.int .i64 a.kind, .string a.name, .int .i64 a.n, .int .i64 a.place, .slice A a.parts.length (capF a.parts.length c), .int .i64 b.kind, .string b.name, .int .i64 b.n, .int .i64 b.place, .slice B b.parts.length (capF b.parts.length d)] 24)
    have hI : TIn (W.alloc (.cells #[.int .i64 a.kind, .string a.name, .int .i64 a.n, .int .i64 a.place, .slice A a.parts.length (capF a.parts.length c), .int .i64 b.kind, .string b.name, .int .i64 b.n, .int .i64 b.place, .slice B b.parts.length (capF b.parts.length d)] 24)) Any (letT 10 ⟨#[60]⟩ a b) (some ⟨W.heap.size, 0, none⟩) := TIn.mk (by decide) (by simp) (LIn.two (t := 24) (c1 := c) (c2 := d) (Lies.new W 24 _) rfl trivial (TIn.below _ (TIn.below _ ha h (Nat.le_refl _)) hba (Nat.le_refl _)) (TIn.below _ (TIn.below _ hb h (Nat.le_refl _)) hba (Nat.le_refl _)))
    have f1 := few5 hqa
    have f2 := few5 hqb
    have hf : Fit (W.alloc (.cells #[.int .i64 a.kind, .string a.name, .int .i64 a.n, .int .i64 a.place, .slice A a.parts.length (capF a.parts.length c), .int .i64 b.kind, .string b.name, .int .i64 b.n, .int .i64 b.place, .slice B b.parts.length (capF b.parts.length d)] 24)) (letT 10 ⟨#[60]⟩ a b) (some ⟨W.heap.size, 0, none⟩) := ⟨by rw [depth_two]; omega, by rw [size_two]; omega, hI, (hg.below h hg.pos).below hba (hg.below h hg.pos).pos⟩
    have e1 : consV5 (letT 10 ⟨#[60]⟩ a b) = (consV5 a ++ (consV5 b).filter (fun p => decide (ofN (consV5 a) p.1 < 0))) := by
      have e2 : consV5 (letT 10 ⟨#[60]⟩ a b) = consT (letT 10 ⟨#[60]⟩ a b) := if_pos (may_less a b hva hvb)
      have e3 : consV5 a = consT a := if_pos hva
      have e4 : consV5 b = consT b := if_pos hvb
      rw [e2, e3, e4, cons_two 10 _ a b (by omega)]
    rw [← e1]
    exact (sCons_any (letT 10 ⟨#[60]⟩ a b) (some ⟨W.heap.size, 0, none⟩) 2 _ hf).mono fun e w' h9 => by
      obtain ⟨E, x, he, hs, hb⟩ := giveA_in h9
      exact ⟨E, x, he, hs, hba.trans (hb.mono hba.size)⟩)
  have HNF : Hid (decide (0 ≤ fewT a 150 200) = true → decide (0 ≤ fewT b 150 200) = true → mayV a = true → mayV b = true → (consV5 a).length ≤ 1000 ∧ (consV5 b).length ≤ 1000 ∧ 2 ≤ (consV5 a).length) := Lib.hid (fun hqa hqb hva hvb => by
    have := few5 hqa
    have := few5 hqb
    have h1 := consV_len a
    have h2 := consV_len b
    have h3 : consV5 a = consT a := if_pos hva
    have h4 := cons_two_len a
    rw [← h3] at h4
    omega)
  obtain ⟨qa, hqa9⟩ : ∃ z9, z9 = decide (0 ≤ fewT a 150 200) := ⟨_, rfl⟩
  obtain ⟨va, hva9⟩ : ∃ z9, z9 = mayV a := ⟨_, rfl⟩
  obtain ⟨qb, hqb9⟩ : ∃ z9, z9 = decide (0 ≤ fewT b 150 200) := ⟨_, rfl⟩
  obtain ⟨vb, hvb9⟩ : ∃ z9, z9 = mayV b := ⟨_, rfl⟩
  obtain ⟨xs, hxs9⟩ : ∃ z9, z9 = consV5 a := ⟨_, rfl⟩
  obtain ⟨ys, hys9⟩ : ∃ z9, z9 = consV5 b := ⟨_, rfl⟩
  obtain ⟨xn9, hxn99⟩ : ∃ z9, z9 = xs.length := ⟨_, rfl⟩
  obtain ⟨yn9, hyn99⟩ : ∃ z9, z9 = ys.length := ⟨_, rfl⟩
  try rw [← hqa9] at HSa
  try rw [← hqa9] at HMa
  try rw [← hqa9] at HSb
  try rw [← hqa9] at HMb
  try rw [← hqa9] at HKA
  try rw [← hqa9] at HKB
  try rw [← hqa9] at HK3
  try rw [← hqa9] at HK10
  try rw [← hqa9] at HNF
  try rw [← hva9] at HSa
  try rw [← hva9] at HMa
  try rw [← hva9] at HSb
  try rw [← hva9] at HMb
  try rw [← hva9] at HKA
  try rw [← hva9] at HKB
  try rw [← hva9] at HK3
  try rw [← hva9] at HK10
  try rw [← hva9] at HNF
  try rw [← hqb9] at HSa
  try rw [← hqb9] at HMa
  try rw [← hqb9] at HSb
  try rw [← hqb9] at HMb
  try rw [← hqb9] at HKA
  try rw [← hqb9] at HKB
  try rw [← hqb9] at HK3
  try rw [← hqb9] at HK10
  try rw [← hqb9] at HNF
  try rw [← hvb9] at HSa
  try rw [← hvb9] at HMa
  try rw [← hvb9] at HSb
  try rw [← hvb9] at HMb
  try rw [← hvb9] at HKA
  try rw [← hvb9] at HKB
  try rw [← hvb9] at HK3
  try rw [← hvb9] at HK10
  try rw [← hvb9] at HNF
  try rw [← hxs9] at HSa
  try rw [← hxs9] at HMa
  try rw [← hxs9] at HSb
  try rw [← hxs9] at HMb
  try rw [← hxs9] at HKA
  try rw [← hxs9] at HKB
  try rw [← hxs9] at HK3
  try rw [← hxs9] at HK10
  try rw [← hxs9] at HNF
  try rw [← hys9] at HSa
  try rw [← hys9] at HMa
  try rw [← hys9] at HSb
  try rw [← hys9] at HMb
  try rw [← hys9] at HKA
  try rw [← hys9] at HKB
  try rw [← hys9] at HK3
  try rw [← hys9] at HK10
  try rw [← hys9] at HNF
  try rw [← hxn99] at HSa
  try rw [← hxn99] at HMa
  try rw [← hxn99] at HSb
  try rw [← hxn99] at HMb
  try rw [← hxn99] at HKA
  try rw [← hxn99] at HKB
  try rw [← hxn99] at HK3
  try rw [← hxn99] at HK10
  try rw [← hxn99] at HNF
  try rw [← hyn99] at HSa
  try rw [← hyn99] at HMa
  try rw [← hyn99] at HSb
  try rw [← hyn99] at HMb
  try rw [← hyn99] at HKA
  try rw [← hyn99] at HKB
  try rw [← hyn99] at HK3
  try rw [← hyn99] at HK10
  try rw [← hyn99] at HNF
  have HTa := Lib.hid ha
  have HTb := Lib.hid hb
  have HLxn9 := Lib.hid hxn99
  have HLyn9 := Lib.hid hyn99
  clear hg hqa9 hva9 hqb9 hvb9 hxs9 hys9 hxn99 hyn99 ha hb
  obtain ⟨pk, ps, pn, pa, pl⟩ := a
  obtain ⟨rk, rs, rn, ra, rl⟩ := b
  try simp only [tv, Tr.kind, Tr.name, Tr.n, Tr.place, Tr.parts] at HSa
  try simp only [tv, Tr.kind, Tr.name, Tr.n, Tr.place, Tr.parts] at HMa
  try simp only [tv, Tr.kind, Tr.name, Tr.n, Tr.place, Tr.parts] at HSb
  try simp only [tv, Tr.kind, Tr.name, Tr.n, Tr.place, Tr.parts] at HMb
  try simp only [tv, Tr.kind, Tr.name, Tr.n, Tr.place, Tr.parts] at HKA
  try simp only [tv, Tr.kind, Tr.name, Tr.n, Tr.place, Tr.parts] at HKB
  try simp only [Tr.kind, Tr.name, Tr.n, Tr.place, Tr.parts] at HK3
  try simp only [Tr.kind, Tr.name, Tr.n, Tr.place, Tr.parts] at HK10
  try simp only [tv, Tr.kind, Tr.name, Tr.n, Tr.place, Tr.parts] at HNF
  simp only [tv, Tr.kind, Tr.name, Tr.n, Tr.place, Tr.parts]
  obtain ⟨pm, hpm9⟩ : ∃ m, m = pl.length := ⟨_, rfl⟩
  try rw [← hpm9] at HSa
  try rw [← hpm9] at HMa
  try rw [← hpm9] at HSb
  try rw [← hpm9] at HMb
  try rw [← hpm9] at HKA
  try rw [← hpm9] at HKB
  try rw [← hpm9] at HK3
  try rw [← hpm9] at HK10
  try rw [← hpm9] at HNF
  rw [← hpm9]
  have HMpm := Lib.hid hpm9
  obtain ⟨pc, hpc9⟩ : ∃ x, x = capF pm c := ⟨_, rfl⟩
  try rw [← hpc9] at HSa
  try rw [← hpc9] at HMa
  try rw [← hpc9] at HSb
  try rw [← hpc9] at HMb
  try rw [← hpc9] at HKA
  try rw [← hpc9] at HKB
  try rw [← hpc9] at HK3
  try rw [← hpc9] at HK10
  try rw [← hpc9] at HNF
  rw [← hpc9]
  have HPC := Lib.hid hpc9
  rw [hpm9] at HPC
  clear hpm9 hpc9
  obtain ⟨rm, hrm9⟩ : ∃ m, m = rl.length := ⟨_, rfl⟩
  try rw [← hrm9] at HSa
  try rw [← hrm9] at HMa
  try rw [← hrm9] at HSb
  try rw [← hrm9] at HMb
  try rw [← hrm9] at HKA
  try rw [← hrm9] at HKB
  try rw [← hrm9] at HK3
  try rw [← hrm9] at HK10
  try rw [← hrm9] at HNF
  rw [← hrm9]
  have HMrm := Lib.hid hrm9
  obtain ⟨rc, hrc9⟩ : ∃ x, x = capF rm d := ⟨_, rfl⟩
  try rw [← hrc9] at HSa
  try rw [← hrc9] at HMa
  try rw [← hrc9] at HSb
  try rw [← hrc9] at HMb
  try rw [← hrc9] at HKA
  try rw [← hrc9] at HKB
  try rw [← hrc9] at HK3
  try rw [← hrc9] at HK10
  try rw [← hrc9] at HNF
  rw [← hrc9]
  have HRC := Lib.hid hrc9
  rw [hrm9] at HRC
  clear hrm9 hrc9
  obtain ⟨u0, hu0⟩ : ∃ W, W = w.alloc (.cells #[.int .i64 pk, .string ps, .int .i64 pn, .int .i64 pa, .slice A pm pc] 24) := ⟨_, rfl⟩
  have hb0 : Below w.heap.size w u0 := by rw [hu0]; exact below_allocS w _
  have L0 : Lies u0 w.heap.size 24 #[.int .i64 pk, .string ps, .int .i64 pn, .int .i64 pa, .slice A pm pc] := by rw [hu0]; exact Lies.new _ _ _
  obtain ⟨g0, hg0⟩ : ∃ g, g = w.heap.size := ⟨_, rfl⟩
  rw [← hg0] at L0
  obtain ⟨u1, hu1⟩ : ∃ W, W = u0.alloc (.cells #[.int .i64 rk, .string rs, .int .i64 rn, .int .i64 ra, .slice B rm rc] 24) := ⟨_, rfl⟩
  have hb1 : Below w.heap.size w u1 := by rw [hu1]; exact hb0.alloc hb0.size _
  have L1 : Lies u1 u0.heap.size 24 #[.int .i64 rk, .string rs, .int .i64 rn, .int .i64 ra, .slice B rm rc] := by rw [hu1]; exact Lies.new _ _ _
  replace L0 : Lies u1 g0 24 #[.int .i64 pk, .string ps, .int .i64 pn, .int .i64 pa, .slice A pm pc] := by rw [hu1]; exact L0.old _
  obtain ⟨g1, hg1⟩ : ∃ g, g = u0.heap.size := ⟨_, rfl⟩
  rw [← hg1] at L1
  rw [hu0, World.size_alloc] at hg1
  go_enter Tryz.func6, Tryz.ntmps6
  go_upto_region 1 with fail
  rw [← hu0]
  rw [← hu1]
  rw [← hg1]
  rw [← hg0]
  have HB0 := Lib.hid hb1
  clear hu0 hg0 hb0 hu1 hg1 hb1
  go_wp2_with fail
  refine (HF.out u1 HB0.out).mono ?_
  rintro e w1 ⟨rfl, hb⟩
  replace HB0 := Lib.hid (HB0.out.trans (hb.mono HB0.out.size))
  replace L0 := L0.below hb L0.lt
  replace L1 := L1.below hb L1.lt
  clear hb
  obtain ⟨⟨x00, x01, x02, x03, x04⟩, _⟩ := L0.five
  go_wp2_with fail
  refine (HSa.out w1 HB0.out).mono ?_
  rintro e w2 ⟨rfl, hb⟩
  replace HB0 := Lib.hid (HB0.out.trans (hb.mono HB0.out.size))
  replace L0 := L0.below hb L0.lt
  replace L1 := L1.below hb L1.lt
  clear hb
  clear x00 x01 x02 x03 x04
  cases qa with
  | false =>
    go_wp2_with fail
    refine (HF.out _ HB0.out).mono ?_
    rintro e wz ⟨rfl, hbz⟩
    go_wp2_with fail
    go_ret
    exact ⟨rfl, HB0.out.trans (hbz.mono HB0.out.size)⟩
  | true =>
    obtain ⟨⟨x10, x11, x12, x13, x14⟩, _⟩ := L1.five
    go_wp2_with fail
    refine (HSb.out w2 HB0.out).mono ?_
    rintro e w3 ⟨rfl, hb⟩
    replace HB0 := Lib.hid (HB0.out.trans (hb.mono HB0.out.size))
    replace L0 := L0.below hb L0.lt
    replace L1 := L1.below hb L1.lt
    clear hb
    clear x10 x11 x12 x13 x14
    cases qb with
    | false =>
      go_wp2_with fail
      refine (HF.out _ HB0.out).mono ?_
      rintro e wz ⟨rfl, hbz⟩
      go_wp2_with fail
      go_ret
      exact ⟨rfl, HB0.out.trans (hbz.mono HB0.out.size)⟩
    | true =>
      obtain ⟨⟨x00, x01, x02, x03, x04⟩, _⟩ := L0.five
      go_wp2_with fail
      refine (HMa.out w3 HB0.out).mono ?_
      rintro e w4 ⟨rfl, hb⟩
      replace HB0 := Lib.hid (HB0.out.trans (hb.mono HB0.out.size))
      replace L0 := L0.below hb L0.lt
      replace L1 := L1.below hb L1.lt
      clear hb
      clear x00 x01 x02 x03 x04
      cases va with
      | false =>
        go_wp2_with fail
        refine (HF.out _ HB0.out).mono ?_
        rintro e wz ⟨rfl, hbz⟩
        go_wp2_with fail
        go_ret
        exact ⟨rfl, HB0.out.trans (hbz.mono HB0.out.size)⟩
      | true =>
        obtain ⟨⟨x10, x11, x12, x13, x14⟩, _⟩ := L1.five
        go_wp2_with fail
        refine (HMb.out w4 HB0.out).mono ?_
        rintro e w5 ⟨rfl, hb⟩
        replace HB0 := Lib.hid (HB0.out.trans (hb.mono HB0.out.size))
        replace L0 := L0.below hb L0.lt
        replace L1 := L1.below hb L1.lt
        clear hb
        clear x10 x11 x12 x13 x14
        cases vb with
        | false =>
          go_wp2_with fail
          refine (HF.out _ HB0.out).mono ?_
          rintro e wz ⟨rfl, hbz⟩
          go_wp2_with fail
          go_ret
          exact ⟨rfl, HB0.out.trans (hbz.mono HB0.out.size)⟩
        | true =>
          obtain ⟨N1, N2, N3⟩ := HNF.out (by simp) (by simp) (by simp) (by simp)
          clear HNF
          go_upto_region 3 with fail
          have HSS : Hid (∀ V', Below w5.heap.size w5 V' → (fun V' : World => (V'.cell? ⟨g0, 0, none⟩ = some (.int .i64 pk) ∧ V'.cell? ⟨g0, 1, none⟩ = some (.string ps) ∧ V'.cell? ⟨g0, 2, none⟩ = some (.int .i64 pn) ∧ V'.cell? ⟨g0, 3, none⟩ = some (.int .i64 pa) ∧ V'.cell? ⟨g0, 4, none⟩ = some (.slice A pm pc) ∧ V'.cell? ⟨g1, 0, none⟩ = some (.int .i64 rk) ∧ V'.cell? ⟨g1, 1, none⟩ = some (.string rs) ∧ V'.cell? ⟨g1, 2, none⟩ = some (.int .i64 rn) ∧ V'.cell? ⟨g1, 3, none⟩ = some (.int .i64 ra) ∧ V'.cell? ⟨g1, 4, none⟩ = some (.slice B rm rc))) V') := Lib.hid fun V' h =>
            ⟨(h.cell (p := ⟨g0, 0, none⟩) L0.lt).trans (L0.cell 0), (h.cell (p := ⟨g0, 1, none⟩) L0.lt).trans (L0.cell 1), (h.cell (p := ⟨g0, 2, none⟩) L0.lt).trans (L0.cell 2), (h.cell (p := ⟨g0, 3, none⟩) L0.lt).trans (L0.cell 3), (h.cell (p := ⟨g0, 4, none⟩) L0.lt).trans (L0.cell 4), (h.cell (p := ⟨g1, 0, none⟩) L1.lt).trans (L1.cell 0), (h.cell (p := ⟨g1, 1, none⟩) L1.lt).trans (L1.cell 1), (h.cell (p := ⟨g1, 2, none⟩) L1.lt).trans (L1.cell 2), (h.cell (p := ⟨g1, 3, none⟩) L1.lt).trans (L1.cell 3), (h.cell (p := ⟨g1, 4, none⟩) L1.lt).trans (L1.cell 4)⟩
          have H1 : Hid (∀ X, Below w5.heap.size w5 X → Calls Tryz.prog 15 #[.agg #[.int .i64 pk, .string ps, .int .i64 pn, .int .i64 pa, .slice A pm pc]] X (fun e w' => ∃ E x, e = .returned (.slice E xn9 x) ∧ AIn w' Any xs E ∧ Below X.heap.size X w')) := Lib.hid fun X hX => HKA.out (by simp) X (HB0.out.trans (hX.mono HB0.out.size))
          have H2 : Hid (∀ X, Below w5.heap.size w5 X → Calls Tryz.prog 15 #[.agg #[.int .i64 rk, .string rs, .int .i64 rn, .int .i64 ra, .slice B rm rc]] X (fun e w' => ∃ E x, e = .returned (.slice E yn9 x) ∧ AIn w' Any ys E ∧ Below X.heap.size X w')) := Lib.hid fun X hX => HKB.out (by simp) X (HB0.out.trans (hX.mono HB0.out.size))
          clear HF HSa HSb HMa HMb
          have hb_1 : Below w5.heap.size w5 w5 := Below.refl _ _
          refine wp_region_held_drew (S := (fun V' : World => (V'.cell? ⟨g0, 0, none⟩ = some (.int .i64 pk) ∧ V'.cell? ⟨g0, 1, none⟩ = some (.string ps) ∧ V'.cell? ⟨g0, 2, none⟩ = some (.int .i64 pn) ∧ V'.cell? ⟨g0, 3, none⟩ = some (.int .i64 pa) ∧ V'.cell? ⟨g0, 4, none⟩ = some (.slice A pm pc) ∧ V'.cell? ⟨g1, 0, none⟩ = some (.int .i64 rk) ∧ V'.cell? ⟨g1, 1, none⟩ = some (.string rs) ∧ V'.cell? ⟨g1, 2, none⟩ = some (.int .i64 rn) ∧ V'.cell? ⟨g1, 3, none⟩ = some (.int .i64 ra) ∧ V'.cell? ⟨g1, 4, none⟩ = some (.slice B rm rc)))) rfl (HSS.out _ hb_1.drew) (fun hSs => ?_)
          change wpAnyH _ _ _ _ _ 6 (Array.replicate 6 false) _ _
          refine wpAnyH_take (i := 0) (oi := ⟨some 32, _, _, _, _, _⟩) (v := .agg #[.int .i64 pk, .string ps, .int .i64 pn, .int .i64 pa, .slice A pm pc]) rfl (by kernel_rfl) (by kernel_rfl) (by kernel_rfl) (fun _ _ _ h => h) (.inl ⟨by kernel_rfl, fun W hW => by first | (obtain ⟨z0, z1, z2, z3, z4, z5, z6, z7, z8, z9⟩ := hW; go_simp; done) | (obtain ⟨z0, z1, z2, z3, z4, z5, z6, z7, z8, z9⟩ := hW; go_simp; omega) | (obtain ⟨z0, z1, z2, z3, z4, z5, z6, z7, z8, z9⟩ := hW; go_simp; exact IntWalk.i64_in _ (by omega)) | (obtain ⟨z0, z1, z2, z3, z4, z5, z6, z7, z8, z9⟩ := hW; go_simp; simp [*]; done)⟩) hSs ?_
          try simp only [Act.put, List.setIfInBounds_toArray, List.set_cons_zero, List.set_cons_succ]
          refine wpAnyH_take (i := 2) (oi := ⟨some 34, _, _, _, _, _⟩) (v := .agg #[.int .i64 rk, .string rs, .int .i64 rn, .int .i64 ra, .slice B rm rc]) rfl (by kernel_rfl) (by kernel_rfl) (by kernel_rfl) (fun _ _ _ h => h) (.inl ⟨by kernel_rfl, fun W hW => by first | (obtain ⟨z0, z1, z2, z3, z4, z5, z6, z7, z8, z9⟩ := hW; go_simp; done) | (obtain ⟨z0, z1, z2, z3, z4, z5, z6, z7, z8, z9⟩ := hW; go_simp; omega) | (obtain ⟨z0, z1, z2, z3, z4, z5, z6, z7, z8, z9⟩ := hW; go_simp; exact IntWalk.i64_in _ (by omega)) | (obtain ⟨z0, z1, z2, z3, z4, z5, z6, z7, z8, z9⟩ := hW; go_simp; simp [*]; done)⟩) hSs ?_
          try simp only [Act.put, List.setIfInBounds_toArray, List.set_cons_zero, List.set_cons_succ]
          refine wpAnyH_ready (rs := [1]) (by kernel_rfl) (by simp) (AllReadyH.cons rfl (fun K hK => ?_) AllReadyH.nil)
          go_simp
          refine (H1.out _ (hb_1.drew)).mono ?_
          rintro e u_2 ⟨A_2, c_2, rfl, hR_2, hq_2⟩
          have hb_2 := (hb_1.drew).trans (hq_2.mono (hb_1.drew).size)
          refine hK.out _ _ (HSS.out _ hb_2) (fun hS_2 => ?_)
          clear hK K
          try simp only [Act.put, List.setIfInBounds_toArray, List.set_cons_zero, List.set_cons_succ]
          refine wpAnyH_ready (rs := [3]) (by kernel_rfl) (by simp) (AllReadyH.cons rfl (fun K hK => ?_) AllReadyH.nil)
          go_simp
          refine (H2.out _ hb_2).mono ?_
          rintro e u_3 ⟨A_3, c_3, rfl, hR_3, hq_3⟩
          have hb_3 := hb_2.trans (hq_3.mono hb_2.size)
          have hR_2_3 := hR_2.below hq_3 (Nat.le_refl _)
          clear hR_2
          refine hK.out _ _ (HSS.out _ hb_3) (fun hS_3 => ?_)
          clear hK K
          try simp only [Act.put, List.setIfInBounds_toArray, List.set_cons_zero, List.set_cons_succ]
          refine wpAnyH_take (i := 4) (oi := ⟨some 5, _, _, _, _, _⟩) (v := .slice A_2 xn9 c_2) rfl (by kernel_rfl) (by kernel_rfl) (by kernel_rfl) (fun _ _ _ h => h) (.inl ⟨by kernel_rfl, fun W hW => by kernel_rfl⟩) hS_3 ?_
          try simp only [Act.put, List.setIfInBounds_toArray, List.set_cons_zero, List.set_cons_succ]
          refine wpAnyH_take (i := 5) (oi := ⟨some 6, _, _, _, _, _⟩) (v := .slice A_3 yn9 c_3) rfl (by kernel_rfl) (by kernel_rfl) (by kernel_rfl) (fun _ _ _ h => h) (.inl ⟨by kernel_rfl, fun W hW => by kernel_rfl⟩) hS_3 ?_
          try simp only [Act.put, List.setIfInBounds_toArray, List.set_cons_zero, List.set_cons_succ]
          refine wpAnyH_done (by kernel_rfl) ?_ _
          have hbV := hb_3
          have hx2 := hR_2_3
          have hy2 := hR_3
          replace HB0 := Lib.hid (HB0.out.trans (hbV.mono HB0.out.size))
          replace L0 := L0.below hbV L0.lt
          replace L1 := L1.below hbV L1.lt
          obtain ⟨WZ, hWZ⟩ : ∃ W, W = u_3 := ⟨_, rfl⟩
          rw [← hWZ] at hx2 hy2 HB0 L0 L1 ⊢
          clear hWZ hbV HSS H1 H2 HKA HKB
          obtain ⟨Ax, hAx⟩ : ∃ z, z = A_2 := ⟨_, rfl⟩
          obtain ⟨Ay, hAy⟩ : ∃ z, z = A_3 := ⟨_, rfl⟩
          rw [← hAx] at hx2 ⊢
          rw [← hAy] at hy2 ⊢
          clear hAx hAy
          obtain ⟨xc, hxc⟩ : ∃ z, z = c_2 := ⟨_, rfl⟩
          obtain ⟨yc, hyc⟩ : ∃ z, z = c_3 := ⟨_, rfl⟩
          rw [← hxc, ← hyc]
          clear hxc hyc
          obtain ⟨gx, ox, rfl⟩ : ∃ g o, Ax = some ⟨g, o, none⟩ := by
            obtain ⟨g, o, h, _⟩ := hx2 0 (by have := HLxn9.out; omega)
            exact ⟨g, o, h⟩
          obtain ⟨i0, hi0, hz0, hz1, hz2⟩ := info_partsS infoA
          have hown0 : (WZ.alloc (.cells #[] 43)).ownsRow WZ.heap.size 43 2 (.slice (some ⟨WZ.heap.size, 0, none⟩) 0 0) 0 [] := own_empty (Lies.new _ _ _) (Nat.le_refl _)
          have hcb : ∀ j u, (cellsA xs)[j]? = some u → (WZ.alloc (.cells #[] 43)).cell? ((⟨gx, ox, none⟩ : Addr).add j) = some u := AIn.cells (hx2.below (below_allocS WZ _) (Nat.le_refl _))
          have hmx : (cellsA xs).length = xn9 * 2 := by rw [cellsA_len, HLxn9.out]
          go_wp2_with (at_builtin; refine wpList_append_own _ rfl (.tmp 36) (.tmp 37) 34 rfl WZ.heap.size 43 i0 _ 2 24 Tryz.underlying34 hi0 hz0 hz1 hz2 rfl (by decide) _ _ _ rfl hown0 ⟨gx, ox, none⟩ xn9 xc (cellsA xs) rfl hmx hcb ?c2 ?c3 ?c4 ?c5 ?_)
          case c2 => exact fun u hu => cellsA_one xs u hu
          case c3 => unfold maxLen; omega
          case c4 => omega
          case c5 => simp
          intro v1 w1 hown1 hg1 _
          have hb1 : Below WZ.heap.size WZ w1 := (below_allocS WZ _).grown hg1 (by simp) (fun k hk => (hown0.lt k hk).1)
          clear hown0 hg1 hcb hmx
          go_wp2_with fail
          go_loopw [7, 8] (fun x y wr => ∃ i n : Nat, i ≤ yn9 ∧ y = .int .i64 i ∧ Hid (n = (xs ++ (ys.take i).filter (fun p => decide (ofN xs p.1 < 0))).length) ∧ wr.ownsRow WZ.heap.size 43 2 x n (cellsA (xs ++ (ys.take i).filter (fun p => decide (ofN xs p.1 < 0)))) ∧ Below WZ.heap.size WZ wr) (fun _ y _ => yn9 - (intOf y).toNat)
          case atStart => exact ⟨0, xn9, by omega, rfl, Lib.hid (by simp [HLxn9.out]), by simpa using hown1, hb1⟩
          case round =>
            obtain ⟨i, n, hi, rfl, HN, hown, hbw⟩ := hrel
            clear hown1 hb1
            have hxr := hx2.below hbw (Nat.le_refl _)
            by_cases hlt : i < yn9
            · have hit : i < ys.length := by have := HLyn9.out; omega
              have hnb : n ≤ 2000 := by
                have h1 := HN.out
                rw [List.length_append] at h1
                have h2 := List.length_filter_le (fun p => decide (ofN xs p.1 < 0)) (ys.take i)
                rw [List.length_take] at h2
                have := HLxn9.out
                omega
              obtain ⟨gy, oy, rfl, _, d0, d1⟩ := (hy2.below hbw (Nat.le_refl _)) i hit
              have HTK : Hid (ys.take (i + 1) = ys.take i ++ [ys[i]'hit]) := Lib.hid (List.take_succ_eq_append_getElem hit)
              obtain ⟨⟨s, v⟩, hsv⟩ : ∃ p, p = ys[i]'hit := ⟨_, rfl⟩
              rw [← hsv] at d0 d1 HTK
              simp only at d0 d1
              clear hsv hit
              have HO := Lib.hid (of5_any xs s (some ⟨gx, ox, none⟩) xn9 xc wr HLxn9.out (by omega) hxr)
              obtain ⟨o9, ho9⟩ : ∃ z, z = ofN xs s := ⟨_, rfl⟩
              rw [← ho9] at HO
              have HO9 := Lib.hid ho9
              clear ho9
              go_wp2_with fail
              refine HO.out.mono ?_
              rintro e w2 ⟨rfl, hb2⟩
              have hb3 := hbw.trans (hb2.mono hbw.size)
              have e0 := (hb2.cell (p := ⟨gy, oy + i * 2, none⟩) (cell_lt d0)).trans d0
              have e1 := (hb2.cell (p := ⟨gy, oy + i * 2 + 1, none⟩) (cell_lt d1)).trans d1
              have hown2 := own_below hown hb2 (Nat.le_refl _)
              clear hown hbw hb2 d0 d1 HO hxr
              by_cases hlo : o9 < 0
              · have HE : Hid (xs ++ (ys.take (i + 1)).filter (fun p => decide (ofN xs p.1 < 0)) = (xs ++ (ys.take i).filter (fun p => decide (ofN xs p.1 < 0))) ++ [(s, v)]) := Lib.hid (by
                  rw [HTK.out, List.filter_append, List.filter_cons, if_pos (by simp only; rw [← HO9.out]; exact decide_eq_true hlo), List.filter_nil, List.append_assoc])
                have hnw : w2.heap.size ≤ (w2.alloc (.cells #[.string s, .int .i64 v] 43)).heap.size := by simp
                go_wp2_with (at_builtin; refine wpList_append_own _ rfl (.tmp 53) (.tmp 58) 34 rfl WZ.heap.size 43 i0 _ 2 24 Tryz.underlying34 hi0 hz0 hz1 hz2 rfl (by decide) _ _ _ rfl (hown2.alloc _) ⟨w2.heap.size, 0, none⟩ 1 1 [.string s, .int .i64 v] rfl rfl ?c1 ?c2 ?c3 ?c4 ?c5 ?_)
                case c1 => exact new_cells _ 43 [.string s, .int .i64 v] _ rfl
                case c2 => intro u hu; simp at hu; rcases hu with rfl | rfl <;> rfl
                case c3 => unfold maxLen; omega
                case c4 => omega
                case c5 => have := hb3.size; simp; omega
                intro v3 w3 hown3 hg3 _
                have hb4 : Below WZ.heap.size WZ w3 := (hb3.alloc hb3.size _).grown hg3 (by have := hb3.size; simp; omega) (fun k hk => (hown2.lt k hk).1)
                have hE2 : cellsA (xs ++ (ys.take i).filter (fun p => decide (ofN xs p.1 < 0))) ++ [.string s, .int .i64 v] = cellsA (xs ++ (ys.take (i + 1)).filter (fun p => decide (ofN xs p.1 < 0))) := by rw [HE.out]; simp [cellsA]
                rw [hE2] at hown3
                have HN2 : Hid (n + 1 = (xs ++ (ys.take (i + 1)).filter (fun p => decide (ofN xs p.1 < 0))).length) := Lib.hid (by rw [HE.out, List.length_append, ← HN.out]; rfl)
                clear hown2 hb3 hg3 hE2 e0 e1 hnw
                go_wp2_with fail
                go_roundw
                case rel => exact ⟨i + 1, n + 1, by omega, by go_num, HN2, hown3, hb4⟩
                case measure => simp [intOf]; omega
              · have HE : Hid (xs ++ (ys.take (i + 1)).filter (fun p => decide (ofN xs p.1 < 0)) = xs ++ (ys.take i).filter (fun p => decide (ofN xs p.1 < 0))) := Lib.hid (by
                  rw [HTK.out, List.filter_append, List.filter_cons, if_neg (by simp only; rw [← HO9.out, decide_eq_true_eq]; exact hlo), List.filter_nil, List.append_nil])
                have HN2 : Hid (n = (xs ++ (ys.take (i + 1)).filter (fun p => decide (ofN xs p.1 < 0))).length) := Lib.hid (by rw [HE.out, ← HN.out])
                rw [← HE.out] at hown2
                go_wp2_with fail
                go_roundw
                case rel => exact ⟨i + 1, n, by omega, by go_num, HN2, hown2, hb3⟩
                case measure => simp [intOf]; omega
            · obtain rfl : i = yn9 := by omega
              have HTK : Hid (ys.take i = ys) := Lib.hid (List.take_of_length_le (by have := HLyn9.out; omega))
              rw [HTK.out] at hown HN
              obtain ⟨zs, hzs⟩ : ∃ z, z = xs ++ ys.filter (fun p => decide (ofN xs p.1 < 0)) := ⟨_, rfl⟩
              have hnb : n ≤ 2000 := by
                have h1 := HN.out
                rw [List.length_append] at h1
                have h2 := List.length_filter_le (fun p => decide (ofN xs p.1 < 0)) ys
                have := HLxn9.out
                have := HLyn9.out
                omega
              rw [← hzs] at hown HN HK3 HK10
              obtain ⟨Az, cz, rfl⟩ := own_slice hown
              have hz := (AIn.owned hown).any
              have HBR := Lib.hid (HB0.out.trans (hbw.mono HB0.out.size))
              have M0 := L0.below hbw L0.lt
              have M1 := L1.below hbw L1.lt
              have h2x : (2 : Int) ≤ (xn9 : Int) := by omega
              have HAZ : Hid (∀ X (E G : Option Addr) (x y : Nat), AIn X Any zs E → AIn X Any zs G → Calls Tryz.prog 14 #[.slice E n x, .slice G n y] X (fun e w' => e = .returned (.bool true) ∧ Below X.heap.size X w')) := Lib.hid fun X E G x y h1 h2 => by
                have h := arities_any zs zs E G n n x y X HN.out HN.out (by omega) (by omega) h1 h2
                rw [decide_eq_true (rfl : zs = zs)] at h
                exact h
              have HG3 := Lib.hid (HK3.out (by simp) (by simp) (by simp) (by simp) wr HBR.out)
              rw [← HN.out] at HG3 HK10
              clear hown hbw L0 L1 HB0 hzs HK3 HTK
              obtain ⟨⟨x00, x01, x02, x03, x04⟩, _⟩ := M0.five
              obtain ⟨⟨x10, x11, x12, x13, x14⟩, _⟩ := M1.five
              go_wp2_with fail
              refine HG3.out.mono ?_
              rintro e w2 ⟨E3, c3, rfl, h3, hb⟩
              replace HBR := Lib.hid (HBR.out.trans (hb.mono HBR.out.size))
              replace M0 := M0.below hb M0.lt
              replace M1 := M1.below hb M1.lt
              replace hz := hz.below hb (Nat.le_refl _)
              clear hb HG3 x00 x01 x02 x03 x04 x10 x11 x12 x13 x14
              go_wp2_with fail
              refine (HAZ.out w2 E3 Az c3 cz h3 hz).mono ?_
              rintro e w4 ⟨rfl, hb⟩
              replace HBR := Lib.hid (HBR.out.trans (hb.mono HBR.out.size))
              replace M0 := M0.below hb M0.lt
              replace M1 := M1.below hb M1.lt
              replace hz := hz.below hb (Nat.le_refl _)
              clear hb h3
              have HG10 := Lib.hid (HK10.out (by simp) (by simp) (by simp) (by simp) w4 HBR.out)
              clear HK10
              obtain ⟨⟨x00, x01, x02, x03, x04⟩, _⟩ := M0.five
              obtain ⟨⟨x10, x11, x12, x13, x14⟩, _⟩ := M1.five
              go_wp2_with fail
              refine HG10.out.mono ?_
              rintro e w5 ⟨E5, c5, rfl, h5, hb⟩
              replace HBR := Lib.hid (HBR.out.trans (hb.mono HBR.out.size))
              replace hz := hz.below hb (Nat.le_refl _)
              clear hb HG10 x00 x01 x02 x03 x04 x10 x11 x12 x13 x14
              go_wp2_with fail
              refine (HAZ.out w5 E5 Az c5 cz h5 hz).mono ?_
              rintro e w6 ⟨rfl, hb⟩
              replace HBR := Lib.hid (HBR.out.trans (hb.mono HBR.out.size))
              clear hb
              go_wp2_with fail
              go_ret
              exact ⟨rfl, HBR.out⟩
end Lx
end Go.Proofs.YtobdoahdjbmflaaGreatDoor
