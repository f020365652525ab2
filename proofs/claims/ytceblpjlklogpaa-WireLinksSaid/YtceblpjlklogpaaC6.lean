/-
  Texts that lie one behind the other: NwG.
-/
import Derived.Test.YtceblpjlklogpaaC5
namespace Go.Proofs.Ytceblpjlklogpaa
open Go Go.RowKit
namespace Lx
set_option maxRecDepth 100000
set_option maxHeartbeats 8000000 in
theorem rPeer_any (l : List Nd) (A : Option Addr) (m c : Nat) (cap : Int) (p : Int × Int) (w : World) (hm : m = l.length) (hN : NdsIn w AnyB l A) :
    Calls Try.prog 11 #[.agg #[.slice A m c, .int .i64 cap], .agg #[.int .i64 p.1, .int .i64 p.2]] w fun e w' => e = .returned (.tuple #[.agg #[.int .i64 (peerNV l p).1.1, .int .i64 (peerNV l p).1.2], .int .i64 (peerNV l p).2]) ∧ Below w.heap.size w w' := by
  obtain ⟨a, b⟩ := p
  simp only
  obtain ⟨w1, hw1⟩ : ∃ w1, w1 = (((w.alloc (.cells #[.slice A m c, .int .i64 cap] 24)).alloc (.cells #[.int .i64 a, .int .i64 b] 26)).alloc (.cells #[.int .i64 0, .int .i64 0] 26)) := ⟨_, rfl⟩
  have hb : Below w.heap.size w w1 := by rw [hw1]; exact (((Below.refl _ w).alloc (Nat.le_refl _) _).alloc (by simp) _).alloc (by simp; omega) _
  have L0 : Lies w1 w.heap.size 24 #[.slice A m c, .int .i64 cap] := by rw [hw1]; exact ((Lies.new _ _ _).old _).old _
  have L1 : Lies w1 (w.heap.size + 1) 26 #[.int .i64 a, .int .i64 b] := by rw [hw1]; exact Lies.old (by simpa using Lies.new (w.alloc (.cells #[.slice A m c, .int .i64 cap] 24)) 26 #[.int .i64 a, .int .i64 b]) _
  have L2 : Lies w1 (w.heap.size + 2) 26 #[.int .i64 0, .int .i64 0] := by rw [hw1]; simpa using Lies.new ((w.alloc (.cells #[.slice A m c, .int .i64 cap] 24)).alloc (.cells #[.int .i64 a, .int .i64 b] 26)) 26 #[.int .i64 0, .int .i64 0]
  have HC := Lib.hid (has_any l A m c cap a b w1 hm (hN.below hb (Nat.le_refl _)))
  have HN := Lib.hid hN
  have HM := Lib.hid hm
  have HL0 := Lib.hid L0
  have HL1 := Lib.hid L1
  have HL2 := Lib.hid L2
  have HBP := Lib.hid hb
  obtain ⟨pa, hpa⟩ : ∃ q, q = (peerNV l (a, b)).1.1 := ⟨_, rfl⟩
  obtain ⟨pb, hpb⟩ : ∃ q, q = (peerNV l (a, b)).1.2 := ⟨_, rfl⟩
  obtain ⟨pe, hpe⟩ : ∃ q, q = (peerNV l (a, b)).2 := ⟨_, rfl⟩
  rw [← hpa, ← hpb, ← hpe]
  have HPA := Lib.hid hpa
  have HPB := Lib.hid hpb
  have HPE := Lib.hid hpe
  obtain ⟨n0, n1⟩ := two_cells L0
  obtain ⟨y0, y1⟩ := two_cells L1
  clear hN hm L0 L1 L2 hb hpa hpb hpe
  go_enter Try.func11, Try.ntmps11
  go_upto_region 1 with fail
  rw [← hw1]
  clear hw1
  go_wp2_with fail
  refine HC.out.mono ?_
  rintro e V ⟨rfl, hb4⟩
  clear HC n0 n1 y0 y1
  replace HL0 := Lib.hid (HL0.out.below hb4 HL0.out.lt)
  replace HL1 := Lib.hid (HL1.out.below hb4 HL1.out.lt)
  replace HL2 := Lib.hid (HL2.out.below hb4 HL2.out.lt)
  replace HBP := Lib.hid (HBP.out.trans (hb4.mono HBP.out.size))
  clear hb4
  cases hh : hasV l (a, b) with
  | false =>
    have f0 := HL2.out.frozen 0
    have f1 := HL2.out.frozen 1
    obtain ⟨r0, r1⟩ := two_cells HL2.out
    have e9 : peerNV l (a, b) = ((0, 0), 130) := by rw [peerNV, if_neg (by rw [hh]; simp)]
    have ha : pa = 0 := by rw [HPA.out, e9]
    have hb9 : pb = 0 := by rw [HPB.out, e9]
    have he : pe = 130 := by rw [HPE.out, e9]
    subst ha hb9 he
    clear hh e9
    go_wp2_with fail
    have hR9 := lies_put2 HL2.out (.int .i64 0) (.int .i64 0)
    refine bodyPost_ret (res_port2 (p := 4) Try.results11 rfl hR9) rfl ⟨rfl, (HBP.out.setCell (p := ⟨w.heap.size + 2, 0, none⟩) (by show w.heap.size ≤ w.heap.size + 2; omega) _).setCell (p := ⟨w.heap.size + 2, 1, none⟩) (by show w.heap.size ≤ w.heap.size + 2; omega) _⟩
  | true =>
    have e9 : peerNV l (a, b) = (toAt l (a, b), 0) := peer_ok hh
    have HPP := Lib.hid (rto_any l A m c cap (a, b) V HM.out (HN.out.below HBP.out (Nat.le_refl _)) hh)
    rw [show (toAt l (a, b)).1 = pa by rw [HPA.out, e9], show (toAt l (a, b)).2 = pb by rw [HPB.out, e9]] at HPP
    have he : pe = 0 := by rw [HPE.out, e9]
    subst he
    obtain ⟨n0, n1⟩ := two_cells HL0.out
    obtain ⟨y0, y1⟩ := two_cells HL1.out
    clear hh e9
    go_wp2_with fail
    refine HPP.out.mono ?_
    rintro e V2 ⟨rfl, hb5⟩
    replace HL2 := Lib.hid (HL2.out.below hb5 HL2.out.lt)
    replace HBP := Lib.hid (HBP.out.trans (hb5.mono HBP.out.size))
    have f0 := HL2.out.frozen 0
    have f1 := HL2.out.frozen 1
    obtain ⟨r0, r1⟩ := two_cells HL2.out
    clear n0 n1 y0 y1 HPP
    go_wp2_with fail
    have hR9 := lies_put2 HL2.out (.int .i64 pa) (.int .i64 pb)
    refine bodyPost_ret (res_port2 (p := 4) Try.results11 rfl hR9) rfl ⟨rfl, (HBP.out.setCell (p := ⟨w.heap.size + 2, 0, none⟩) (by show w.heap.size ≤ w.heap.size + 2; omega) _).setCell (p := ⟨w.heap.size + 2, 1, none⟩) (by show w.heap.size ≤ w.heap.size + 2; omega) _⟩
set_option maxHeartbeats 16000000 in
theorem rlink_any (l : List Nd) (A : Option Addr) (m c : Nat) (cap : Int) (p q : Int × Int) (w : World) (hm : m = l.length) (hm2 : m ≤ 100000) (hk : Few9 l) (X : Nat → Prop) (hX : ∀ g, X g → g < w.heap.size) (hN : NdsIn w X l A) :
    Calls Try.prog 13 #[.agg #[.slice A m c, .int .i64 cap], .agg #[.int .i64 p.1, .int .i64 p.2], .agg #[.int .i64 q.1, .int .i64 q.2]] w (GivesR (linkNV l p q).1 cap (linkNV l p q).2 X w) := by
  obtain ⟨a, b⟩ := p
  obtain ⟨a2, b2⟩ := q
  simp only
  obtain ⟨W, hW⟩ : ∃ w1, w1 = ((((w.alloc (.cells #[.slice A m c, .int .i64 cap] 24)).alloc (.cells #[.int .i64 a, .int .i64 b] 26)).alloc (.cells #[.int .i64 a2, .int .i64 b2] 26)).alloc (.cells #[.slice none 0 0, .int .i64 0] 24)) := ⟨_, rfl⟩
  have hb : Below w.heap.size w W := by rw [hW]; exact ((((Below.refl _ w).alloc (Nat.le_refl _) _).alloc (by simp) _).alloc (by simp; omega) _).alloc (by simp; omega) _
  have L0 : Lies W w.heap.size 24 #[.slice A m c, .int .i64 cap] := by rw [hW]; exact (((Lies.new _ _ _).old _).old _).old _
  have L1 : Lies W (w.heap.size + 1) 26 #[.int .i64 a, .int .i64 b] := by rw [hW]; exact Lies.old (Lies.old (by simpa using Lies.new (w.alloc (.cells #[.slice A m c, .int .i64 cap] 24)) 26 #[.int .i64 a, .int .i64 b]) _) _
  have L2 : Lies W (w.heap.size + 2) 26 #[.int .i64 a2, .int .i64 b2] := by rw [hW]; exact Lies.old (by simpa using Lies.new ((w.alloc (.cells #[.slice A m c, .int .i64 cap] 24)).alloc (.cells #[.int .i64 a, .int .i64 b] 26)) 26 #[.int .i64 a2, .int .i64 b2]) _
  have L3 : Lies W (w.heap.size + 3) 24 #[.slice none 0 0, .int .i64 0] := by rw [hW]; simpa using Lies.new (((w.alloc (.cells #[.slice A m c, .int .i64 cap] 24)).alloc (.cells #[.int .i64 a, .int .i64 b] 26)).alloc (.cells #[.int .i64 a2, .int .i64 b2] 26)) 24 #[.slice none 0 0, .int .i64 0]
  have hWs : W.heap.size = w.heap.size + 4 := by rw [hW]; simp
  have hNW : NdsIn W X l A := hN.below hb (Nat.le_refl _)
  have HM := Lib.hid hm
  have HK := Lib.hid hk
  have HB := Lib.hid hb
  have HN := Lib.hid hNW
  have HL3 := Lib.hid L3
  have HS : Hid (∀ V, Below W.heap.size W V → V.cell? ⟨w.heap.size, 0, none⟩ = some (.slice A m c) ∧ V.cell? ⟨w.heap.size, 1, none⟩ = some (.int .i64 cap) ∧ V.cell? ⟨w.heap.size + 1, 0, none⟩ = some (.int .i64 a) ∧ V.cell? ⟨w.heap.size + 1, 1, none⟩ = some (.int .i64 b) ∧ V.cell? ⟨w.heap.size + 2, 0, none⟩ = some (.int .i64 a2) ∧ V.cell? ⟨w.heap.size + 2, 1, none⟩ = some (.int .i64 b2)) := Lib.hid fun V hV => ⟨(hV.cell (p := ⟨w.heap.size, 0, none⟩) L0.lt).trans (L0.cell 0), (hV.cell (p := ⟨w.heap.size, 1, none⟩) L0.lt).trans (L0.cell 1), (hV.cell (p := ⟨w.heap.size + 1, 0, none⟩) L1.lt).trans (L1.cell 0), (hV.cell (p := ⟨w.heap.size + 1, 1, none⟩) L1.lt).trans (L1.cell 1), (hV.cell (p := ⟨w.heap.size + 2, 0, none⟩) L2.lt).trans (L2.cell 0), (hV.cell (p := ⟨w.heap.size + 2, 1, none⟩) L2.lt).trans (L2.cell 1)⟩
  have HHA : Hid (∀ V a b, Below W.heap.size W V → Calls Try.prog 20 #[.agg #[.slice A m c, .int .i64 cap], .agg #[.int .i64 a, .int .i64 b]] V fun e w' => e = .returned (.bool (hasV l (a, b))) ∧ Below V.heap.size V w') := Lib.hid fun V a b hV => has_any l A m c cap a b V hm (hNW.any.below hV (Nat.le_refl _))
  obtain ⟨ns', hns⟩ : ∃ ns', ns' = (linkNV l (a, b) (a2, b2)).1 := ⟨_, rfl⟩
  obtain ⟨er, her⟩ : ∃ er, er = (linkNV l (a, b) (a2, b2)).2 := ⟨_, rfl⟩
  rw [← hns, ← her]
  have HNS : Hid ((ns', er) = linkNV l (a, b) (a2, b2)) := Lib.hid (by rw [hns, her])
  clear hN hm hk hb hNW L0 L1 L2 L3 hns her
  have HOK : Hid (hasV l (a, b) = true → hasV l (a2, b2) = true → (((a, b) : Int × Int) == (a2, b2)) = false → (ns', er) = (setNV (setNV l (a, b) (a2, b2)) (a2, b2) (a, b), 0)) := Lib.hid fun h1 h2 h3 => by rw [HNS.out]; exact link_ok h1 h2 (by simpa using h3)
  have HNO : Hid (¬ (hasV l (a, b) = true ∧ hasV l (a2, b2) = true ∧ ((a, b) : Int × Int) ≠ (a2, b2)) → (ns', er) = (l, 130)) := Lib.hid fun h => by rw [HNS.out]; exact (none_link h).1
  clear HNS
  obtain ⟨n0, n1, y0, y1, z0, z1⟩ := HS.out W (Below.refl _ _)
  have H1 := Lib.hid (HHA.out W a b (Below.refl _ _))
  go_enter Try.func13, Try.ntmps13
  go_upto_region 1 with fail
  rw [← hW]
  clear hW
  cases h1 : hasV l (a, b) with
  | false =>
    rw [h1] at H1
    obtain ⟨he1, he2⟩ := Prod.mk.inj (HNO.out (by rw [h1]; simp))
    have HE1 := Lib.hid he1
    have HE2 := Lib.hid he2
    clear he1 he2 h1 HNO HOK
    go_wp2_with fail
    refine H1.out.mono ?_
    rintro e Z ⟨rfl, hZ⟩
    clear n0 n1 y0 y1 z0 z1 H1
    obtain ⟨n0, n1, y0, y1, z0, z1⟩ := HS.out Z hZ
    have hR := HL3.out.below hZ HL3.out.lt
    obtain ⟨r0, r1⟩ := two_cells hR
    have f0 := hR.frozen 0
    have f1 := hR.frozen 1
    have HR := Lib.hid hR
    have HB9 := Lib.hid (HB.out.trans (hZ.mono HB.out.size))
    have HN9 := Lib.hid (HN.out.below hZ (Nat.le_refl _))
    clear hR hZ
    go_wp2_with fail
    have hR9 := lies_put2 HR.out (.slice A m c) (.int .i64 cap)
    refine bodyPost_ret (res_net2 (p := 6) Try.results13 rfl hR9) rfl ⟨A, m, c, ?_, ?_, ?_, (HB9.out.setCell (p := ⟨w.heap.size + 3, 0, none⟩) (by show w.heap.size ≤ w.heap.size + 3; omega) _).setCell (p := ⟨w.heap.size + 3, 1, none⟩) (by show w.heap.size ≤ w.heap.size + 3; omega) _⟩
    · rw [HE2.out]; rfl
    · rw [HE1.out]; exact HM.out
    · rw [HE1.out]
      exact ((HN9.out.keep (keep_set ⟨w.heap.size + 3, 0, none⟩ _ (fun h => by have h9 : w.heap.size + 3 < w.heap.size := hX _ h; omega))).keep (keep_set ⟨w.heap.size + 3, 1, none⟩ _ (fun h => by have h9 : w.heap.size + 3 < w.heap.size := hX _ h; omega))).keep (keep_wide fun q h _ => .inl h)
  | true =>
    rw [h1] at H1
    go_wp2_with fail
    refine H1.out.mono ?_
    rintro e V1 ⟨rfl, hV1⟩
    clear n0 n1 y0 y1 z0 z1 H1
    obtain ⟨n0, n1, y0, y1, z0, z1⟩ := HS.out V1 hV1
    have H2 := Lib.hid (HHA.out V1 a2 b2 hV1)
    cases h2 : hasV l (a2, b2) with
    | false =>
      rw [h2] at H2
      obtain ⟨he1, he2⟩ := Prod.mk.inj (HNO.out (by rw [h2]; simp))
      have HE1 := Lib.hid he1
      have HE2 := Lib.hid he2
      clear he1 he2 h1 h2 HNO HOK
      go_wp2_with fail
      refine H2.out.mono ?_
      rintro e Z ⟨rfl, hZ2⟩
      have hZ := hV1.trans (hZ2.mono hV1.size)
      clear n0 n1 y0 y1 z0 z1 H2 hZ2
      obtain ⟨n0, n1, y0, y1, z0, z1⟩ := HS.out Z hZ
      have hR := HL3.out.below hZ HL3.out.lt
      obtain ⟨r0, r1⟩ := two_cells hR
      have f0 := hR.frozen 0
      have f1 := hR.frozen 1
      have HR := Lib.hid hR
      have HB9 := Lib.hid (HB.out.trans (hZ.mono HB.out.size))
      have HN9 := Lib.hid (HN.out.below hZ (Nat.le_refl _))
      clear hR hZ
      go_wp2_with fail
      have hR9 := lies_put2 HR.out (.slice A m c) (.int .i64 cap)
      refine bodyPost_ret (res_net2 (p := 6) Try.results13 rfl hR9) rfl ⟨A, m, c, ?_, ?_, ?_, (HB9.out.setCell (p := ⟨w.heap.size + 3, 0, none⟩) (by show w.heap.size ≤ w.heap.size + 3; omega) _).setCell (p := ⟨w.heap.size + 3, 1, none⟩) (by show w.heap.size ≤ w.heap.size + 3; omega) _⟩
      · rw [HE2.out]; rfl
      · rw [HE1.out]; exact HM.out
      · rw [HE1.out]
        exact ((HN9.out.keep (keep_set ⟨w.heap.size + 3, 0, none⟩ _ (fun h => by have h9 : w.heap.size + 3 < w.heap.size := hX _ h; omega))).keep (keep_set ⟨w.heap.size + 3, 1, none⟩ _ (fun h => by have h9 : w.heap.size + 3 < w.heap.size := hX _ h; omega))).keep (keep_wide fun q h _ => .inl h)
    | true =>
      rw [h2] at H2
      have heq := port_eql a b a2 b2
      go_wp2_with fail
      refine H2.out.mono ?_
      rintro e V2 ⟨rfl, hZ2⟩
      have hV2 := hV1.trans (hZ2.mono hV1.size)
      clear n0 n1 y0 y1 z0 z1 H2 hZ2
      obtain ⟨n0, n1, y0, y1, z0, z1⟩ := HS.out V2 hV2
      obtain ⟨δ, hδ⟩ : ∃ δ, δ = (((a, b) : Int × Int) == (a2, b2)) := ⟨_, rfl⟩
      rw [← hδ] at heq
      cases δ with
      | true =>
        obtain ⟨he1, he2⟩ := Prod.mk.inj (HNO.out (by rintro ⟨_, _, h⟩; exact h (by simpa using hδ.symm)))
        have HE1 := Lib.hid he1
        have HE2 := Lib.hid he2
        clear he1 he2 h1 h2 HNO HOK hδ
        obtain ⟨Z, hZZ⟩ : ∃ Z, Z = V2 := ⟨_, rfl⟩
        have hZ : Below W.heap.size W Z := by rw [hZZ]; exact hV2
        rw [← hZZ] at n0 n1 y0 y1 z0 z1 ⊢
        clear hZZ hV2 n0 n1 y0 y1 z0 z1
        obtain ⟨n0, n1, y0, y1, z0, z1⟩ := HS.out Z hZ
        have hR := HL3.out.below hZ HL3.out.lt
        obtain ⟨r0, r1⟩ := two_cells hR
        have f0 := hR.frozen 0
        have f1 := hR.frozen 1
        have HR := Lib.hid hR
        have HB9 := Lib.hid (HB.out.trans (hZ.mono HB.out.size))
        have HN9 := Lib.hid (HN.out.below hZ (Nat.le_refl _))
        clear hR hZ
        go_wp2_with fail
        have hR9 := lies_put2 HR.out (.slice A m c) (.int .i64 cap)
        refine bodyPost_ret (res_net2 (p := 6) Try.results13 rfl hR9) rfl ⟨A, m, c, ?_, ?_, ?_, (HB9.out.setCell (p := ⟨w.heap.size + 3, 0, none⟩) (by show w.heap.size ≤ w.heap.size + 3; omega) _).setCell (p := ⟨w.heap.size + 3, 1, none⟩) (by show w.heap.size ≤ w.heap.size + 3; omega) _⟩
        · rw [HE2.out]; rfl
        · rw [HE1.out]; exact HM.out
        · rw [HE1.out]
          exact ((HN9.out.keep (keep_set ⟨w.heap.size + 3, 0, none⟩ _ (fun h => by have h9 : w.heap.size + 3 < w.heap.size := hX _ h; omega))).keep (keep_set ⟨w.heap.size + 3, 1, none⟩ _ (fun h => by have h9 : w.heap.size + 3 < w.heap.size := hX _ h; omega))).keep (keep_wide fun q h _ => .inl h)
      | false =>
        obtain ⟨he1, he2⟩ := Prod.mk.inj (HOK.out h1 h2 hδ.symm)
        have HE1 := Lib.hid he1
        have HE2 := Lib.hid he2
        obtain ⟨i, k, e9, hil, hkl⟩ := nat_port h1
        obtain ⟨i2, k2, e8, hil2, hkl2⟩ := nat_port h2
        obtain ⟨rfl, rfl⟩ := Prod.mk.inj e9
        obtain ⟨rfl, rfl⟩ := Prod.mk.inj e8
        have HKL := Lib.hid hkl
        have HKL2 := Lib.hid hkl2
        have him : i < m := by have := HM.out; omega
        have him2 : i2 < m := by have := HM.out; omega
        clear he1 he2 h1 h2 HNO HOK hδ e9 e8 hil hil2 hkl hkl2
        go_upto_region 3 with fail
        clear n0 n1 y0 y1 z0 z1 heq
        have HS2 : Hid (∀ V, Below W.heap.size W V → ∀ u v, ((V.setCell ⟨w.heap.size + 3, 0, none⟩ u).setCell ⟨w.heap.size + 3, 1, none⟩ v).cell? ⟨w.heap.size, 0, none⟩ = some (.slice A m c) ∧ ((V.setCell ⟨w.heap.size + 3, 0, none⟩ u).setCell ⟨w.heap.size + 3, 1, none⟩ v).cell? ⟨w.heap.size, 1, none⟩ = some (.int .i64 cap) ∧ ((V.setCell ⟨w.heap.size + 3, 0, none⟩ u).setCell ⟨w.heap.size + 3, 1, none⟩ v).cell? ⟨w.heap.size + 1, 0, none⟩ = some (.int .i64 i) ∧ ((V.setCell ⟨w.heap.size + 3, 0, none⟩ u).setCell ⟨w.heap.size + 3, 1, none⟩ v).cell? ⟨w.heap.size + 1, 1, none⟩ = some (.int .i64 k) ∧ ((V.setCell ⟨w.heap.size + 3, 0, none⟩ u).setCell ⟨w.heap.size + 3, 1, none⟩ v).cell? ⟨w.heap.size + 2, 0, none⟩ = some (.int .i64 i2) ∧ ((V.setCell ⟨w.heap.size + 3, 0, none⟩ u).setCell ⟨w.heap.size + 3, 1, none⟩ v).cell? ⟨w.heap.size + 2, 1, none⟩ = some (.int .i64 k2)) := Lib.hid fun V hV u v => by
          have h9 : ∀ q j, q ≠ w.heap.size + 3 → ((V.setCell ⟨w.heap.size + 3, 0, none⟩ u).setCell ⟨w.heap.size + 3, 1, none⟩ v).cell? ⟨q, j, none⟩ = V.cell? ⟨q, j, none⟩ := fun q j hq => by
            rw [World.cell?_setCell_other _ _ ⟨q, j, none⟩ _ (fun e => hq (by injection e with e; exact e.symm)), World.cell?_setCell_other _ _ ⟨q, j, none⟩ _ (fun e => hq (by injection e with e; exact e.symm))]
          have h := HS.out V hV
          rw [h9 _ _ (by omega), h9 _ _ (by omega), h9 _ _ (by omega), h9 _ _ (by omega), h9 _ _ (by omega), h9 _ _ (by omega)]
          exact h
        have HD := Lib.hid hV2.drew
        go_region_held3 (fun V => V.cell? ⟨w.heap.size, 0, none⟩ = some (.slice A m c) ∧ V.cell? ⟨w.heap.size, 1, none⟩ = some (.int .i64 cap) ∧ V.cell? ⟨w.heap.size + 1, 0, none⟩ = some (.int .i64 i) ∧ V.cell? ⟨w.heap.size + 1, 1, none⟩ = some (.int .i64 k) ∧ V.cell? ⟨w.heap.size + 2, 0, none⟩ = some (.int .i64 i2) ∧ V.cell? ⟨w.heap.size + 2, 1, none⟩ = some (.int .i64 k2))
          (first | exact HS.out _ HD.out | exact HS2.out _ hB4 _ _ | exact HS.out _ hB4 | exact HS.out _ hB3)
          (first
            | (go_at_call 30
               refine (rset_any (setNV l ((i : Int), (k : Int)) ((i2 : Int), (k2 : Int))) A3 m c3 cap i2 k2 (i : Int) (k : Int) V3 (by rw [setNV_len]; exact HM.out) hm2 (fun j hj => by rw [(setNV_kind _ _ _ _).2.1, (setNV_kind _ _ _ _).2.2]; exact HK.out j (by rw [setNV_len] at hj; exact hj)) (fun g => (X g ∨ V2.heap.size ≤ g) ∧ g < V3.heap.size) (fun g h => h.2) HN3.out him2 (by rw [(setNV_kind _ _ _ _).2.1]; exact HKL2.out)).mono ?_
               rintro e V4 ⟨A4, c4, rfl, hN4, hb4⟩
               have hB4 : Below W.heap.size W V4 := hB3.trans (hb4.mono hB3.size)
               have hR4 := HL3.out.below hB4 HL3.out.lt
               have r0 := hR4.cell 0
               have r1 := hR4.cell 1
               simp at r0 r1
               have f0 := hR4.frozen 0
               have f1 := hR4.frozen 1)
            | (go_at_call 30
               refine (rset_any l A m c cap i k (i2 : Int) (k2 : Int) V2.drew HM.out hm2 HK.out X (fun g h => by have h1 := hX g h; have h2 : W.heap.size ≤ V2.heap.size := hV2.size; show g < V2.heap.size; omega) (HN.out.below HD.out (Nat.le_refl _)) him HKL.out).mono ?_
               rintro e V3 ⟨A3, c3, rfl, hN3, hb3⟩
               have HN3 : Hid (NdsIn V3 (fun g => (X g ∨ V2.heap.size ≤ g) ∧ g < V3.heap.size) (setNV l ((i : Int), (k : Int)) ((i2 : Int), (k2 : Int))) A3) := Lib.hid (hN3.keep fun q j hq hlt => ⟨rfl, hq, hlt⟩)
               have hB3 : Below W.heap.size W V3 := HD.out.trans (hb3.mono HD.out.size)))
        go_wp2_with fail
        have hR9 := lies_put2 hR4 (.slice A4 m c4) (.int .i64 cap)
        refine bodyPost_ret (res_net2 (p := 6) Try.results13 rfl hR9) rfl ⟨A4, m, c4, ?_, ?_, ?_, ((HB.out.trans (hB4.mono HB.out.size)).setCell (p := ⟨w.heap.size + 3, 0, none⟩) (by show w.heap.size ≤ w.heap.size + 3; omega) _).setCell (p := ⟨w.heap.size + 3, 1, none⟩) (by show w.heap.size ≤ w.heap.size + 3; omega) _⟩
        · rw [HE2.out]; rfl
        · rw [HE1.out, setNV_len, setNV_len]; exact HM.out
        · rw [HE1.out]
          have hs2 := hV2.size
          have hs3 := hB3.size
          have hN5 : NdsIn V4 (fun g => X g ∨ w.heap.size + 4 ≤ g) _ A4 := hN4.keep (keep_wide fun q h _ => by
            rcases h with ⟨h | h, _⟩ | h
            · exact .inl h
            · exact .inr (by omega)
            · exact .inr (by omega))
          have hno : ∀ j, ¬ (fun g => X g ∨ w.heap.size + 4 ≤ g) (⟨w.heap.size + 3, j, none⟩ : Addr).block := fun j h => by
            rcases h with h | h
            · have h9 : w.heap.size + 3 < w.heap.size := hX _ h; omega
            · have h9 : w.heap.size + 4 ≤ w.heap.size + 3 := h; omega
          exact ((hN5.keep (keep_set ⟨w.heap.size + 3, 0, none⟩ _ (hno 0))).keep (keep_set ⟨w.heap.size + 3, 1, none⟩ _ (hno 1))).keep (keep_wide fun q h _ => by
            rcases h with h | h
            · exact .inl h
            · exact .inr (by omega))
end Lx
end Go.Proofs.Ytceblpjlklogpaa
