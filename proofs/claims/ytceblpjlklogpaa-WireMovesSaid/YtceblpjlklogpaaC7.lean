/-
  Texts that lie one behind the other: NwH.
-/
import Derived.Test.YtceblpjlklogpaaC6
namespace Go.Proofs.Ytceblpjlklogpaa
open Go Go.RowKit
namespace Lx
set_option maxRecDepth 100000
set_option maxHeartbeats 16000000 in
theorem rmove_any (l : List Nd) (A : Option Addr) (m c : Nat) (cap : Int) (p q : Int × Int) (w : World) (hm : m = l.length) (hm2 : m ≤ 100000) (hk : Few9 l) (X : Nat → Prop) (hX : ∀ g, X g → g < w.heap.size) (hN : NdsIn w X l A) :
    Calls Try.prog 15 #[.agg #[.slice A m c, .int .i64 cap], .agg #[.int .i64 p.1, .int .i64 p.2], .agg #[.int .i64 q.1, .int .i64 q.2]] w (GivesR (moveNV l p q).1 cap (moveNV l p q).2 X w) := by
  obtain ⟨a, b⟩ := p
  obtain ⟨a2, b2⟩ := q
  simp only
  obtain ⟨W, hW⟩ : ∃ w1, w1 = ((((w.alloc (.cells #[.slice A m c, .int .i64 cap] 24)).alloc (.cells #[.int .i64 a, .int .i64 b] 26)).alloc (.cells #[.int .i64 a2, .int .i64 b2] 26)).alloc (.cells #[.slice none 0 0, .int .i64 0] 24)) := ⟨_, rfl⟩
  have hb : Below w.heap.size w W := by rw [hW]; exact ((((Below.refl _ w).alloc (Nat.le_refl _) _).alloc (by simp) _).alloc (by simp; omega) _).alloc (by simp; omega) _
  have L0 : Lies W w.heap.size 24 #[.slice A m c, .int .i64 cap] := by rw [hW]; exact (((Lies.new _ _ _).old _).old _).old _
  have L1 : Lies W (w.heap.size + 1) 26 #[.int .i64 a, .int .i64 b] := by rw [hW]; exact Lies.old (Lies.old (by simpa using Lies.new (w.alloc (.cells #[.slice A m c, .int .i64 cap] 24)) 26 #[.int .i64 a, .int .i64 b]) _) _
  have L2 : Lies W (w.heap.size + 2) 26 #[.int .i64 a2, .int .i64 b2] := by rw [hW]; exact Lies.old (by simpa using Lies.new ((w.alloc (.cells #[.slice A m c, .int .i64 cap] 24)).alloc (.cells #[.int .i64 a, .int .i64 b] 26)) 26 #[.int .i64 a2, .int .i64 b2]) _
  have L3 : Lies W (w.heap.size + 3) 24 #[.slice none 0 0, .int .i64 0] := by rw [hW]; simpa using Lies.new (((w.alloc (.cells #[.slice A m c, .int .i64 cap] 24)).alloc (.cells #[.int .i64 a, .int .i64 b] 26)).alloc (.cells #[.int .i64 a2, .int .i64 b2] 26)) 24 #[.slice none 0 0, .int .i64 0]
  have hWs : W.heap.size = w.heap.size + 4 := by rw [hW]; simp
  have hNW : NdsIn W X l A := hN.below hb (Nat.le_refl _)
  have HM := Lib.hid hm
  have HK := Lib.hid hk
  have HB := Lib.hid hb
  have HN := Lib.hid hNW
  have HL3 := Lib.hid L3
  have HS : Hid (∀ V, Below W.heap.size W V → V.cell? ⟨w.heap.size, 0, none⟩ = some (.slice A m c) ∧ V.cell? ⟨w.heap.size, 1, none⟩ = some (.int .i64 cap) ∧ V.cell? ⟨w.heap.size + 1, 0, none⟩ = some (.int .i64 a) ∧ V.cell? ⟨w.heap.size + 1, 1, none⟩ = some (.int .i64 b) ∧ V.cell? ⟨w.heap.size + 2, 0, none⟩ = some (.int .i64 a2) ∧ V.cell? ⟨w.heap.size + 2, 1, none⟩ = some (.int .i64 b2)) := Lib.hid fun V hV => ⟨(hV.cell (p := ⟨w.heap.size, 0, none⟩) L0.lt).trans (L0.cell 0), (hV.cell (p := ⟨w.heap.size, 1, none⟩) L0.lt).trans (L0.cell 1), (hV.cell (p := ⟨w.heap.size + 1, 0, none⟩) L1.lt).trans (L1.cell 0), (hV.cell (p := ⟨w.heap.size + 1, 1, none⟩) L1.lt).trans (L1.cell 1), (hV.cell (p := ⟨w.heap.size + 2, 0, none⟩) L2.lt).trans (L2.cell 0), (hV.cell (p := ⟨w.heap.size + 2, 1, none⟩) L2.lt).trans (L2.cell 1)⟩
  have HHA : Hid (∀ V a b, Below W.heap.size W V → Calls Try.prog 20 #[.agg #[.slice A m c, .int .i64 cap], .agg #[.int .i64 a, .int .i64 b]] V fun e w' => e = .returned (.bool (hasV l (a, b))) ∧ Below V.heap.size V w') := Lib.hid fun V a b hV => has_any l A m c cap a b V hm (hNW.any.below hV (Nat.le_refl _))
  obtain ⟨ns', hns⟩ : ∃ ns', ns' = (moveNV l (a, b) (a2, b2)).1 := ⟨_, rfl⟩
  obtain ⟨er, her⟩ : ∃ er, er = (moveNV l (a, b) (a2, b2)).2 := ⟨_, rfl⟩
  rw [← hns, ← her]
  have HNS : Hid ((ns', er) = moveNV l (a, b) (a2, b2)) := Lib.hid (by rw [hns, her])
  have HPE : Hid (∀ V a b, Below W.heap.size W V → Calls Try.prog 11 #[.agg #[.slice A m c, .int .i64 cap], .agg #[.int .i64 a, .int .i64 b]] V fun e w' => e = .returned (.tuple #[.agg #[.int .i64 (peerNV l (a, b)).1.1, .int .i64 (peerNV l (a, b)).1.2], .int .i64 (peerNV l (a, b)).2]) ∧ Below V.heap.size V w') := Lib.hid fun V a b hV => rPeer_any l A m c cap (a, b) V hm (hNW.any.below hV (Nat.le_refl _))
  have HLK : Hid (∀ V p q, Below W.heap.size W V → Calls Try.prog 13 #[.agg #[.slice A m c, .int .i64 cap], .agg #[.int .i64 p.1, .int .i64 p.2], .agg #[.int .i64 q.1, .int .i64 q.2]] V (GivesR (linkNV l p q).1 cap (linkNV l p q).2 X V)) := Lib.hid fun V p q hV => rlink_any l A m c cap p q V hm hm2 hk X (fun g h => by have h1 := hX g h; have h2 := hV.size; have h3 := hb.size; omega) (hNW.below hV (Nat.le_refl _))
  clear hN hm hk hb hNW L0 L1 L2 L3 hns her
  have HNO : Hid (¬ (hasV l (a, b) = true ∧ hasV l (a2, b2) = true ∧ ((a, b) : Int × Int) ≠ (a2, b2) ∧ hasV l (toAt l (a, b)) = true) → (ns', er) = (l, 130)) := Lib.hid fun h => by rw [HNS.out]; exact if_neg h
  have HYES : Hid ((hasV l (a, b) = true ∧ hasV l (a2, b2) = true ∧ ((a, b) : Int × Int) ≠ (a2, b2) ∧ hasV l (toAt l (a, b)) = true) → (ns', er) = if toAt l (a, b) = (a2, b2) then (l, 0) else linkNV l (a2, b2) (toAt l (a, b))) := Lib.hid fun h => by rw [HNS.out]; exact if_pos h
  clear HNS
  obtain ⟨n0, n1, y0, y1, z0, z1⟩ := HS.out W (Below.refl _ _)
  obtain ⟨XX, hXX⟩ : ∃ X, X = peerNV l (a, b) := ⟨_, rfl⟩
  have H1 := Lib.hid (HPE.out W a b (Below.refl _ _))
  rw [← hXX] at H1
  obtain ⟨⟨xa, xb⟩, xe⟩ := XX
  have HX := Lib.hid hXX
  clear hXX
  go_enter Try.func15, Try.ntmps15
  go_upto_region 1 with fail
  rw [← hW]
  clear hW
  go_wp2_with fail
  refine H1.out.mono ?_
  rintro e U1 ⟨rfl, hU1⟩
  clear n0 n1 y0 y1 z0 z1 H1
  go_upto_region 2 with fail
  obtain ⟨V1, hV1⟩ : ∃ V, V = U1.alloc (.cells #[.int .i64 xa, .int .i64 xb] 26) := ⟨_, rfl⟩
  have hbU : Below U1.heap.size U1 V1 := by rw [hV1]; exact (Below.refl _ U1).alloc (Nat.le_refl _) _
  obtain ⟨O, hO⟩ : ∃ O, O = U1.heap.size := ⟨_, rfl⟩
  have LO : Lies V1 O 26 #[.int .i64 xa, .int .i64 xb] := by rw [hV1, hO]; exact Lies.new _ _ _
  have hZ1 : Below W.heap.size W V1 := hU1.trans (hbU.mono hU1.size)
  have HO : Hid (∀ V, Below V1.heap.size V1 V → V.cell? ⟨O, 0, none⟩ = some (.int .i64 xa) ∧ V.cell? ⟨O, 1, none⟩ = some (.int .i64 xb)) := Lib.hid fun V hV => ⟨(hV.cell (p := ⟨O, 0, none⟩) LO.lt).trans (LO.cell 0), (hV.cell (p := ⟨O, 1, none⟩) LO.lt).trans (LO.cell 1)⟩
  rw [← hV1, ← hO]
  clear hV1 hbU hU1 LO hO
  cases h1 : hasV l (a, b) with
  | false =>
    have e9 : peerNV l (a, b) = ((0, 0), 130) := by rw [peerNV, if_neg (by rw [h1]; simp)]
    obtain ⟨e8, e7⟩ := Prod.mk.inj (HX.out.trans e9)
    obtain ⟨rfl, rfl⟩ := Prod.mk.inj e8
    subst e7
    clear e9 e8
    obtain ⟨he1, he2⟩ := Prod.mk.inj (HNO.out (by rw [h1]; simp))
    have HE1 := Lib.hid he1
    have HE2 := Lib.hid he2
    clear he1 he2 HNO HYES h1
    obtain ⟨Z, hZZ⟩ : ∃ Z, Z = V1 := ⟨_, rfl⟩
    have hZ : Below W.heap.size W Z := by rw [hZZ]; exact hZ1
    rw [← hZZ]
    clear hZZ hZ1
    obtain ⟨n0, n1, y0, y1, z0, z1⟩ := HS.out Z hZ
    have hR := HL3.out.below hZ HL3.out.lt
    obtain ⟨r0, r1⟩ := two_cells hR
    have f0 := hR.frozen 0
    have f1 := hR.frozen 1
    have HR := Lib.hid hR
    have HB9 := Lib.hid (HB.out.trans (hZ.mono HB.out.size))
    have HN9 := Lib.hid (HN.out.below hZ (Nat.le_refl _))
    clear hR hZ
    go_wp2_with fail
    have hR9 := lies_put2 HR.out (.slice A m c) (.int .i64 cap)
    refine bodyPost_ret (res_net2 (p := 6) Try.results15 rfl hR9) rfl ⟨A, m, c, ?_, ?_, ?_, (HB9.out.setCell (p := ⟨w.heap.size + 3, 0, none⟩) (by show w.heap.size ≤ w.heap.size + 3; omega) _).setCell (p := ⟨w.heap.size + 3, 1, none⟩) (by show w.heap.size ≤ w.heap.size + 3; omega) _⟩
    · rw [HE2.out]; rfl
    · rw [HE1.out]; exact HM.out
    · rw [HE1.out]
      exact ((HN9.out.keep (keep_set ⟨w.heap.size + 3, 0, none⟩ _ (fun h => by have h9 : w.heap.size + 3 < w.heap.size := hX _ h; omega))).keep (keep_set ⟨w.heap.size + 3, 1, none⟩ _ (fun h => by have h9 : w.heap.size + 3 < w.heap.size := hX _ h; omega))).keep (keep_wide fun q h _ => .inl h)
  | true =>
    obtain ⟨e8, e7⟩ := Prod.mk.inj (HX.out.trans (peer_ok h1))
    subst e7
    have HXX := Lib.hid e8
    clear e8
    obtain ⟨n0, n1, y0, y1, z0, z1⟩ := HS.out V1 hZ1
    have H2 := Lib.hid (HHA.out V1 a2 b2 hZ1)
    cases h2 : hasV l (a2, b2) with
    | false =>
      rw [h2] at H2
      go_wp2_with fail
      refine H2.out.mono ?_
      rintro e U2 ⟨rfl, hU2⟩
      clear n0 n1 y0 y1 z0 z1 H2
      have hZ3 := hZ1.trans (hU2.mono hZ1.size)
      obtain ⟨he1, he2⟩ := Prod.mk.inj (HNO.out (by rw [h2]; simp))
      have HE1 := Lib.hid he1
      have HE2 := Lib.hid he2
      clear he1 he2 HNO HYES h1 h2
      obtain ⟨Z, hZZ⟩ : ∃ Z, Z = U2 := ⟨_, rfl⟩
      have hZ : Below W.heap.size W Z := by rw [hZZ]; exact hZ3
      rw [← hZZ]
      clear hZZ hZ3
      obtain ⟨n0, n1, y0, y1, z0, z1⟩ := HS.out Z hZ
      have hR := HL3.out.below hZ HL3.out.lt
      obtain ⟨r0, r1⟩ := two_cells hR
      have f0 := hR.frozen 0
      have f1 := hR.frozen 1
      have HR := Lib.hid hR
      have HB9 := Lib.hid (HB.out.trans (hZ.mono HB.out.size))
      have HN9 := Lib.hid (HN.out.below hZ (Nat.le_refl _))
      clear hR hZ
      go_wp2_with fail
      have hR9 := lies_put2 HR.out (.slice A m c) (.int .i64 cap)
      refine bodyPost_ret (res_net2 (p := 6) Try.results15 rfl hR9) rfl ⟨A, m, c, ?_, ?_, ?_, (HB9.out.setCell (p := ⟨w.heap.size + 3, 0, none⟩) (by show w.heap.size ≤ w.heap.size + 3; omega) _).setCell (p := ⟨w.heap.size + 3, 1, none⟩) (by show w.heap.size ≤ w.heap.size + 3; omega) _⟩
      · rw [HE2.out]; rfl
      · rw [HE1.out]; exact HM.out
      · rw [HE1.out]
        exact ((HN9.out.keep (keep_set ⟨w.heap.size + 3, 0, none⟩ _ (fun h => by have h9 : w.heap.size + 3 < w.heap.size := hX _ h; omega))).keep (keep_set ⟨w.heap.size + 3, 1, none⟩ _ (fun h => by have h9 : w.heap.size + 3 < w.heap.size := hX _ h; omega))).keep (keep_wide fun q h _ => .inl h)
    | true =>
      rw [h2] at H2
      go_wp2_with fail
      refine H2.out.mono ?_
      rintro e U2 ⟨rfl, hU2⟩
      clear n0 n1 y0 y1 z0 z1 H2
      have hZ3 := hZ1.trans (hU2.mono hZ1.size)
      obtain ⟨n0, n1, y0, y1, z0, z1⟩ := HS.out U2 hZ3
      obtain ⟨o0, o1⟩ := HO.out U2 hU2
      have heq := port_eql a b a2 b2
      obtain ⟨δ, hδ⟩ : ∃ δ, δ = (((a, b) : Int × Int) == (a2, b2)) := ⟨_, rfl⟩
      rw [← hδ] at heq
      cases δ with
      | true =>
        have hpq : ((a, b) : Int × Int) = (a2, b2) := by simpa using hδ.symm
        clear n0 n1 y0 y1 z0 z1 o0 o1 hδ
        obtain ⟨he1, he2⟩ := Prod.mk.inj (HNO.out (by rintro ⟨_, _, h, _⟩; exact h hpq))
        have HE1 := Lib.hid he1
        have HE2 := Lib.hid he2
        clear he1 he2 HNO HYES h1 h2 hpq
        obtain ⟨Z, hZZ⟩ : ∃ Z, Z = U2 := ⟨_, rfl⟩
        have hZ : Below W.heap.size W Z := by rw [hZZ]; exact hZ3
        rw [← hZZ]
        clear hZZ hZ3
        obtain ⟨n0, n1, y0, y1, z0, z1⟩ := HS.out Z hZ
        have hR := HL3.out.below hZ HL3.out.lt
        obtain ⟨r0, r1⟩ := two_cells hR
        have f0 := hR.frozen 0
        have f1 := hR.frozen 1
        have HR := Lib.hid hR
        have HB9 := Lib.hid (HB.out.trans (hZ.mono HB.out.size))
        have HN9 := Lib.hid (HN.out.below hZ (Nat.le_refl _))
        clear hR hZ
        go_wp2_with fail
        have hR9 := lies_put2 HR.out (.slice A m c) (.int .i64 cap)
        refine bodyPost_ret (res_net2 (p := 6) Try.results15 rfl hR9) rfl ⟨A, m, c, ?_, ?_, ?_, (HB9.out.setCell (p := ⟨w.heap.size + 3, 0, none⟩) (by show w.heap.size ≤ w.heap.size + 3; omega) _).setCell (p := ⟨w.heap.size + 3, 1, none⟩) (by show w.heap.size ≤ w.heap.size + 3; omega) _⟩
        · rw [HE2.out]; rfl
        · rw [HE1.out]; exact HM.out
        · rw [HE1.out]
          exact ((HN9.out.keep (keep_set ⟨w.heap.size + 3, 0, none⟩ _ (fun h => by have h9 : w.heap.size + 3 < w.heap.size := hX _ h; omega))).keep (keep_set ⟨w.heap.size + 3, 1, none⟩ _ (fun h => by have h9 : w.heap.size + 3 < w.heap.size := hX _ h; omega))).keep (keep_wide fun q h _ => .inl h)
      | false =>
        have hpq : ((a, b) : Int × Int) ≠ (a2, b2) := by simpa using hδ.symm
        have H3 := Lib.hid (HHA.out U2 xa xb hZ3)
        clear hδ
        cases h3 : hasV l (xa, xb) with
        | false =>
          rw [h3] at H3
          have hn3 : ¬ hasV l (toAt l (a, b)) = true := by rw [← HXX.out, h3]; simp
          go_wp2_with fail
          refine H3.out.mono ?_
          rintro e U3 ⟨rfl, hU3⟩
          clear n0 n1 y0 y1 z0 z1 o0 o1 H3 heq h3
          have hZ4 := hZ3.trans (hU3.mono hZ3.size)
          obtain ⟨he1, he2⟩ := Prod.mk.inj (HNO.out (by rintro ⟨_, _, _, h⟩; exact hn3 h))
          have HE1 := Lib.hid he1
          have HE2 := Lib.hid he2
          clear he1 he2 HNO HYES h1 h2 hpq hn3
          obtain ⟨Z, hZZ⟩ : ∃ Z, Z = U3 := ⟨_, rfl⟩
          have hZ : Below W.heap.size W Z := by rw [hZZ]; exact hZ4
          rw [← hZZ]
          clear hZZ hZ4
          obtain ⟨n0, n1, y0, y1, z0, z1⟩ := HS.out Z hZ
          have hR := HL3.out.below hZ HL3.out.lt
          obtain ⟨r0, r1⟩ := two_cells hR
          have f0 := hR.frozen 0
          have f1 := hR.frozen 1
          have HR := Lib.hid hR
          have HB9 := Lib.hid (HB.out.trans (hZ.mono HB.out.size))
          have HN9 := Lib.hid (HN.out.below hZ (Nat.le_refl _))
          clear hR hZ
          go_wp2_with fail
          have hR9 := lies_put2 HR.out (.slice A m c) (.int .i64 cap)
          refine bodyPost_ret (res_net2 (p := 6) Try.results15 rfl hR9) rfl ⟨A, m, c, ?_, ?_, ?_, (HB9.out.setCell (p := ⟨w.heap.size + 3, 0, none⟩) (by show w.heap.size ≤ w.heap.size + 3; omega) _).setCell (p := ⟨w.heap.size + 3, 1, none⟩) (by show w.heap.size ≤ w.heap.size + 3; omega) _⟩
          · rw [HE2.out]; rfl
          · rw [HE1.out]; exact HM.out
          · rw [HE1.out]
            exact ((HN9.out.keep (keep_set ⟨w.heap.size + 3, 0, none⟩ _ (fun h => by have h9 : w.heap.size + 3 < w.heap.size := hX _ h; omega))).keep (keep_set ⟨w.heap.size + 3, 1, none⟩ _ (fun h => by have h9 : w.heap.size + 3 < w.heap.size := hX _ h; omega))).keep (keep_wide fun q h _ => .inl h)
        | true =>
          rw [h3] at H3
          have hy3 : hasV l (toAt l (a, b)) = true := by rw [← HXX.out, h3]
          go_wp2_with fail
          refine H3.out.mono ?_
          rintro e U3 ⟨rfl, hU3⟩
          clear n0 n1 y0 y1 z0 z1 o0 o1 H3 heq h3
          have hZ4 := hZ3.trans (hU3.mono hZ3.size)
          have hO4 : Below V1.heap.size V1 U3 := hU2.trans (hU3.mono hU2.size)
          obtain ⟨n0, n1, y0, y1, z0, z1⟩ := HS.out U3 hZ4
          obtain ⟨o0, o1⟩ := HO.out U3 hO4
          have heq2 := port_eql xa xb a2 b2
          have hall := HYES.out ⟨h1, h2, hpq, hy3⟩
          rw [← HXX.out] at hall
          clear h1 h2 hpq hy3 HNO HYES
          obtain ⟨ε, hε⟩ : ∃ ε, ε = (((xa, xb) : Int × Int) == (a2, b2)) := ⟨_, rfl⟩
          rw [← hε] at heq2
          cases ε with
          | true =>
            rw [if_pos (by simpa using hε.symm)] at hall
            obtain ⟨he1, he2⟩ := Prod.mk.inj hall
            have HE1 := Lib.hid he1
            have HE2 := Lib.hid he2
            clear he1 he2 hall hε
            go_upto_region 5 with fail
            clear n0 n1 y0 y1 z0 z1 o0 o1 heq2
            obtain ⟨Z, hZZ⟩ : ∃ Z, Z = U3 := ⟨_, rfl⟩
            have hZ : Below W.heap.size W Z := by rw [hZZ]; exact hZ4
            rw [← hZZ]
            clear hZZ hZ4 hO4
            obtain ⟨n0, n1, y0, y1, z0, z1⟩ := HS.out Z hZ
            have hR := HL3.out.below hZ HL3.out.lt
            obtain ⟨r0, r1⟩ := two_cells hR
            have f0 := hR.frozen 0
            have f1 := hR.frozen 1
            have HR := Lib.hid hR
            have HB9 := Lib.hid (HB.out.trans (hZ.mono HB.out.size))
            have HN9 := Lib.hid (HN.out.below hZ (Nat.le_refl _))
            clear hR hZ
            go_wp2_with fail
            have hR9 := lies_put2 HR.out (.slice A m c) (.int .i64 cap)
            refine bodyPost_ret (res_net2 (p := 6) Try.results15 rfl hR9) rfl ⟨A, m, c, ?_, ?_, ?_, (HB9.out.setCell (p := ⟨w.heap.size + 3, 0, none⟩) (by show w.heap.size ≤ w.heap.size + 3; omega) _).setCell (p := ⟨w.heap.size + 3, 1, none⟩) (by show w.heap.size ≤ w.heap.size + 3; omega) _⟩
            · rw [HE2.out]; rfl
            · rw [HE1.out]; exact HM.out
            · rw [HE1.out]
              exact ((HN9.out.keep (keep_set ⟨w.heap.size + 3, 0, none⟩ _ (fun h => by have h9 : w.heap.size + 3 < w.heap.size := hX _ h; omega))).keep (keep_set ⟨w.heap.size + 3, 1, none⟩ _ (fun h => by have h9 : w.heap.size + 3 < w.heap.size := hX _ h; omega))).keep (keep_wide fun q h _ => .inl h)
          | false =>
            rw [if_neg (by simpa using hε.symm)] at hall
            obtain ⟨he1, he2⟩ := Prod.mk.inj (show (ns', er) = ((linkNV l (a2, b2) (xa, xb)).1, (linkNV l (a2, b2) (xa, xb)).2) from hall)
            have HL9 := Lib.hid (HLK.out U3 (a2, b2) (xa, xb) hZ4)
            rw [← he1, ← he2] at HL9
            clear he1 he2 hall hε
            go_wp2_with fail
            refine HL9.out.mono ?_
            rintro e V9 ⟨A9, m9, c9, rfl, hm9, hN9, hb9⟩
            have HM9 := Lib.hid hm9
            have hB9 := hZ4.trans (hb9.mono hZ4.size)
            have HS9 : w.heap.size + 4 ≤ U3.heap.size := by have := hZ4.size; omega
            have hR := HL3.out.below hB9 HL3.out.lt
            obtain ⟨r0, r1⟩ := two_cells hR
            have f0 := hR.frozen 0
            have f1 := hR.frozen 1
            have HR := Lib.hid hR
            have HN9 := Lib.hid hN9
            have HB9 := Lib.hid (HB.out.trans (hB9.mono HB.out.size))
            clear hm9 n0 n1 y0 y1 z0 z1 o0 o1 heq2 HL9 hR hN9 hB9 hb9
            go_wp2_with fail
            have hR9 := lies_put2 HR.out (.slice A9 m9 c9) (.int .i64 cap)
            refine bodyPost_ret (res_net2 (p := 6) Try.results15 rfl hR9) rfl ⟨A9, m9, c9, rfl, HM9.out, ?_, (HB9.out.setCell (p := ⟨w.heap.size + 3, 0, none⟩) (by show w.heap.size ≤ w.heap.size + 3; omega) _).setCell (p := ⟨w.heap.size + 3, 1, none⟩) (by show w.heap.size ≤ w.heap.size + 3; omega) _⟩
            have hs9 := HS9
            have hN5 : NdsIn V9 (fun g => X g ∨ w.heap.size + 4 ≤ g) _ A9 := HN9.out.keep (keep_wide fun q h _ => by
              rcases h with h | h
              · exact .inl h
              · exact .inr (by omega))
            have hno : ∀ j, ¬ (fun g => X g ∨ w.heap.size + 4 ≤ g) (⟨w.heap.size + 3, j, none⟩ : Addr).block := fun j h => by
              rcases h with h | h
              · have h9 : w.heap.size + 3 < w.heap.size := hX _ h; omega
              · have h9 : w.heap.size + 4 ≤ w.heap.size + 3 := h; omega
            exact ((hN5.keep (keep_set ⟨w.heap.size + 3, 0, none⟩ _ (hno 0))).keep (keep_set ⟨w.heap.size + 3, 1, none⟩ _ (hno 1))).keep (keep_wide fun q h _ => by
              rcases h with h | h
              · exact .inl h
              · exact .inr (by omega))
set_option maxHeartbeats 16000000 in
theorem rjoin_any (l : List Nd) (A : Option Addr) (m c : Nat) (cap : Int) (p q : Int × Int) (w : World) (hm : m = l.length) (hm2 : m ≤ 100000) (hk : Few9 l) (X : Nat → Prop) (hX : ∀ g, X g → g < w.heap.size) (hN : NdsIn w X l A) :
    Calls Try.prog 17 #[.agg #[.slice A m c, .int .i64 cap], .agg #[.int .i64 p.1, .int .i64 p.2], .agg #[.int .i64 q.1, .int .i64 q.2]] w (GivesR (joinNV l p q).1 cap (joinNV l p q).2 X w) := by
  obtain ⟨a, b⟩ := p
  obtain ⟨a2, b2⟩ := q
  simp only
  obtain ⟨W, hW⟩ : ∃ w1, w1 = ((((w.alloc (.cells #[.slice A m c, .int .i64 cap] 24)).alloc (.cells #[.int .i64 a, .int .i64 b] 26)).alloc (.cells #[.int .i64 a2, .int .i64 b2] 26)).alloc (.cells #[.slice none 0 0, .int .i64 0] 24)) := ⟨_, rfl⟩
  have hb : Below w.heap.size w W := by rw [hW]; exact ((((Below.refl _ w).alloc (Nat.le_refl _) _).alloc (by simp) _).alloc (by simp; omega) _).alloc (by simp; omega) _
  have L0 : Lies W w.heap.size 24 #[.slice A m c, .int .i64 cap] := by rw [hW]; exact (((Lies.new _ _ _).old _).old _).old _
  have L1 : Lies W (w.heap.size + 1) 26 #[.int .i64 a, .int .i64 b] := by rw [hW]; exact Lies.old (Lies.old (by simpa using Lies.new (w.alloc (.cells #[.slice A m c, .int .i64 cap] 24)) 26 #[.int .i64 a, .int .i64 b]) _) _
  have L2 : Lies W (w.heap.size + 2) 26 #[.int .i64 a2, .int .i64 b2] := by rw [hW]; exact Lies.old (by simpa using Lies.new ((w.alloc (.cells #[.slice A m c, .int .i64 cap] 24)).alloc (.cells #[.int .i64 a, .int .i64 b] 26)) 26 #[.int .i64 a2, .int .i64 b2]) _
  have L3 : Lies W (w.heap.size + 3) 24 #[.slice none 0 0, .int .i64 0] := by rw [hW]; simpa using Lies.new (((w.alloc (.cells #[.slice A m c, .int .i64 cap] 24)).alloc (.cells #[.int .i64 a, .int .i64 b] 26)).alloc (.cells #[.int .i64 a2, .int .i64 b2] 26)) 24 #[.slice none 0 0, .int .i64 0]
  have hWs : W.heap.size = w.heap.size + 4 := by rw [hW]; simp
  have hNW : NdsIn W X l A := hN.below hb (Nat.le_refl _)
  have HM := Lib.hid hm
  have HK := Lib.hid hk
  have HB := Lib.hid hb
  have HN := Lib.hid hNW
  have HL3 := Lib.hid L3
  have HS : Hid (∀ V, Below W.heap.size W V → V.cell? ⟨w.heap.size, 0, none⟩ = some (.slice A m c) ∧ V.cell? ⟨w.heap.size, 1, none⟩ = some (.int .i64 cap) ∧ V.cell? ⟨w.heap.size + 1, 0, none⟩ = some (.int .i64 a) ∧ V.cell? ⟨w.heap.size + 1, 1, none⟩ = some (.int .i64 b) ∧ V.cell? ⟨w.heap.size + 2, 0, none⟩ = some (.int .i64 a2) ∧ V.cell? ⟨w.heap.size + 2, 1, none⟩ = some (.int .i64 b2)) := Lib.hid fun V hV => ⟨(hV.cell (p := ⟨w.heap.size, 0, none⟩) L0.lt).trans (L0.cell 0), (hV.cell (p := ⟨w.heap.size, 1, none⟩) L0.lt).trans (L0.cell 1), (hV.cell (p := ⟨w.heap.size + 1, 0, none⟩) L1.lt).trans (L1.cell 0), (hV.cell (p := ⟨w.heap.size + 1, 1, none⟩) L1.lt).trans (L1.cell 1), (hV.cell (p := ⟨w.heap.size + 2, 0, none⟩) L2.lt).trans (L2.cell 0), (hV.cell (p := ⟨w.heap.size + 2, 1, none⟩) L2.lt).trans (L2.cell 1)⟩
  have HHA : Hid (∀ V a b, Below W.heap.size W V → Calls Try.prog 20 #[.agg #[.slice A m c, .int .i64 cap], .agg #[.int .i64 a, .int .i64 b]] V fun e w' => e = .returned (.bool (hasV l (a, b))) ∧ Below V.heap.size V w') := Lib.hid fun V a b hV => has_any l A m c cap a b V hm (hNW.any.below hV (Nat.le_refl _))
  obtain ⟨ns', hns⟩ : ∃ ns', ns' = (joinNV l (a, b) (a2, b2)).1 := ⟨_, rfl⟩
  obtain ⟨er, her⟩ : ∃ er, er = (joinNV l (a, b) (a2, b2)).2 := ⟨_, rfl⟩
  rw [← hns, ← her]
  have HNS : Hid ((ns', er) = joinNV l (a, b) (a2, b2)) := Lib.hid (by rw [hns, her])
  have HPE : Hid (∀ V a b, Below W.heap.size W V → Calls Try.prog 11 #[.agg #[.slice A m c, .int .i64 cap], .agg #[.int .i64 a, .int .i64 b]] V fun e w' => e = .returned (.tuple #[.agg #[.int .i64 (peerNV l (a, b)).1.1, .int .i64 (peerNV l (a, b)).1.2], .int .i64 (peerNV l (a, b)).2]) ∧ Below V.heap.size V w') := Lib.hid fun V a b hV => rPeer_any l A m c cap (a, b) V hm (hNW.any.below hV (Nat.le_refl _))
  have HLK : Hid (∀ V p q, Below W.heap.size W V → Calls Try.prog 13 #[.agg #[.slice A m c, .int .i64 cap], .agg #[.int .i64 p.1, .int .i64 p.2], .agg #[.int .i64 q.1, .int .i64 q.2]] V (GivesR (linkNV l p q).1 cap (linkNV l p q).2 X V)) := Lib.hid fun V p q hV => rlink_any l A m c cap p q V hm hm2 hk X (fun g h => by have h1 := hX g h; have h2 := hV.size; have h3 := hb.size; omega) (hNW.below hV (Nat.le_refl _))
  clear hN hm hk hb hNW L0 L1 L2 L3 hns her
  have HNO : Hid (¬ (hasV l (a, b) = true ∧ hasV l (a2, b2) = true ∧ ((a, b) : Int × Int) ≠ (a2, b2) ∧ hasV l (toAt l (a, b)) = true ∧ hasV l (toAt l (a2, b2)) = true) → (ns', er) = (l, 130)) := Lib.hid fun h => by rw [HNS.out]; exact if_neg h
  have HYES : Hid ((hasV l (a, b) = true ∧ hasV l (a2, b2) = true ∧ ((a, b) : Int × Int) ≠ (a2, b2) ∧ hasV l (toAt l (a, b)) = true ∧ hasV l (toAt l (a2, b2)) = true) → (ns', er) = if toAt l (a, b) = (a2, b2) then (l, 0) else linkNV l (toAt l (a, b)) (toAt l (a2, b2))) := Lib.hid fun h => by rw [HNS.out]; exact if_pos h
  clear HNS
  obtain ⟨n0, n1, y0, y1, z0, z1⟩ := HS.out W (Below.refl _ _)
  obtain ⟨XX, hXX⟩ : ∃ X, X = peerNV l (a, b) := ⟨_, rfl⟩
  have H1 := Lib.hid (HPE.out W a b (Below.refl _ _))
  rw [← hXX] at H1
  obtain ⟨⟨xa, xb⟩, xe⟩ := XX
  have HX := Lib.hid hXX
  clear hXX
  go_enter Try.func17, Try.ntmps17
  go_upto_region 1 with fail
  rw [← hW]
  clear hW
  go_wp2_with fail
  refine H1.out.mono ?_
  rintro e U1 ⟨rfl, hU1⟩
  clear n0 n1 y0 y1 z0 z1 H1
  go_upto_region 2 with fail
  obtain ⟨V1, hV1⟩ : ∃ V, V = U1.alloc (.cells #[.int .i64 xa, .int .i64 xb] 26) := ⟨_, rfl⟩
  have hbU : Below U1.heap.size U1 V1 := by rw [hV1]; exact (Below.refl _ U1).alloc (Nat.le_refl _) _
  obtain ⟨O, hO⟩ : ∃ O, O = U1.heap.size := ⟨_, rfl⟩
  have LO : Lies V1 O 26 #[.int .i64 xa, .int .i64 xb] := by rw [hV1, hO]; exact Lies.new _ _ _
  have hZ1 : Below W.heap.size W V1 := hU1.trans (hbU.mono hU1.size)
  have HO : Hid (∀ V, Below V1.heap.size V1 V → V.cell? ⟨O, 0, none⟩ = some (.int .i64 xa) ∧ V.cell? ⟨O, 1, none⟩ = some (.int .i64 xb)) := Lib.hid fun V hV => ⟨(hV.cell (p := ⟨O, 0, none⟩) LO.lt).trans (LO.cell 0), (hV.cell (p := ⟨O, 1, none⟩) LO.lt).trans (LO.cell 1)⟩
  rw [← hV1, ← hO]
  clear hV1 hbU hU1 LO hO
  obtain ⟨n0, n1, y0, y1, z0, z1⟩ := HS.out V1 hZ1
  obtain ⟨Y, hY⟩ : ∃ Y, Y = peerNV l (a2, b2) := ⟨_, rfl⟩
  have H1 := Lib.hid (HPE.out V1 a2 b2 hZ1)
  rw [← hY] at H1
  obtain ⟨⟨ya, yb⟩, ye⟩ := Y
  have HY := Lib.hid hY
  clear hY
  go_wp2_with fail
  refine H1.out.mono ?_
  rintro e U2 ⟨rfl, hU2⟩
  clear n0 n1 y0 y1 z0 z1 H1
  go_upto_region 3 with fail
  obtain ⟨V2, hV2⟩ : ∃ V, V = U2.alloc (.cells #[.int .i64 ya, .int .i64 yb] 26) := ⟨_, rfl⟩
  have hbU : Below U2.heap.size U2 V2 := by rw [hV2]; exact (Below.refl _ U2).alloc (Nat.le_refl _) _
  obtain ⟨O2, hO2⟩ : ∃ O, O = U2.heap.size := ⟨_, rfl⟩
  have LO : Lies V2 O2 26 #[.int .i64 ya, .int .i64 yb] := by rw [hV2, hO2]; exact Lies.new _ _ _
  have hZ12 : Below V1.heap.size V1 V2 := hU2.trans (hbU.mono hU2.size)
  have hZ2 : Below W.heap.size W V2 := hZ1.trans (hZ12.mono hZ1.size)
  have HO2 : Hid (∀ V, Below V2.heap.size V2 V → (V.cell? ⟨O, 0, none⟩ = some (.int .i64 xa) ∧ V.cell? ⟨O, 1, none⟩ = some (.int .i64 xb)) ∧ V.cell? ⟨O2, 0, none⟩ = some (.int .i64 ya) ∧ V.cell? ⟨O2, 1, none⟩ = some (.int .i64 yb)) := Lib.hid fun V hV => ⟨HO.out V (hZ12.trans (hV.mono hZ12.size)), (hV.cell (p := ⟨O2, 0, none⟩) LO.lt).trans (LO.cell 0), (hV.cell (p := ⟨O2, 1, none⟩) LO.lt).trans (LO.cell 1)⟩
  rw [← hV2, ← hO2]
  clear hV2 hbU hU2 LO hO2 HO hZ12 hZ1
  cases h1 : hasV l (a, b) with
  | false =>
    have e9 : peerNV l (a, b) = ((0, 0), 130) := by rw [peerNV, if_neg (by rw [h1]; simp)]
    obtain ⟨e8, e7⟩ := Prod.mk.inj (HX.out.trans e9)
    obtain ⟨rfl, rfl⟩ := Prod.mk.inj e8
    subst e7
    clear e9 e8
    obtain ⟨he1, he2⟩ := Prod.mk.inj (HNO.out (by rw [h1]; simp))
    have HE1 := Lib.hid he1
    have HE2 := Lib.hid he2
    clear he1 he2 HNO HYES h1
    obtain ⟨Z, hZZ⟩ : ∃ Z, Z = V2 := ⟨_, rfl⟩
    have hZ : Below W.heap.size W Z := by rw [hZZ]; exact hZ2
    rw [← hZZ]
    clear hZZ hZ2
    obtain ⟨n0, n1, y0, y1, z0, z1⟩ := HS.out Z hZ
    have hR := HL3.out.below hZ HL3.out.lt
    obtain ⟨r0, r1⟩ := two_cells hR
    have f0 := hR.frozen 0
    have f1 := hR.frozen 1
    have HR := Lib.hid hR
    have HB9 := Lib.hid (HB.out.trans (hZ.mono HB.out.size))
    have HN9 := Lib.hid (HN.out.below hZ (Nat.le_refl _))
    clear hR hZ
    go_wp2_with fail
    have hR9 := lies_put2 HR.out (.slice A m c) (.int .i64 cap)
    refine bodyPost_ret (res_net2 (p := 6) Try.results17 rfl hR9) rfl ⟨A, m, c, ?_, ?_, ?_, (HB9.out.setCell (p := ⟨w.heap.size + 3, 0, none⟩) (by show w.heap.size ≤ w.heap.size + 3; omega) _).setCell (p := ⟨w.heap.size + 3, 1, none⟩) (by show w.heap.size ≤ w.heap.size + 3; omega) _⟩
    · rw [HE2.out]; rfl
    · rw [HE1.out]; exact HM.out
    · rw [HE1.out]
      exact ((HN9.out.keep (keep_set ⟨w.heap.size + 3, 0, none⟩ _ (fun h => by have h9 : w.heap.size + 3 < w.heap.size := hX _ h; omega))).keep (keep_set ⟨w.heap.size + 3, 1, none⟩ _ (fun h => by have h9 : w.heap.size + 3 < w.heap.size := hX _ h; omega))).keep (keep_wide fun q h _ => .inl h)
  | true =>
    obtain ⟨e8, e7⟩ := Prod.mk.inj (HX.out.trans (peer_ok h1))
    subst e7
    have HXX := Lib.hid e8
    clear e8
    cases h2 : hasV l (a2, b2) with
    | false =>
      have e9 : peerNV l (a2, b2) = ((0, 0), 130) := by rw [peerNV, if_neg (by rw [h2]; simp)]
      obtain ⟨e8, e7⟩ := Prod.mk.inj (HY.out.trans e9)
      obtain ⟨rfl, rfl⟩ := Prod.mk.inj e8
      subst e7
      clear e9 e8
      obtain ⟨he1, he2⟩ := Prod.mk.inj (HNO.out (by rw [h2]; simp))
      have HE1 := Lib.hid he1
      have HE2 := Lib.hid he2
      clear he1 he2 HNO HYES h1 h2
      obtain ⟨Z, hZZ⟩ : ∃ Z, Z = V2 := ⟨_, rfl⟩
      have hZ : Below W.heap.size W Z := by rw [hZZ]; exact hZ2
      rw [← hZZ]
      clear hZZ hZ2
      obtain ⟨n0, n1, y0, y1, z0, z1⟩ := HS.out Z hZ
      have hR := HL3.out.below hZ HL3.out.lt
      obtain ⟨r0, r1⟩ := two_cells hR
      have f0 := hR.frozen 0
      have f1 := hR.frozen 1
      have HR := Lib.hid hR
      have HB9 := Lib.hid (HB.out.trans (hZ.mono HB.out.size))
      have HN9 := Lib.hid (HN.out.below hZ (Nat.le_refl _))
      clear hR hZ
      go_wp2_with fail
      have hR9 := lies_put2 HR.out (.slice A m c) (.int .i64 cap)
      refine bodyPost_ret (res_net2 (p := 6) Try.results17 rfl hR9) rfl ⟨A, m, c, ?_, ?_, ?_, (HB9.out.setCell (p := ⟨w.heap.size + 3, 0, none⟩) (by show w.heap.size ≤ w.heap.size + 3; omega) _).setCell (p := ⟨w.heap.size + 3, 1, none⟩) (by show w.heap.size ≤ w.heap.size + 3; omega) _⟩
      · rw [HE2.out]; rfl
      · rw [HE1.out]; exact HM.out
      · rw [HE1.out]
        exact ((HN9.out.keep (keep_set ⟨w.heap.size + 3, 0, none⟩ _ (fun h => by have h9 : w.heap.size + 3 < w.heap.size := hX _ h; omega))).keep (keep_set ⟨w.heap.size + 3, 1, none⟩ _ (fun h => by have h9 : w.heap.size + 3 < w.heap.size := hX _ h; omega))).keep (keep_wide fun q h _ => .inl h)
    | true =>
      obtain ⟨e8, e7⟩ := Prod.mk.inj (HY.out.trans (peer_ok h2))
      subst e7
      have HYY := Lib.hid e8
      clear e8
      obtain ⟨n0, n1, y0, y1, z0, z1⟩ := HS.out V2 hZ2
      obtain ⟨⟨o0, o1⟩, p0, p1⟩ := HO2.out V2 (Below.refl _ _)
      have heq := port_eql a b a2 b2
      obtain ⟨δ, hδ⟩ : ∃ δ, δ = (((a, b) : Int × Int) == (a2, b2)) := ⟨_, rfl⟩
      rw [← hδ] at heq
      cases δ with
      | true =>
        have hpq : ((a, b) : Int × Int) = (a2, b2) := by simpa using hδ.symm
        clear n0 n1 y0 y1 z0 z1 o0 o1 p0 p1 hδ
        obtain ⟨he1, he2⟩ := Prod.mk.inj (HNO.out (by rintro ⟨_, _, h, _⟩; exact h hpq))
        have HE1 := Lib.hid he1
        have HE2 := Lib.hid he2
        clear he1 he2 HNO HYES h1 h2 hpq
        obtain ⟨Z, hZZ⟩ : ∃ Z, Z = V2 := ⟨_, rfl⟩
        have hZ : Below W.heap.size W Z := by rw [hZZ]; exact hZ2
        rw [← hZZ]
        clear hZZ hZ2
        obtain ⟨n0, n1, y0, y1, z0, z1⟩ := HS.out Z hZ
        have hR := HL3.out.below hZ HL3.out.lt
        obtain ⟨r0, r1⟩ := two_cells hR
        have f0 := hR.frozen 0
        have f1 := hR.frozen 1
        have HR := Lib.hid hR
        have HB9 := Lib.hid (HB.out.trans (hZ.mono HB.out.size))
        have HN9 := Lib.hid (HN.out.below hZ (Nat.le_refl _))
        clear hR hZ
        go_wp2_with fail
        have hR9 := lies_put2 HR.out (.slice A m c) (.int .i64 cap)
        refine bodyPost_ret (res_net2 (p := 6) Try.results17 rfl hR9) rfl ⟨A, m, c, ?_, ?_, ?_, (HB9.out.setCell (p := ⟨w.heap.size + 3, 0, none⟩) (by show w.heap.size ≤ w.heap.size + 3; omega) _).setCell (p := ⟨w.heap.size + 3, 1, none⟩) (by show w.heap.size ≤ w.heap.size + 3; omega) _⟩
        · rw [HE2.out]; rfl
        · rw [HE1.out]; exact HM.out
        · rw [HE1.out]
          exact ((HN9.out.keep (keep_set ⟨w.heap.size + 3, 0, none⟩ _ (fun h => by have h9 : w.heap.size + 3 < w.heap.size := hX _ h; omega))).keep (keep_set ⟨w.heap.size + 3, 1, none⟩ _ (fun h => by have h9 : w.heap.size + 3 < w.heap.size := hX _ h; omega))).keep (keep_wide fun q h _ => .inl h)
      | false =>
        have hpq : ((a, b) : Int × Int) ≠ (a2, b2) := by simpa using hδ.symm
        have H3 := Lib.hid (HHA.out V2 xa xb hZ2)
        clear hδ
        cases h3 : hasV l (xa, xb) with
        | false =>
          rw [h3] at H3
          have hn3 : ¬ hasV l (toAt l (a, b)) = true := by rw [← HXX.out, h3]; simp
          go_wp2_with fail
          refine H3.out.mono ?_
          rintro e U3 ⟨rfl, hU3⟩
          clear n0 n1 y0 y1 z0 z1 o0 o1 p0 p1 H3 heq h3
          have hZ4 := hZ2.trans (hU3.mono hZ2.size)
          obtain ⟨he1, he2⟩ := Prod.mk.inj (HNO.out (by rintro ⟨_, _, _, h, _⟩; exact hn3 h))
          have HE1 := Lib.hid he1
          have HE2 := Lib.hid he2
          clear he1 he2 HNO HYES h1 h2 hpq hn3
          obtain ⟨Z, hZZ⟩ : ∃ Z, Z = U3 := ⟨_, rfl⟩
          have hZ : Below W.heap.size W Z := by rw [hZZ]; exact hZ4
          rw [← hZZ]
          clear hZZ hZ4
          obtain ⟨n0, n1, y0, y1, z0, z1⟩ := HS.out Z hZ
          have hR := HL3.out.below hZ HL3.out.lt
          obtain ⟨r0, r1⟩ := two_cells hR
          have f0 := hR.frozen 0
          have f1 := hR.frozen 1
          have HR := Lib.hid hR
          have HB9 := Lib.hid (HB.out.trans (hZ.mono HB.out.size))
          have HN9 := Lib.hid (HN.out.below hZ (Nat.le_refl _))
          clear hR hZ
          go_wp2_with fail
          have hR9 := lies_put2 HR.out (.slice A m c) (.int .i64 cap)
          refine bodyPost_ret (res_net2 (p := 6) Try.results17 rfl hR9) rfl ⟨A, m, c, ?_, ?_, ?_, (HB9.out.setCell (p := ⟨w.heap.size + 3, 0, none⟩) (by show w.heap.size ≤ w.heap.size + 3; omega) _).setCell (p := ⟨w.heap.size + 3, 1, none⟩) (by show w.heap.size ≤ w.heap.size + 3; omega) _⟩
          · rw [HE2.out]; rfl
          · rw [HE1.out]; exact HM.out
          · rw [HE1.out]
            exact ((HN9.out.keep (keep_set ⟨w.heap.size + 3, 0, none⟩ _ (fun h => by have h9 : w.heap.size + 3 < w.heap.size := hX _ h; omega))).keep (keep_set ⟨w.heap.size + 3, 1, none⟩ _ (fun h => by have h9 : w.heap.size + 3 < w.heap.size := hX _ h; omega))).keep (keep_wide fun q h _ => .inl h)
        | true =>
          rw [h3] at H3
          have hy3 : hasV l (toAt l (a, b)) = true := by rw [← HXX.out, h3]
          go_wp2_with fail
          refine H3.out.mono ?_
          rintro e U3 ⟨rfl, hU3⟩
          clear n0 n1 y0 y1 z0 z1 o0 o1 p0 p1 H3 heq h3
          have hZ4 := hZ2.trans (hU3.mono hZ2.size)
          have hO4 : Below V2.heap.size V2 U3 := hU3
          obtain ⟨n0, n1, y0, y1, z0, z1⟩ := HS.out U3 hZ4
          obtain ⟨⟨o0, o1⟩, p0, p1⟩ := HO2.out U3 hO4
          have H4 := Lib.hid (HHA.out U3 ya yb hZ4)
          cases h4 : hasV l (ya, yb) with
          | false =>
            rw [h4] at H4
            have hn4 : ¬ hasV l (toAt l (a2, b2)) = true := by rw [← HYY.out, h4]; simp
            go_wp2_with fail
            refine H4.out.mono ?_
            rintro e U4 ⟨rfl, hU4⟩
            clear n0 n1 y0 y1 z0 z1 o0 o1 p0 p1 H4 h4
            have hZ5 := hZ4.trans (hU4.mono hZ4.size)
            obtain ⟨he1, he2⟩ := Prod.mk.inj (HNO.out (by rintro ⟨_, _, _, _, h⟩; exact hn4 h))
            have HE1 := Lib.hid he1
            have HE2 := Lib.hid he2
            clear he1 he2 HNO HYES h1 h2 hpq hn4 hy3
            obtain ⟨Z, hZZ⟩ : ∃ Z, Z = U4 := ⟨_, rfl⟩
            have hZ : Below W.heap.size W Z := by rw [hZZ]; exact hZ5
            rw [← hZZ]
            clear hZZ hZ5
            obtain ⟨n0, n1, y0, y1, z0, z1⟩ := HS.out Z hZ
            have hR := HL3.out.below hZ HL3.out.lt
            obtain ⟨r0, r1⟩ := two_cells hR
            have f0 := hR.frozen 0
            have f1 := hR.frozen 1
            have HR := Lib.hid hR
            have HB9 := Lib.hid (HB.out.trans (hZ.mono HB.out.size))
            have HN9 := Lib.hid (HN.out.below hZ (Nat.le_refl _))
            clear hR hZ
            go_wp2_with fail
            have hR9 := lies_put2 HR.out (.slice A m c) (.int .i64 cap)
            refine bodyPost_ret (res_net2 (p := 6) Try.results17 rfl hR9) rfl ⟨A, m, c, ?_, ?_, ?_, (HB9.out.setCell (p := ⟨w.heap.size + 3, 0, none⟩) (by show w.heap.size ≤ w.heap.size + 3; omega) _).setCell (p := ⟨w.heap.size + 3, 1, none⟩) (by show w.heap.size ≤ w.heap.size + 3; omega) _⟩
            · rw [HE2.out]; rfl
            · rw [HE1.out]; exact HM.out
            · rw [HE1.out]
              exact ((HN9.out.keep (keep_set ⟨w.heap.size + 3, 0, none⟩ _ (fun h => by have h9 : w.heap.size + 3 < w.heap.size := hX _ h; omega))).keep (keep_set ⟨w.heap.size + 3, 1, none⟩ _ (fun h => by have h9 : w.heap.size + 3 < w.heap.size := hX _ h; omega))).keep (keep_wide fun q h _ => .inl h)
          | true =>
            rw [h4] at H4
            have hy4 : hasV l (toAt l (a2, b2)) = true := by rw [← HYY.out, h4]
            go_wp2_with fail
            refine H4.out.mono ?_
            rintro e U4 ⟨rfl, hU4⟩
            clear n0 n1 y0 y1 z0 z1 o0 o1 p0 p1 H4 h4
            have hZ5 := hZ4.trans (hU4.mono hZ4.size)
            have hO5 := hO4.trans (hU4.mono hO4.size)
            obtain ⟨n0, n1, y0, y1, z0, z1⟩ := HS.out U4 hZ5
            obtain ⟨⟨o0, o1⟩, p0, p1⟩ := HO2.out U4 hO5
            have heq2 := port_eql xa xb a2 b2
            have hall := HYES.out ⟨h1, h2, hpq, hy3, hy4⟩
            rw [← HXX.out, ← HYY.out] at hall
            clear h1 h2 hpq hy3 hy4 HNO HYES
            obtain ⟨ε, hε⟩ : ∃ ε, ε = (((xa, xb) : Int × Int) == (a2, b2)) := ⟨_, rfl⟩
            rw [← hε] at heq2
            cases ε with
            | true =>
              rw [if_pos (by simpa using hε.symm)] at hall
              obtain ⟨he1, he2⟩ := Prod.mk.inj hall
              have HE1 := Lib.hid he1
              have HE2 := Lib.hid he2
              clear he1 he2 hall hε
              go_upto_region 6 with fail
              clear n0 n1 y0 y1 z0 z1 o0 o1 p0 p1 heq2
              obtain ⟨Z, hZZ⟩ : ∃ Z, Z = U4 := ⟨_, rfl⟩
              have hZ : Below W.heap.size W Z := by rw [hZZ]; exact hZ5
              rw [← hZZ]
              clear hZZ hZ5 hO5
              obtain ⟨n0, n1, y0, y1, z0, z1⟩ := HS.out Z hZ
              have hR := HL3.out.below hZ HL3.out.lt
              obtain ⟨r0, r1⟩ := two_cells hR
              have f0 := hR.frozen 0
              have f1 := hR.frozen 1
              have HR := Lib.hid hR
              have HB9 := Lib.hid (HB.out.trans (hZ.mono HB.out.size))
              have HN9 := Lib.hid (HN.out.below hZ (Nat.le_refl _))
              clear hR hZ
              go_wp2_with fail
              have hR9 := lies_put2 HR.out (.slice A m c) (.int .i64 cap)
              refine bodyPost_ret (res_net2 (p := 6) Try.results17 rfl hR9) rfl ⟨A, m, c, ?_, ?_, ?_, (HB9.out.setCell (p := ⟨w.heap.size + 3, 0, none⟩) (by show w.heap.size ≤ w.heap.size + 3; omega) _).setCell (p := ⟨w.heap.size + 3, 1, none⟩) (by show w.heap.size ≤ w.heap.size + 3; omega) _⟩
              · rw [HE2.out]; rfl
              · rw [HE1.out]; exact HM.out
              · rw [HE1.out]
                exact ((HN9.out.keep (keep_set ⟨w.heap.size + 3, 0, none⟩ _ (fun h => by have h9 : w.heap.size + 3 < w.heap.size := hX _ h; omega))).keep (keep_set ⟨w.heap.size + 3, 1, none⟩ _ (fun h => by have h9 : w.heap.size + 3 < w.heap.size := hX _ h; omega))).keep (keep_wide fun q h _ => .inl h)
            | false =>
              rw [if_neg (by simpa using hε.symm)] at hall
              obtain ⟨he1, he2⟩ := Prod.mk.inj (show (ns', er) = ((linkNV l (xa, xb) (ya, yb)).1, (linkNV l (xa, xb) (ya, yb)).2) from hall)
              have HL9 := Lib.hid (HLK.out U4 (xa, xb) (ya, yb) hZ5)
              rw [← he1, ← he2] at HL9
              clear he1 he2 hall hε
              go_wp2_with fail
              refine HL9.out.mono ?_
              rintro e V9 ⟨A9, m9, c9, rfl, hm9, hN9, hb9⟩
              have HM9 := Lib.hid hm9
              have hB9 := hZ5.trans (hb9.mono hZ5.size)
              have HS9 : w.heap.size + 4 ≤ U4.heap.size := by have := hZ5.size; omega
              have hR := HL3.out.below hB9 HL3.out.lt
              obtain ⟨r0, r1⟩ := two_cells hR
              have f0 := hR.frozen 0
              have f1 := hR.frozen 1
              have HR := Lib.hid hR
              have HN9 := Lib.hid hN9
              have HB9 := Lib.hid (HB.out.trans (hB9.mono HB.out.size))
              clear hm9 n0 n1 y0 y1 z0 z1 o0 o1 p0 p1 heq2 HL9 hR hN9 hB9 hb9
              go_wp2_with fail
              have hR9 := lies_put2 HR.out (.slice A9 m9 c9) (.int .i64 cap)
              refine bodyPost_ret (res_net2 (p := 6) Try.results17 rfl hR9) rfl ⟨A9, m9, c9, rfl, HM9.out, ?_, (HB9.out.setCell (p := ⟨w.heap.size + 3, 0, none⟩) (by show w.heap.size ≤ w.heap.size + 3; omega) _).setCell (p := ⟨w.heap.size + 3, 1, none⟩) (by show w.heap.size ≤ w.heap.size + 3; omega) _⟩
              have hs9 := HS9
              have hN5 : NdsIn V9 (fun g => X g ∨ w.heap.size + 4 ≤ g) _ A9 := HN9.out.keep (keep_wide fun q h _ => by
                rcases h with h | h
                · exact .inl h
                · exact .inr (by omega))
              have hno : ∀ j, ¬ (fun g => X g ∨ w.heap.size + 4 ≤ g) (⟨w.heap.size + 3, j, none⟩ : Addr).block := fun j h => by
                rcases h with h | h
                · have h9 : w.heap.size + 3 < w.heap.size := hX _ h; omega
                · have h9 : w.heap.size + 4 ≤ w.heap.size + 3 := h; omega
              exact ((hN5.keep (keep_set ⟨w.heap.size + 3, 0, none⟩ _ (hno 0))).keep (keep_set ⟨w.heap.size + 3, 1, none⟩ _ (hno 1))).keep (keep_wide fun q h _ => by
                rcases h with h | h
                · exact .inl h
                · exact .inr (by omega))
end Lx
end Go.Proofs.Ytceblpjlklogpaa
