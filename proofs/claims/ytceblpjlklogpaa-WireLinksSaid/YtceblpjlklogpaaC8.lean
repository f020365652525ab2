/-
  Texts that lie one behind the other: NwD NlB.
-/
import Derived.Test.YtceblpjlklogpaaC5
import Derived.Test.YtceblpjlklogpaaC1
import Derived.Deep.RegionHeld3
namespace Go.Proofs.Ytceblpjlklogpaa
open Go Go.RowKit
namespace Lx
set_option maxRecDepth 100000
/-- As GivesNet, in letters. -/
def GivesLet (ns : List Nd) (cap er : Int) (w : World) (e : Ending) (w' : World) : Prop :=
  ∃ A m c, e = .returned (.tuple #[.agg #[.slice A m c, .int .i64 cap], .int .i64 er]) ∧ m = ns.length ∧ m ≤ c ∧ NdsIn w' (fun g => w.heap.size ≤ g) ns A ∧ Below w.heap.size w w'
theorem GivesNet.let_ {ns : List Nd} {cap er : Int} {w w' : World} {e : Ending} (h : GivesNet ns cap [.int .i64 er] w e w') : GivesLet ns cap er w e w' := by
  obtain ⟨A, c, rfl, h1, h2⟩ := h
  exact ⟨A, ns.length, capN ns.length c, rfl, rfl, le_capN _ _, h1, h2⟩
theorem GivesLet.net {ns : List Nd} {cap er : Int} {w w' : World} {e : Ending} (h : GivesLet ns cap er w e w') : GivesNet ns cap [.int .i64 er] w e w' := by
  obtain ⟨A, m, c, rfl, rfl, hc, h1, h2⟩ := h
  exact ⟨A, c, by simp only [netv]; rw [capN_of hc], h1, h2⟩
set_option maxHeartbeats 16000000 in
theorem wmove_any (l : List Nd) (A : Option Addr) (m c : Nat) (cap : Int) (p q : Int × Int) (w : World) (hm : m = l.length) (hm2 : m ≤ 100000) (hk : Few9 l) (hN : NdsIn w AnyB l A) :
    Calls Try.prog 14 #[.agg #[.slice A m c, .int .i64 cap], .agg #[.int .i64 p.1, .int .i64 p.2], .agg #[.int .i64 q.1, .int .i64 q.2]] w (GivesNet (moveNV l p q).1 cap [.int .i64 (moveNV l p q).2] w) := by
  obtain ⟨a, b⟩ := p
  obtain ⟨a2, b2⟩ := q
  simp only
  obtain ⟨w1, hw1⟩ : ∃ w1, w1 = ((((w.alloc (.cells #[.slice A m c, .int .i64 cap] 24)).alloc (.cells #[.int .i64 a, .int .i64 b] 26)).alloc (.cells #[.int .i64 a2, .int .i64 b2] 26)).alloc (.cells #[.slice none 0 0, .int .i64 0] 24)) := ⟨_, rfl⟩
  have hb : Below w.heap.size w w1 := by rw [hw1]; exact ((((Below.refl _ w).alloc (Nat.le_refl _) _).alloc (by simp) _).alloc (by simp; omega) _).alloc (by simp; omega) _
  have L0 : Lies w1 w.heap.size 24 #[.slice A m c, .int .i64 cap] := by rw [hw1]; exact (((Lies.new _ _ _).old _).old _).old _
  have L1 : Lies w1 (w.heap.size + 1) 26 #[.int .i64 a, .int .i64 b] := by rw [hw1]; exact Lies.old (Lies.old (by simpa using Lies.new (w.alloc (.cells #[.slice A m c, .int .i64 cap] 24)) 26 #[.int .i64 a, .int .i64 b]) _) _
  have L2 : Lies w1 (w.heap.size + 2) 26 #[.int .i64 a2, .int .i64 b2] := by rw [hw1]; exact Lies.old (by simpa using Lies.new ((w.alloc (.cells #[.slice A m c, .int .i64 cap] 24)).alloc (.cells #[.int .i64 a, .int .i64 b] 26)) 26 #[.int .i64 a2, .int .i64 b2]) _
  have L3 : Lies w1 (w.heap.size + 3) 24 #[.slice none 0 0, .int .i64 0] := by rw [hw1]; simpa using Lies.new (((w.alloc (.cells #[.slice A m c, .int .i64 cap] 24)).alloc (.cells #[.int .i64 a, .int .i64 b] 26)).alloc (.cells #[.int .i64 a2, .int .i64 b2] 26)) 24 #[.slice none 0 0, .int .i64 0]
  have hs1 : w1.heap.size = w.heap.size + 4 := by rw [hw1]; simp
  obtain ⟨n0, n1⟩ := two_cells L0
  obtain ⟨W, hW⟩ : ∃ W, W = w1.alloc (.cells #[.slice A m c, .int .i64 cap] 50) := ⟨_, rfl⟩
  have hbW : Below w1.heap.size w1 W := by rw [hW]; exact (Below.refl _ w1).alloc (Nat.le_refl _) _
  have LA : Lies W (w.heap.size + 4) 50 #[.slice A m c, .int .i64 cap] := by rw [hW, ← hs1]; exact Lies.new _ _ _
  replace L0 := L0.below hbW L0.lt
  replace L1 := L1.below hbW L1.lt
  replace L2 := L2.below hbW L2.lt
  replace L3 := L3.below hbW L3.lt
  replace hb := hb.trans (hbW.mono hb.size)
  have hNW : NdsIn W AnyB l A := hN.below hb (Nat.le_refl _)
  have HM := Lib.hid hm
  have HB := Lib.hid hb
  have HL3 := Lib.hid L3
  have HS : Hid (∀ V, Below W.heap.size W V → V.cell? ⟨w.heap.size, 0, none⟩ = some (.slice A m c) ∧ V.cell? ⟨w.heap.size, 1, none⟩ = some (.int .i64 cap) ∧ V.cell? ⟨w.heap.size + 1, 0, none⟩ = some (.int .i64 a) ∧ V.cell? ⟨w.heap.size + 1, 1, none⟩ = some (.int .i64 b) ∧ V.cell? ⟨w.heap.size + 2, 0, none⟩ = some (.int .i64 a2) ∧ V.cell? ⟨w.heap.size + 2, 1, none⟩ = some (.int .i64 b2) ∧ V.cell? ⟨w.heap.size + 4, 0, none⟩ = some (.slice A m c) ∧ V.cell? ⟨w.heap.size + 4, 1, none⟩ = some (.int .i64 cap)) := Lib.hid fun V hV => ⟨(hV.cell (p := ⟨w.heap.size, 0, none⟩) L0.lt).trans (L0.cell 0), (hV.cell (p := ⟨w.heap.size, 1, none⟩) L0.lt).trans (L0.cell 1), (hV.cell (p := ⟨w.heap.size + 1, 0, none⟩) L1.lt).trans (L1.cell 0), (hV.cell (p := ⟨w.heap.size + 1, 1, none⟩) L1.lt).trans (L1.cell 1), (hV.cell (p := ⟨w.heap.size + 2, 0, none⟩) L2.lt).trans (L2.cell 0), (hV.cell (p := ⟨w.heap.size + 2, 1, none⟩) L2.lt).trans (L2.cell 1), (hV.cell (p := ⟨w.heap.size + 4, 0, none⟩) LA.lt).trans (LA.cell 0), (hV.cell (p := ⟨w.heap.size + 4, 1, none⟩) LA.lt).trans (LA.cell 1)⟩
  have HBO : Hid (∀ V, Below W.heap.size W V → Calls Try.prog 29 #[.agg #[.slice A m c, .int .i64 cap], .agg #[.int .i64 a, .int .i64 b], .agg #[.int .i64 a2, .int .i64 b2]] V fun e w' => e = .returned (.bool (!((a, b) == (a2, b2)) && (hasV l (a, b) && hasV l (a2, b2)))) ∧ Below V.heap.size V w') := Lib.hid fun V hV => wboth_any l A m c cap (a, b) (a2, b2) V hm (hNW.below hV (Nat.le_refl _))
  have HNA : Hid (∀ V, Below W.heap.size W V → Calls Try.prog 28 #[.agg #[.slice A m c, .int .i64 cap]] V (GivesAny l m cap V)) := Lib.hid fun V hV => net_all l A m c cap V hm hm2 hk (hNW.below hV (Nat.le_refl _))
  have HLK : Hid (∀ V (p q : Int × Int), Below W.heap.size W V → Calls Try.prog 12 #[.agg #[.slice A m c, .int .i64 cap], .agg #[.int .i64 p.1, .int .i64 p.2], .agg #[.int .i64 q.1, .int .i64 q.2]] V (GivesLet (linkNV l p q).1 cap (linkNV l p q).2 V)) := Lib.hid fun V p q hV => (wlink_any l A m c cap p q V hm hm2 hk (hNW.below hV (Nat.le_refl _))).mono fun _ _ h => h.let_
  have HPE : Hid (∀ V (p : Int × Int), hasV l p = true → Below W.heap.size W V → Calls Try.prog 26 #[.agg #[.slice A m c, .int .i64 cap], .agg #[.int .i64 p.1, .int .i64 p.2]] V fun e w' => e = .returned (.agg #[.int .i64 (toAt l p).1, .int .i64 (toAt l p).2]) ∧ Below V.heap.size V w') := Lib.hid fun V p hp hV => wpeer_any l A m c cap p V hm (hNW.below hV (Nat.le_refl _)) hp
  have HHA : Hid (∀ V (xa xb ya yb : Int), Below W.heap.size W V → Calls Try.prog 25 #[.agg #[.slice A m c, .int .i64 cap], .slice (some ⟨V.heap.size, 0, none⟩) 1 1] (V.alloc (.cells #[.int .i64 xa, .int .i64 xb] 26)) fun e w' => e = .returned (.bool ([(xa, xb)].all fun p => hasV l p)) ∧ Below V.heap.size V w') := Lib.hid fun V xa xb ya yb hV => by
    have hV2 : Below V.heap.size V (V.alloc (.cells #[.int .i64 xa, .int .i64 xb] 26)) := (Below.refl _ V).alloc (Nat.le_refl _) _
    refine (whas_any l A m c cap [(xa, xb)] (some ⟨V.heap.size, 0, none⟩) 1 1 (V.alloc (.cells #[.int .i64 xa, .int .i64 xb] 26)) hm ((hNW.below hV (Nat.le_refl _)).below hV2 (Nat.le_refl _)) rfl (by omega) (to_one (Lies.new _ _ _))).mono ?_
    rintro e w' ⟨he, hb⟩
    exact ⟨he, hV2.trans (hb.mono hV2.size)⟩
  have hWs : W.heap.size = w.heap.size + 5 := by rw [hW]; simp [hs1]
  obtain ⟨ns', hns⟩ : ∃ ns', ns' = (moveNV l (a, b) (a2, b2)).1 := ⟨_, rfl⟩
  obtain ⟨er, her⟩ : ∃ er, er = (moveNV l (a, b) (a2, b2)).2 := ⟨_, rfl⟩
  rw [← hns, ← her]
  have HNS : Hid ((ns', er) = moveNV l (a, b) (a2, b2)) := Lib.hid (by rw [hns, her])
  clear hN hm hk hb hNW L0 L1 L2 L3 LA hbW hns her
  go_enter Try.func14, Try.ntmps14
  go_upto_region 1 with fail
  rw [← hw1]
  clear hw1
  go_upto_region 2 with fail
  rw [← hW]
  clear hW n0 n1 hs1
  obtain ⟨β, hβ⟩ : ∃ β, β = (!(((a, b) : Int × Int) == (a2, b2)) && (hasV l (a, b) && hasV l (a2, b2))) := ⟨_, rfl⟩
  rw [← hβ] at HBO
  cases β with
  | false =>
    have he : (ns', er) = (l, 130) := by
      rw [HNS.out, moveNV, if_neg]
      rintro ⟨h1, h2, h3, _⟩
      rw [h1, h2, Bool.and_self, Bool.and_true] at hβ
      exact h3 (by simpa using hβ)
    obtain ⟨he1, he2⟩ := Prod.mk.inj he
    clear hβ he
    have HE1 := Lib.hid he1
    have HE2 := Lib.hid he2
    clear he1 he2
    obtain ⟨n0, n1, y0, y1, z0, z1, v0, v1⟩ := HS.out W (Below.refl _ _)
    replace n0 := Abv.cell n0
    replace n1 := Abv.cell n1
    replace y0 := Abv.cell y0
    replace y1 := Abv.cell y1
    replace z0 := Abv.cell z0
    replace z1 := Abv.cell z1
    replace v0 := Abv.cell v0
    replace v1 := Abv.cell v1
    have HBA : ∀ V : Abv W, Calls Try.prog 29 #[.agg #[.slice A m c, .int .i64 cap], .agg #[.int .i64 a, .int .i64 b], .agg #[.int .i64 a2, .int .i64 b2]] V.1 fun e w' => e = .returned (.bool false) ∧ Below V.1.heap.size V.1 w' := fun V => HBO.out V.1 V.2
    refine region_calm (by kernel_rfl) (by kernel_rfl) ?_
    repeat (go_big_quiet_step (exact calm_of (HBA _)))
    refine wpQuiet_nil ?_
    rintro _ ⟨V, rfl⟩
    clear n0 n1 y0 y1 z0 z1 v0 v1 HBA
    obtain ⟨Z, hZ⟩ := V
    simp only
    have he1 := HE1.out
    have he2 := HE2.out
    clear HE1 HE2
    obtain ⟨n0, n1, y0, y1, z0, z1, v0, v1⟩ := HS.out Z hZ
    have HN1 := Lib.hid (HNA.out Z hZ)
    go_wp2_with fail
    refine HN1.out.mono ?_
    rintro e V9 ⟨A9, c9, rfl, hc9, hN9, hb9⟩
    have hB9 := hZ.trans (hb9.mono hZ.size)
    have hR := HL3.out.below hB9 HL3.out.lt
    obtain ⟨r0, r1⟩ := two_cells hR
    have f0 := hR.frozen 0
    have f1 := hR.frozen 1
    have HR := Lib.hid hR
    have HN9 := Lib.hid hN9
    have HB9 := Lib.hid (HB.out.trans (hB9.mono HB.out.size))
    have hZs := hZ.size
    clear n0 n1 y0 y1 z0 z1 v0 v1 HN1 hb9 hN9 hB9 hR hZ
    go_wp2_with fail
    have hR9 := lies_put2 HR.out (.slice A9 m c9) (.int .i64 cap)
    refine bodyPost_ret (res_net2 (p := 6) Try.results14 rfl hR9) rfl ⟨A9, c9, ?_, ?_, (HB9.out.setCell (p := ⟨w.heap.size + 3, 0, none⟩) (by show w.heap.size ≤ w.heap.size + 3; omega) _).setCell (p := ⟨w.heap.size + 3, 1, none⟩) (by show w.heap.size ≤ w.heap.size + 3; omega) _⟩
    · rw [he1, he2]
      simp only [netv]
      rw [← HM.out, capN_of hc9]
      rfl
    · rw [he1]
      exact ((HN9.out.keep (keep_set ⟨w.heap.size + 3, 0, none⟩ _ (by show ¬ Z.heap.size ≤ w.heap.size + 3; omega))).keep (keep_set ⟨w.heap.size + 3, 1, none⟩ _ (by show ¬ Z.heap.size ≤ w.heap.size + 3; omega))).keep (keep_wide (Y := fun g => w.heap.size ≤ g) fun g hg _ => by have hg' : Z.heap.size ≤ g := hg; omega)
  | true =>
    have hβ' := hβ.symm
    simp only [Bool.and_eq_true, Bool.not_eq_true'] at hβ'
    obtain ⟨b1, b2', b3⟩ := hβ'
    clear hβ
    obtain ⟨X, hX⟩ : ∃ X, X = toAt l (a, b) := ⟨_, rfl⟩
    obtain ⟨xa, xb⟩ := X
    have HPP : Hid (∀ V, Below W.heap.size W V → Calls Try.prog 26 #[.agg #[.slice A m c, .int .i64 cap], .agg #[.int .i64 a, .int .i64 b]] V fun e w' => e = .returned (.agg #[.int .i64 xa, .int .i64 xb]) ∧ Below V.heap.size V w') := Lib.hid fun V hV => by
      have h := HPE.out V (a, b) b2' hV
      rw [← hX] at h
      exact h
    have HH : Hid (∀ V, Below W.heap.size W V → Calls Try.prog 25 #[.agg #[.slice A m c, .int .i64 cap], .slice (some ⟨V.heap.size, 0, none⟩) 1 1] (V.alloc (.cells #[.int .i64 xa, .int .i64 xb] 26)) fun e w' => e = .returned (.bool (hasV l (xa, xb))) ∧ Below V.heap.size V w') := Lib.hid fun V hV => by
      have h := HHA.out V xa xb 0 0 hV
      simp only [List.all_cons, List.all_nil, Bool.and_true] at h
      exact h
    have hne : ((a, b) : Int × Int) ≠ (a2, b2) := fun e => by rw [e] at b1; simp at b1
    obtain ⟨γ, hγ⟩ : ∃ γ, γ = (hasV l (xa, xb)) := ⟨_, rfl⟩
    rw [← hγ] at HH
    have HMV : Hid ((ns', er) = if γ = true then (if ((xa, xb) : Int × Int) = (a2, b2) then (l, 0) else linkNV l (a2, b2) (xa, xb)) else (l, 130)) := Lib.hid (by
      rw [HNS.out, moveNV, ← hX, hγ]
      simp [b2', b3, hne])
    clear hγ hne b1 b2' b3 hX HNS HHA HPE
    go_region_held3 (fun V => V.cell? ⟨w.heap.size, 0, none⟩ = some (.slice A m c) ∧ V.cell? ⟨w.heap.size, 1, none⟩ = some (.int .i64 cap) ∧ V.cell? ⟨w.heap.size + 1, 0, none⟩ = some (.int .i64 a) ∧ V.cell? ⟨w.heap.size + 1, 1, none⟩ = some (.int .i64 b) ∧ V.cell? ⟨w.heap.size + 2, 0, none⟩ = some (.int .i64 a2) ∧ V.cell? ⟨w.heap.size + 2, 1, none⟩ = some (.int .i64 b2) ∧ V.cell? ⟨w.heap.size + 4, 0, none⟩ = some (.slice A m c) ∧ V.cell? ⟨w.heap.size + 4, 1, none⟩ = some (.int .i64 cap))
      (first | exact HS.out _ (Below.refl _ W).drew | exact HS.out _ hB4 | exact HS.out _ (hB2.alloc hB2.size _) | exact HS.out _ hB2 | exact HS.out _ hB1)
      (first
        | (go_at_call 29
           refine (HBO.out _ (Below.refl _ W).drew).mono ?_
           rintro e V1 ⟨rfl, hb1⟩
           have hB1 : Below W.heap.size W V1 := (Below.refl _ W).drew.trans hb1)
        | (go_at_call 26
           refine (HPP.out V1 hB1).mono ?_
           rintro e V2 ⟨rfl, hb2⟩
           have hB2 : Below W.heap.size W V2 := hB1.trans (hb2.mono hB1.size))
        | (go_at_call 25
           refine (HH.out V2 hB2).mono ?_
           rintro e V4 ⟨rfl, hb4⟩
           have hB4 : Below W.heap.size W V4 := hB2.trans (hb4.mono hB2.size)))
    clear hb1 hb2 hb4 hB1 hB2 HBO HH
    cases γ with
    | false =>
      obtain ⟨he1, he2⟩ := Prod.mk.inj (show (ns', er) = (l, 130) from HMV.out)
      have HE1 := Lib.hid he1
      have HE2 := Lib.hid he2
      clear he1 he2 HMV
      obtain ⟨Z, hZZ⟩ : ∃ Z, Z = V4 := ⟨_, rfl⟩
      have hZ : Below W.heap.size W Z := by rw [hZZ]; exact hB4
      rw [← hZZ]
      clear hZZ hB4
      have he1 := HE1.out
      have he2 := HE2.out
      clear HE1 HE2
      obtain ⟨n0, n1, y0, y1, z0, z1, v0, v1⟩ := HS.out Z hZ
      have HN1 := Lib.hid (HNA.out Z hZ)
      go_wp2_with fail
      refine HN1.out.mono ?_
      rintro e V9 ⟨A9, c9, rfl, hc9, hN9, hb9⟩
      have hB9 := hZ.trans (hb9.mono hZ.size)
      have hR := HL3.out.below hB9 HL3.out.lt
      obtain ⟨r0, r1⟩ := two_cells hR
      have f0 := hR.frozen 0
      have f1 := hR.frozen 1
      have HR := Lib.hid hR
      have HN9 := Lib.hid hN9
      have HB9 := Lib.hid (HB.out.trans (hB9.mono HB.out.size))
      have hZs := hZ.size
      clear n0 n1 y0 y1 z0 z1 v0 v1 HN1 hb9 hN9 hB9 hR hZ
      go_wp2_with fail
      have hR9 := lies_put2 HR.out (.slice A9 m c9) (.int .i64 cap)
      refine bodyPost_ret (res_net2 (p := 6) Try.results14 rfl hR9) rfl ⟨A9, c9, ?_, ?_, (HB9.out.setCell (p := ⟨w.heap.size + 3, 0, none⟩) (by show w.heap.size ≤ w.heap.size + 3; omega) _).setCell (p := ⟨w.heap.size + 3, 1, none⟩) (by show w.heap.size ≤ w.heap.size + 3; omega) _⟩
      · rw [he1, he2]
        simp only [netv]
        rw [← HM.out, capN_of hc9]
        rfl
      · rw [he1]
        exact ((HN9.out.keep (keep_set ⟨w.heap.size + 3, 0, none⟩ _ (by show ¬ Z.heap.size ≤ w.heap.size + 3; omega))).keep (keep_set ⟨w.heap.size + 3, 1, none⟩ _ (by show ¬ Z.heap.size ≤ w.heap.size + 3; omega))).keep (keep_wide (Y := fun g => w.heap.size ≤ g) fun g hg _ => by have hg' : Z.heap.size ≤ g := hg; omega)
    | true =>
      have heq := port_eql xa xb a2 b2
      obtain ⟨n0, n1, y0, y1, z0, z1, v0, v1⟩ := HS.out V4 hB4
      replace n0 := Abv.cell n0
      replace n1 := Abv.cell n1
      replace y0 := Abv.cell y0
      replace y1 := Abv.cell y1
      replace z0 := Abv.cell z0
      replace z1 := Abv.cell z1
      replace v0 := Abv.cell v0
      replace v1 := Abv.cell v1
      have HPA : ∀ V : Abv V4, Calls Try.prog 26 #[.agg #[.slice A m c, .int .i64 cap], .agg #[.int .i64 a, .int .i64 b]] V.1 fun e w' => e = .returned (.agg #[.int .i64 xa, .int .i64 xb]) ∧ Below V.1.heap.size V.1 w' := fun V => HPP.out V.1 (hB4.trans (V.2.mono hB4.size))
      obtain ⟨δ, hδ⟩ : ∃ δ, δ = (((xa, xb) : Int × Int) == (a2, b2)) := ⟨_, rfl⟩
      rw [← hδ] at heq
      cases δ with
      | true =>
        have hx : ((xa, xb) : Int × Int) = (a2, b2) := by simpa using hδ.symm
        obtain ⟨he1, he2⟩ := Prod.mk.inj (show (ns', er) = (l, 0) by rw [HMV.out, if_pos rfl, if_pos hx])
        have HE1 := Lib.hid he1
        have HE2 := Lib.hid he2
        clear he1 he2 HMV hx hδ
        go_upto_region 4 with fail
        refine region_calm (by kernel_rfl) (by kernel_rfl) ?_
        repeat (go_big_quiet_step (exact calm_of (HPA _)))
        refine wpQuiet_nil ?_
        rintro _ ⟨V, rfl⟩
        clear n0 n1 y0 y1 z0 z1 v0 v1 HPA heq
        obtain ⟨Z, hZ4⟩ := V
        have hZ : Below W.heap.size W Z := hB4.trans (hZ4.mono hB4.size)
        dsimp only
        clear hZ4 hB4
        have he1 := HE1.out
        have he2 := HE2.out
        clear HE1 HE2
        obtain ⟨n0, n1, y0, y1, z0, z1, v0, v1⟩ := HS.out Z hZ
        have HN1 := Lib.hid (HNA.out Z hZ)
        go_wp2_with fail
        refine HN1.out.mono ?_
        rintro e V9 ⟨A9, c9, rfl, hc9, hN9, hb9⟩
        have hB9 := hZ.trans (hb9.mono hZ.size)
        have hR := HL3.out.below hB9 HL3.out.lt
        obtain ⟨r0, r1⟩ := two_cells hR
        have f0 := hR.frozen 0
        have f1 := hR.frozen 1
        have HR := Lib.hid hR
        have HN9 := Lib.hid hN9
        have HB9 := Lib.hid (HB.out.trans (hB9.mono HB.out.size))
        have hZs := hZ.size
        clear n0 n1 y0 y1 z0 z1 v0 v1 HN1 hb9 hN9 hB9 hR hZ
        go_wp2_with fail
        have hR9 := lies_put2 HR.out (.slice A9 m c9) (.int .i64 cap)
        refine bodyPost_ret (res_net2 (p := 6) Try.results14 rfl hR9) rfl ⟨A9, c9, ?_, ?_, (HB9.out.setCell (p := ⟨w.heap.size + 3, 0, none⟩) (by show w.heap.size ≤ w.heap.size + 3; omega) _).setCell (p := ⟨w.heap.size + 3, 1, none⟩) (by show w.heap.size ≤ w.heap.size + 3; omega) _⟩
        · rw [he1, he2]
          simp only [netv]
          rw [← HM.out, capN_of hc9]
          rfl
        · rw [he1]
          exact ((HN9.out.keep (keep_set ⟨w.heap.size + 3, 0, none⟩ _ (by show ¬ Z.heap.size ≤ w.heap.size + 3; omega))).keep (keep_set ⟨w.heap.size + 3, 1, none⟩ _ (by show ¬ Z.heap.size ≤ w.heap.size + 3; omega))).keep (keep_wide (Y := fun g => w.heap.size ≤ g) fun g hg _ => by have hg' : Z.heap.size ≤ g := hg; omega)
      | false =>
        have hx : ¬ ((xa, xb) : Int × Int) = (a2, b2) := by simpa using hδ.symm
        have hmv : (ns', er) = linkNV l (a2, b2) (xa, xb) := by rw [HMV.out, if_pos rfl, if_neg hx]
        obtain ⟨he1, he2⟩ := Prod.mk.inj (show (ns', er) = ((linkNV l (a2, b2) (xa, xb)).1, (linkNV l (a2, b2) (xa, xb)).2) from hmv)
        have HE1 := Lib.hid he1
        have HE2 := Lib.hid he2
        have HLK2 : Hid (∀ V, Below W.heap.size W V → Calls Try.prog 12 #[.agg #[.slice A m c, .int .i64 cap], .agg #[.int .i64 a2, .int .i64 b2], .agg #[.int .i64 xa, .int .i64 xb]] V (GivesLet ns' cap er V)) := Lib.hid fun V hV => by
          have h := HLK.out V (a2, b2) (xa, xb) hV
          rw [← he1, ← he2] at h
          exact h
        clear he1 he2 HMV hx hδ hmv
        go_upto_region 4 with fail
        refine region_calm (by kernel_rfl) (by kernel_rfl) ?_
        repeat (go_big_quiet_step (exact calm_of (HPA _)))
        refine wpQuiet_nil ?_
        rintro _ ⟨V, rfl⟩
        clear n0 n1 y0 y1 z0 z1 v0 v1 HPA heq
        obtain ⟨Z, hZ4⟩ := V
        have hZ : Below W.heap.size W Z := hB4.trans (hZ4.mono hB4.size)
        dsimp only
        clear hZ4 hB4
        have HS2 : Hid (∀ V, Below W.heap.size W V → ∀ u v, ((V.setCell ⟨w.heap.size + 3, 0, none⟩ u).setCell ⟨w.heap.size + 3, 1, none⟩ v).cell? ⟨w.heap.size, 0, none⟩ = some (.slice A m c) ∧ ((V.setCell ⟨w.heap.size + 3, 0, none⟩ u).setCell ⟨w.heap.size + 3, 1, none⟩ v).cell? ⟨w.heap.size, 1, none⟩ = some (.int .i64 cap) ∧ ((V.setCell ⟨w.heap.size + 3, 0, none⟩ u).setCell ⟨w.heap.size + 3, 1, none⟩ v).cell? ⟨w.heap.size + 1, 0, none⟩ = some (.int .i64 a) ∧ ((V.setCell ⟨w.heap.size + 3, 0, none⟩ u).setCell ⟨w.heap.size + 3, 1, none⟩ v).cell? ⟨w.heap.size + 1, 1, none⟩ = some (.int .i64 b) ∧ ((V.setCell ⟨w.heap.size + 3, 0, none⟩ u).setCell ⟨w.heap.size + 3, 1, none⟩ v).cell? ⟨w.heap.size + 2, 0, none⟩ = some (.int .i64 a2) ∧ ((V.setCell ⟨w.heap.size + 3, 0, none⟩ u).setCell ⟨w.heap.size + 3, 1, none⟩ v).cell? ⟨w.heap.size + 2, 1, none⟩ = some (.int .i64 b2) ∧ ((V.setCell ⟨w.heap.size + 3, 0, none⟩ u).setCell ⟨w.heap.size + 3, 1, none⟩ v).cell? ⟨w.heap.size + 4, 0, none⟩ = some (.slice A m c) ∧ ((V.setCell ⟨w.heap.size + 3, 0, none⟩ u).setCell ⟨w.heap.size + 3, 1, none⟩ v).cell? ⟨w.heap.size + 4, 1, none⟩ = some (.int .i64 cap)) := Lib.hid fun V hV u v => by
          have h9 : ∀ q j, q ≠ w.heap.size + 3 → ((V.setCell ⟨w.heap.size + 3, 0, none⟩ u).setCell ⟨w.heap.size + 3, 1, none⟩ v).cell? ⟨q, j, none⟩ = V.cell? ⟨q, j, none⟩ := fun q j hq => by
            rw [World.cell?_setCell_other _ _ ⟨q, j, none⟩ _ (fun e => hq (by injection e with e; exact e.symm)), World.cell?_setCell_other _ _ ⟨q, j, none⟩ _ (fun e => hq (by injection e with e; exact e.symm))]
          have h := HS.out V hV
          rw [h9 _ _ (by omega), h9 _ _ (by omega), h9 _ _ (by omega), h9 _ _ (by omega), h9 _ _ (by omega), h9 _ _ (by omega), h9 _ _ (by omega), h9 _ _ (by omega)]
          exact h
        go_upto_region 6 with fail
        go_region_held3 (fun V => V.cell? ⟨w.heap.size, 0, none⟩ = some (.slice A m c) ∧ V.cell? ⟨w.heap.size, 1, none⟩ = some (.int .i64 cap) ∧ V.cell? ⟨w.heap.size + 1, 0, none⟩ = some (.int .i64 a) ∧ V.cell? ⟨w.heap.size + 1, 1, none⟩ = some (.int .i64 b) ∧ V.cell? ⟨w.heap.size + 2, 0, none⟩ = some (.int .i64 a2) ∧ V.cell? ⟨w.heap.size + 2, 1, none⟩ = some (.int .i64 b2) ∧ V.cell? ⟨w.heap.size + 4, 0, none⟩ = some (.slice A m c) ∧ V.cell? ⟨w.heap.size + 4, 1, none⟩ = some (.int .i64 cap))
          (first | exact HS.out _ hZ.drew | exact HS2.out _ hB7 _ _ | exact HS.out _ hB7 | exact HS.out _ hB5)
          (first
          | (go_at_call 26
             refine (HPP.out _ hZ.drew).mono ?_
             rintro e V5 ⟨rfl, hb5⟩
             have hB5 : Below W.heap.size W V5 := hZ.drew.trans (hb5.mono hZ.drew.size))
          | (go_at_call 12
             refine (HLK2.out V5 hB5).mono ?_
             rintro e V7 ⟨A7, m7, c7, rfl, hm7, hc7, hN7, hb7⟩
             have HM7 := Lib.hid hm7
             clear hm7
             have hB7 : Below W.heap.size W V7 := hB5.trans (hb7.mono hB5.size)
             have hR7 := HL3.out.below hB7 HL3.out.lt
             have r0 := hR7.cell 0
             have r1 := hR7.cell 1
             simp at r0 r1
             have f0 := hR7.frozen 0
             have f1 := hR7.frozen 1))
        go_wp2_with fail
        have hR9 := lies_put2 hR7 (.slice A7 m7 c7) (.int .i64 cap)
        have hs9 := hB5.size
        refine bodyPost_ret (res_net2 (p := 6) Try.results14 rfl hR9) rfl (GivesLet.net ⟨A7, m7, c7, rfl, HM7.out, hc7, ?_, ?_⟩)
        · exact ((hN7.keep (keep_set ⟨w.heap.size + 3, 0, none⟩ _ (by show ¬ V5.heap.size ≤ w.heap.size + 3; omega))).keep (keep_set ⟨w.heap.size + 3, 1, none⟩ _ (by show ¬ V5.heap.size ≤ w.heap.size + 3; omega))).keep (keep_wide (Y := fun g => w.heap.size ≤ g) fun g hg _ => by have hg' : V5.heap.size ≤ g := hg; omega)
        · exact ((HB.out.trans (hB7.mono HB.out.size)).setCell (p := ⟨w.heap.size + 3, 0, none⟩) (by show w.heap.size ≤ w.heap.size + 3; omega) _).setCell (p := ⟨w.heap.size + 3, 1, none⟩) (by show w.heap.size ≤ w.heap.size + 3; omega) _
set_option maxHeartbeats 16000000 in
theorem wjoin_any (l : List Nd) (A : Option Addr) (m c : Nat) (cap : Int) (p q : Int × Int) (w : World) (hm : m = l.length) (hm2 : m ≤ 100000) (hk : Few9 l) (hN : NdsIn w AnyB l A) :
    Calls Try.prog 16 #[.agg #[.slice A m c, .int .i64 cap], .agg #[.int .i64 p.1, .int .i64 p.2], .agg #[.int .i64 q.1, .int .i64 q.2]] w (GivesNet (joinNV l p q).1 cap [.int .i64 (joinNV l p q).2] w) := by
  obtain ⟨a, b⟩ := p
  obtain ⟨a2, b2⟩ := q
  simp only
  obtain ⟨w1, hw1⟩ : ∃ w1, w1 = ((((w.alloc (.cells #[.slice A m c, .int .i64 cap] 24)).alloc (.cells #[.int .i64 a, .int .i64 b] 26)).alloc (.cells #[.int .i64 a2, .int .i64 b2] 26)).alloc (.cells #[.slice none 0 0, .int .i64 0] 24)) := ⟨_, rfl⟩
  have hb : Below w.heap.size w w1 := by rw [hw1]; exact ((((Below.refl _ w).alloc (Nat.le_refl _) _).alloc (by simp) _).alloc (by simp; omega) _).alloc (by simp; omega) _
  have L0 : Lies w1 w.heap.size 24 #[.slice A m c, .int .i64 cap] := by rw [hw1]; exact (((Lies.new _ _ _).old _).old _).old _
  have L1 : Lies w1 (w.heap.size + 1) 26 #[.int .i64 a, .int .i64 b] := by rw [hw1]; exact Lies.old (Lies.old (by simpa using Lies.new (w.alloc (.cells #[.slice A m c, .int .i64 cap] 24)) 26 #[.int .i64 a, .int .i64 b]) _) _
  have L2 : Lies w1 (w.heap.size + 2) 26 #[.int .i64 a2, .int .i64 b2] := by rw [hw1]; exact Lies.old (by simpa using Lies.new ((w.alloc (.cells #[.slice A m c, .int .i64 cap] 24)).alloc (.cells #[.int .i64 a, .int .i64 b] 26)) 26 #[.int .i64 a2, .int .i64 b2]) _
  have L3 : Lies w1 (w.heap.size + 3) 24 #[.slice none 0 0, .int .i64 0] := by rw [hw1]; simpa using Lies.new (((w.alloc (.cells #[.slice A m c, .int .i64 cap] 24)).alloc (.cells #[.int .i64 a, .int .i64 b] 26)).alloc (.cells #[.int .i64 a2, .int .i64 b2] 26)) 24 #[.slice none 0 0, .int .i64 0]
  have hs1 : w1.heap.size = w.heap.size + 4 := by rw [hw1]; simp
  obtain ⟨n0, n1⟩ := two_cells L0
  obtain ⟨W, hW⟩ : ∃ W, W = w1.alloc (.cells #[.slice A m c, .int .i64 cap] 50) := ⟨_, rfl⟩
  have hbW : Below w1.heap.size w1 W := by rw [hW]; exact (Below.refl _ w1).alloc (Nat.le_refl _) _
  have LA : Lies W (w.heap.size + 4) 50 #[.slice A m c, .int .i64 cap] := by rw [hW, ← hs1]; exact Lies.new _ _ _
  replace L0 := L0.below hbW L0.lt
  replace L1 := L1.below hbW L1.lt
  replace L2 := L2.below hbW L2.lt
  replace L3 := L3.below hbW L3.lt
  replace hb := hb.trans (hbW.mono hb.size)
  have hNW : NdsIn W AnyB l A := hN.below hb (Nat.le_refl _)
  have HM := Lib.hid hm
  have HB := Lib.hid hb
  have HL3 := Lib.hid L3
  have HS : Hid (∀ V, Below W.heap.size W V → V.cell? ⟨w.heap.size, 0, none⟩ = some (.slice A m c) ∧ V.cell? ⟨w.heap.size, 1, none⟩ = some (.int .i64 cap) ∧ V.cell? ⟨w.heap.size + 1, 0, none⟩ = some (.int .i64 a) ∧ V.cell? ⟨w.heap.size + 1, 1, none⟩ = some (.int .i64 b) ∧ V.cell? ⟨w.heap.size + 2, 0, none⟩ = some (.int .i64 a2) ∧ V.cell? ⟨w.heap.size + 2, 1, none⟩ = some (.int .i64 b2) ∧ V.cell? ⟨w.heap.size + 4, 0, none⟩ = some (.slice A m c) ∧ V.cell? ⟨w.heap.size + 4, 1, none⟩ = some (.int .i64 cap)) := Lib.hid fun V hV => ⟨(hV.cell (p := ⟨w.heap.size, 0, none⟩) L0.lt).trans (L0.cell 0), (hV.cell (p := ⟨w.heap.size, 1, none⟩) L0.lt).trans (L0.cell 1), (hV.cell (p := ⟨w.heap.size + 1, 0, none⟩) L1.lt).trans (L1.cell 0), (hV.cell (p := ⟨w.heap.size + 1, 1, none⟩) L1.lt).trans (L1.cell 1), (hV.cell (p := ⟨w.heap.size + 2, 0, none⟩) L2.lt).trans (L2.cell 0), (hV.cell (p := ⟨w.heap.size + 2, 1, none⟩) L2.lt).trans (L2.cell 1), (hV.cell (p := ⟨w.heap.size + 4, 0, none⟩) LA.lt).trans (LA.cell 0), (hV.cell (p := ⟨w.heap.size + 4, 1, none⟩) LA.lt).trans (LA.cell 1)⟩
  have HBO : Hid (∀ V, Below W.heap.size W V → Calls Try.prog 29 #[.agg #[.slice A m c, .int .i64 cap], .agg #[.int .i64 a, .int .i64 b], .agg #[.int .i64 a2, .int .i64 b2]] V fun e w' => e = .returned (.bool (!((a, b) == (a2, b2)) && (hasV l (a, b) && hasV l (a2, b2)))) ∧ Below V.heap.size V w') := Lib.hid fun V hV => wboth_any l A m c cap (a, b) (a2, b2) V hm (hNW.below hV (Nat.le_refl _))
  have HNA : Hid (∀ V, Below W.heap.size W V → Calls Try.prog 28 #[.agg #[.slice A m c, .int .i64 cap]] V (GivesAny l m cap V)) := Lib.hid fun V hV => net_all l A m c cap V hm hm2 hk (hNW.below hV (Nat.le_refl _))
  have HLK : Hid (∀ V (p q : Int × Int), Below W.heap.size W V → Calls Try.prog 12 #[.agg #[.slice A m c, .int .i64 cap], .agg #[.int .i64 p.1, .int .i64 p.2], .agg #[.int .i64 q.1, .int .i64 q.2]] V (GivesLet (linkNV l p q).1 cap (linkNV l p q).2 V)) := Lib.hid fun V p q hV => (wlink_any l A m c cap p q V hm hm2 hk (hNW.below hV (Nat.le_refl _))).mono fun _ _ h => h.let_
  have HPE : Hid (∀ V (p : Int × Int), hasV l p = true → Below W.heap.size W V → Calls Try.prog 26 #[.agg #[.slice A m c, .int .i64 cap], .agg #[.int .i64 p.1, .int .i64 p.2]] V fun e w' => e = .returned (.agg #[.int .i64 (toAt l p).1, .int .i64 (toAt l p).2]) ∧ Below V.heap.size V w') := Lib.hid fun V p hp hV => wpeer_any l A m c cap p V hm (hNW.below hV (Nat.le_refl _)) hp
  have HHA : Hid (∀ V (xa xb ya yb : Int), Below W.heap.size W V → Calls Try.prog 25 #[.agg #[.slice A m c, .int .i64 cap], .slice (some ⟨V.heap.size, 0, none⟩) 2 2] (V.alloc (.cells #[.int .i64 xa, .int .i64 xb, .int .i64 ya, .int .i64 yb] 26)) fun e w' => e = .returned (.bool ([(xa, xb), (ya, yb)].all fun p => hasV l p)) ∧ Below V.heap.size V w') := Lib.hid fun V xa xb ya yb hV => by
    have hV2 : Below V.heap.size V (V.alloc (.cells #[.int .i64 xa, .int .i64 xb, .int .i64 ya, .int .i64 yb] 26)) := (Below.refl _ V).alloc (Nat.le_refl _) _
    refine (whas_any l A m c cap [(xa, xb), (ya, yb)] (some ⟨V.heap.size, 0, none⟩) 2 2 (V.alloc (.cells #[.int .i64 xa, .int .i64 xb, .int .i64 ya, .int .i64 yb] 26)) hm ((hNW.below hV (Nat.le_refl _)).below hV2 (Nat.le_refl _)) rfl (by omega) (to_two (Lies.new _ _ _))).mono ?_
    rintro e w' ⟨he, hb⟩
    exact ⟨he, hV2.trans (hb.mono hV2.size)⟩
  have hWs : W.heap.size = w.heap.size + 5 := by rw [hW]; simp [hs1]
  obtain ⟨ns', hns⟩ : ∃ ns', ns' = (joinNV l (a, b) (a2, b2)).1 := ⟨_, rfl⟩
  obtain ⟨er, her⟩ : ∃ er, er = (joinNV l (a, b) (a2, b2)).2 := ⟨_, rfl⟩
  rw [← hns, ← her]
  have HNS : Hid ((ns', er) = joinNV l (a, b) (a2, b2)) := Lib.hid (by rw [hns, her])
  clear hN hm hk hb hNW L0 L1 L2 L3 LA hbW hns her
  go_enter Try.func16, Try.ntmps16
  go_upto_region 1 with fail
  rw [← hw1]
  clear hw1
  go_upto_region 2 with fail
  rw [← hW]
  clear hW n0 n1 hs1
  obtain ⟨β, hβ⟩ : ∃ β, β = (!(((a, b) : Int × Int) == (a2, b2)) && (hasV l (a, b) && hasV l (a2, b2))) := ⟨_, rfl⟩
  rw [← hβ] at HBO
  cases β with
  | false =>
    have he : (ns', er) = (l, 130) := by
      rw [HNS.out, joinNV, if_neg]
      rintro ⟨h1, h2, h3, _⟩
      rw [h1, h2, Bool.and_self, Bool.and_true] at hβ
      exact h3 (by simpa using hβ)
    obtain ⟨he1, he2⟩ := Prod.mk.inj he
    clear hβ he
    have HE1 := Lib.hid he1
    have HE2 := Lib.hid he2
    clear he1 he2
    obtain ⟨n0, n1, y0, y1, z0, z1, v0, v1⟩ := HS.out W (Below.refl _ _)
    replace n0 := Abv.cell n0
    replace n1 := Abv.cell n1
    replace y0 := Abv.cell y0
    replace y1 := Abv.cell y1
    replace z0 := Abv.cell z0
    replace z1 := Abv.cell z1
    replace v0 := Abv.cell v0
    replace v1 := Abv.cell v1
    have HBA : ∀ V : Abv W, Calls Try.prog 29 #[.agg #[.slice A m c, .int .i64 cap], .agg #[.int .i64 a, .int .i64 b], .agg #[.int .i64 a2, .int .i64 b2]] V.1 fun e w' => e = .returned (.bool false) ∧ Below V.1.heap.size V.1 w' := fun V => HBO.out V.1 V.2
    refine region_calm (by kernel_rfl) (by kernel_rfl) ?_
    repeat (go_big_quiet_step (exact calm_of (HBA _)))
    refine wpQuiet_nil ?_
    rintro _ ⟨V, rfl⟩
    clear n0 n1 y0 y1 z0 z1 v0 v1 HBA
    obtain ⟨Z, hZ⟩ := V
    simp only
    have he1 := HE1.out
    have he2 := HE2.out
    clear HE1 HE2
    obtain ⟨n0, n1, y0, y1, z0, z1, v0, v1⟩ := HS.out Z hZ
    have HN1 := Lib.hid (HNA.out Z hZ)
    go_wp2_with fail
    refine HN1.out.mono ?_
    rintro e V9 ⟨A9, c9, rfl, hc9, hN9, hb9⟩
    have hB9 := hZ.trans (hb9.mono hZ.size)
    have hR := HL3.out.below hB9 HL3.out.lt
    obtain ⟨r0, r1⟩ := two_cells hR
    have f0 := hR.frozen 0
    have f1 := hR.frozen 1
    have HR := Lib.hid hR
    have HN9 := Lib.hid hN9
    have HB9 := Lib.hid (HB.out.trans (hB9.mono HB.out.size))
    have hZs := hZ.size
    clear n0 n1 y0 y1 z0 z1 v0 v1 HN1 hb9 hN9 hB9 hR hZ
    go_wp2_with fail
    have hR9 := lies_put2 HR.out (.slice A9 m c9) (.int .i64 cap)
    refine bodyPost_ret (res_net2 (p := 6) Try.results16 rfl hR9) rfl ⟨A9, c9, ?_, ?_, (HB9.out.setCell (p := ⟨w.heap.size + 3, 0, none⟩) (by show w.heap.size ≤ w.heap.size + 3; omega) _).setCell (p := ⟨w.heap.size + 3, 1, none⟩) (by show w.heap.size ≤ w.heap.size + 3; omega) _⟩
    · rw [he1, he2]
      simp only [netv]
      rw [← HM.out, capN_of hc9]
      rfl
    · rw [he1]
      exact ((HN9.out.keep (keep_set ⟨w.heap.size + 3, 0, none⟩ _ (by show ¬ Z.heap.size ≤ w.heap.size + 3; omega))).keep (keep_set ⟨w.heap.size + 3, 1, none⟩ _ (by show ¬ Z.heap.size ≤ w.heap.size + 3; omega))).keep (keep_wide (Y := fun g => w.heap.size ≤ g) fun g hg _ => by have hg' : Z.heap.size ≤ g := hg; omega)
  | true =>
    have hβ' := hβ.symm
    simp only [Bool.and_eq_true, Bool.not_eq_true'] at hβ'
    obtain ⟨b1, b2', b3⟩ := hβ'
    clear hβ
    obtain ⟨X, hX⟩ : ∃ X, X = toAt l (a, b) := ⟨_, rfl⟩
    obtain ⟨xa, xb⟩ := X
    have HPP : Hid (∀ V, Below W.heap.size W V → Calls Try.prog 26 #[.agg #[.slice A m c, .int .i64 cap], .agg #[.int .i64 a, .int .i64 b]] V fun e w' => e = .returned (.agg #[.int .i64 xa, .int .i64 xb]) ∧ Below V.heap.size V w') := Lib.hid fun V hV => by
      have h := HPE.out V (a, b) b2' hV
      rw [← hX] at h
      exact h
    obtain ⟨Y, hY⟩ : ∃ Y, Y = toAt l (a2, b2) := ⟨_, rfl⟩
    obtain ⟨ya, yb⟩ := Y
    have HPQ : Hid (∀ V, Below W.heap.size W V → Calls Try.prog 26 #[.agg #[.slice A m c, .int .i64 cap], .agg #[.int .i64 a2, .int .i64 b2]] V fun e w' => e = .returned (.agg #[.int .i64 ya, .int .i64 yb]) ∧ Below V.heap.size V w') := Lib.hid fun V hV => by
      have h := HPE.out V (a2, b2) b3 hV
      rw [← hY] at h
      exact h
    have HH : Hid (∀ V, Below W.heap.size W V → Calls Try.prog 25 #[.agg #[.slice A m c, .int .i64 cap], .slice (some ⟨V.heap.size, 0, none⟩) 2 2] (V.alloc (.cells #[.int .i64 xa, .int .i64 xb, .int .i64 ya, .int .i64 yb] 26)) fun e w' => e = .returned (.bool (hasV l (xa, xb) && hasV l (ya, yb))) ∧ Below V.heap.size V w') := Lib.hid fun V hV => by
      have h := HHA.out V xa xb ya yb hV
      simp only [List.all_cons, List.all_nil, Bool.and_true] at h
      exact h
    have hne : ((a, b) : Int × Int) ≠ (a2, b2) := fun e => by rw [e] at b1; simp at b1
    obtain ⟨γ, hγ⟩ : ∃ γ, γ = (hasV l (xa, xb) && hasV l (ya, yb)) := ⟨_, rfl⟩
    rw [← hγ] at HH
    have HMV : Hid ((ns', er) = if γ = true then (if ((xa, xb) : Int × Int) = (a2, b2) then (l, 0) else linkNV l (xa, xb) (ya, yb)) else (l, 130)) := Lib.hid (by
      rw [HNS.out, joinNV, ← hX, ← hY, hγ]
      simp [b2', b3, hne, Bool.and_eq_true])
    clear hγ hne b1 b2' b3 hX hY HNS HHA HPE
    go_region_held3 (fun V => V.cell? ⟨w.heap.size, 0, none⟩ = some (.slice A m c) ∧ V.cell? ⟨w.heap.size, 1, none⟩ = some (.int .i64 cap) ∧ V.cell? ⟨w.heap.size + 1, 0, none⟩ = some (.int .i64 a) ∧ V.cell? ⟨w.heap.size + 1, 1, none⟩ = some (.int .i64 b) ∧ V.cell? ⟨w.heap.size + 2, 0, none⟩ = some (.int .i64 a2) ∧ V.cell? ⟨w.heap.size + 2, 1, none⟩ = some (.int .i64 b2) ∧ V.cell? ⟨w.heap.size + 4, 0, none⟩ = some (.slice A m c) ∧ V.cell? ⟨w.heap.size + 4, 1, none⟩ = some (.int .i64 cap))
      (first | exact HS.out _ (Below.refl _ W).drew | exact HS.out _ hB4 | exact HS.out _ (hB3.alloc hB3.size _) | exact HS.out _ hB3 | exact HS.out _ hB2 | exact HS.out _ hB1)
      (first
        | (go_at_call 29
           refine (HBO.out _ (Below.refl _ W).drew).mono ?_
           rintro e V1 ⟨rfl, hb1⟩
           have hB1 : Below W.heap.size W V1 := (Below.refl _ W).drew.trans hb1)
        | (go_at_call 26
           refine (HPQ.out V2 hB2).mono ?_
           rintro e V3 ⟨rfl, hb3⟩
           have hB3 : Below W.heap.size W V3 := hB2.trans (hb3.mono hB2.size))
        | (go_at_call 26
           refine (HPP.out V1 hB1).mono ?_
           rintro e V2 ⟨rfl, hb2⟩
           have hB2 : Below W.heap.size W V2 := hB1.trans (hb2.mono hB1.size))
        | (go_at_call 25
           refine (HH.out V3 hB3).mono ?_
           rintro e V4 ⟨rfl, hb4⟩
           have hB4 : Below W.heap.size W V4 := hB3.trans (hb4.mono hB3.size)))
    clear hb1 hb2 hb4 hB1 hB2 hb3 hB3 HBO HH
    cases γ with
    | false =>
      obtain ⟨he1, he2⟩ := Prod.mk.inj (show (ns', er) = (l, 130) from HMV.out)
      have HE1 := Lib.hid he1
      have HE2 := Lib.hid he2
      clear he1 he2 HMV
      obtain ⟨Z, hZZ⟩ : ∃ Z, Z = V4 := ⟨_, rfl⟩
      have hZ : Below W.heap.size W Z := by rw [hZZ]; exact hB4
      rw [← hZZ]
      clear hZZ hB4
      have he1 := HE1.out
      have he2 := HE2.out
      clear HE1 HE2
      obtain ⟨n0, n1, y0, y1, z0, z1, v0, v1⟩ := HS.out Z hZ
      have HN1 := Lib.hid (HNA.out Z hZ)
      go_wp2_with fail
      refine HN1.out.mono ?_
      rintro e V9 ⟨A9, c9, rfl, hc9, hN9, hb9⟩
      have hB9 := hZ.trans (hb9.mono hZ.size)
      have hR := HL3.out.below hB9 HL3.out.lt
      obtain ⟨r0, r1⟩ := two_cells hR
      have f0 := hR.frozen 0
      have f1 := hR.frozen 1
      have HR := Lib.hid hR
      have HN9 := Lib.hid hN9
      have HB9 := Lib.hid (HB.out.trans (hB9.mono HB.out.size))
      have hZs := hZ.size
      clear n0 n1 y0 y1 z0 z1 v0 v1 HN1 hb9 hN9 hB9 hR hZ
      go_wp2_with fail
      have hR9 := lies_put2 HR.out (.slice A9 m c9) (.int .i64 cap)
      refine bodyPost_ret (res_net2 (p := 6) Try.results16 rfl hR9) rfl ⟨A9, c9, ?_, ?_, (HB9.out.setCell (p := ⟨w.heap.size + 3, 0, none⟩) (by show w.heap.size ≤ w.heap.size + 3; omega) _).setCell (p := ⟨w.heap.size + 3, 1, none⟩) (by show w.heap.size ≤ w.heap.size + 3; omega) _⟩
      · rw [he1, he2]
        simp only [netv]
        rw [← HM.out, capN_of hc9]
        rfl
      · rw [he1]
        exact ((HN9.out.keep (keep_set ⟨w.heap.size + 3, 0, none⟩ _ (by show ¬ Z.heap.size ≤ w.heap.size + 3; omega))).keep (keep_set ⟨w.heap.size + 3, 1, none⟩ _ (by show ¬ Z.heap.size ≤ w.heap.size + 3; omega))).keep (keep_wide (Y := fun g => w.heap.size ≤ g) fun g hg _ => by have hg' : Z.heap.size ≤ g := hg; omega)
    | true =>
      have heq := port_eql xa xb a2 b2
      obtain ⟨n0, n1, y0, y1, z0, z1, v0, v1⟩ := HS.out V4 hB4
      replace n0 := Abv.cell n0
      replace n1 := Abv.cell n1
      replace y0 := Abv.cell y0
      replace y1 := Abv.cell y1
      replace z0 := Abv.cell z0
      replace z1 := Abv.cell z1
      replace v0 := Abv.cell v0
      replace v1 := Abv.cell v1
      have HPA : ∀ V : Abv V4, Calls Try.prog 26 #[.agg #[.slice A m c, .int .i64 cap], .agg #[.int .i64 a, .int .i64 b]] V.1 fun e w' => e = .returned (.agg #[.int .i64 xa, .int .i64 xb]) ∧ Below V.1.heap.size V.1 w' := fun V => HPP.out V.1 (hB4.trans (V.2.mono hB4.size))
      obtain ⟨δ, hδ⟩ : ∃ δ, δ = (((xa, xb) : Int × Int) == (a2, b2)) := ⟨_, rfl⟩
      rw [← hδ] at heq
      cases δ with
      | true =>
        have hx : ((xa, xb) : Int × Int) = (a2, b2) := by simpa using hδ.symm
        obtain ⟨he1, he2⟩ := Prod.mk.inj (show (ns', er) = (l, 0) by rw [HMV.out, if_pos rfl, if_pos hx])
        have HE1 := Lib.hid he1
        have HE2 := Lib.hid he2
        clear he1 he2 HMV hx hδ
        go_upto_region 4 with fail
        refine region_calm (by kernel_rfl) (by kernel_rfl) ?_
        repeat (go_big_quiet_step (exact calm_of (HPA _)))
        refine wpQuiet_nil ?_
        rintro _ ⟨V, rfl⟩
        clear n0 n1 y0 y1 z0 z1 v0 v1 HPA heq
        obtain ⟨Z, hZ4⟩ := V
        have hZ : Below W.heap.size W Z := hB4.trans (hZ4.mono hB4.size)
        dsimp only
        clear hZ4 hB4
        have he1 := HE1.out
        have he2 := HE2.out
        clear HE1 HE2
        obtain ⟨n0, n1, y0, y1, z0, z1, v0, v1⟩ := HS.out Z hZ
        have HN1 := Lib.hid (HNA.out Z hZ)
        go_wp2_with fail
        refine HN1.out.mono ?_
        rintro e V9 ⟨A9, c9, rfl, hc9, hN9, hb9⟩
        have hB9 := hZ.trans (hb9.mono hZ.size)
        have hR := HL3.out.below hB9 HL3.out.lt
        obtain ⟨r0, r1⟩ := two_cells hR
        have f0 := hR.frozen 0
        have f1 := hR.frozen 1
        have HR := Lib.hid hR
        have HN9 := Lib.hid hN9
        have HB9 := Lib.hid (HB.out.trans (hB9.mono HB.out.size))
        have hZs := hZ.size
        clear n0 n1 y0 y1 z0 z1 v0 v1 HN1 hb9 hN9 hB9 hR hZ
        go_wp2_with fail
        have hR9 := lies_put2 HR.out (.slice A9 m c9) (.int .i64 cap)
        refine bodyPost_ret (res_net2 (p := 6) Try.results16 rfl hR9) rfl ⟨A9, c9, ?_, ?_, (HB9.out.setCell (p := ⟨w.heap.size + 3, 0, none⟩) (by show w.heap.size ≤ w.heap.size + 3; omega) _).setCell (p := ⟨w.heap.size + 3, 1, none⟩) (by show w.heap.size ≤ w.heap.size + 3; omega) _⟩
        · rw [he1, he2]
          simp only [netv]
          rw [← HM.out, capN_of hc9]
          rfl
        · rw [he1]
          exact ((HN9.out.keep (keep_set ⟨w.heap.size + 3, 0, none⟩ _ (by show ¬ Z.heap.size ≤ w.heap.size + 3; omega))).keep (keep_set ⟨w.heap.size + 3, 1, none⟩ _ (by show ¬ Z.heap.size ≤ w.heap.size + 3; omega))).keep (keep_wide (Y := fun g => w.heap.size ≤ g) fun g hg _ => by have hg' : Z.heap.size ≤ g := hg; omega)
      | false =>
        have hx : ¬ ((xa, xb) : Int × Int) = (a2, b2) := by simpa using hδ.symm
        have hmv : (ns', er) = linkNV l (xa, xb) (ya, yb) := by rw [HMV.out, if_pos rfl, if_neg hx]
        obtain ⟨he1, he2⟩ := Prod.mk.inj (show (ns', er) = ((linkNV l (xa, xb) (ya, yb)).1, (linkNV l (xa, xb) (ya, yb)).2) from hmv)
        have HE1 := Lib.hid he1
        have HE2 := Lib.hid he2
        have HLK2 : Hid (∀ V, Below W.heap.size W V → Calls Try.prog 12 #[.agg #[.slice A m c, .int .i64 cap], .agg #[.int .i64 xa, .int .i64 xb], .agg #[.int .i64 ya, .int .i64 yb]] V (GivesLet ns' cap er V)) := Lib.hid fun V hV => by
          have h := HLK.out V (xa, xb) (ya, yb) hV
          rw [← he1, ← he2] at h
          exact h
        clear he1 he2 HMV hx hδ hmv
        go_upto_region 4 with fail
        refine region_calm (by kernel_rfl) (by kernel_rfl) ?_
        repeat (go_big_quiet_step (exact calm_of (HPA _)))
        refine wpQuiet_nil ?_
        rintro _ ⟨V, rfl⟩
        clear n0 n1 y0 y1 z0 z1 v0 v1 HPA heq
        obtain ⟨Z, hZ4⟩ := V
        have hZ : Below W.heap.size W Z := hB4.trans (hZ4.mono hB4.size)
        dsimp only
        clear hZ4 hB4
        have HS2 : Hid (∀ V, Below W.heap.size W V → ∀ u v, ((V.setCell ⟨w.heap.size + 3, 0, none⟩ u).setCell ⟨w.heap.size + 3, 1, none⟩ v).cell? ⟨w.heap.size, 0, none⟩ = some (.slice A m c) ∧ ((V.setCell ⟨w.heap.size + 3, 0, none⟩ u).setCell ⟨w.heap.size + 3, 1, none⟩ v).cell? ⟨w.heap.size, 1, none⟩ = some (.int .i64 cap) ∧ ((V.setCell ⟨w.heap.size + 3, 0, none⟩ u).setCell ⟨w.heap.size + 3, 1, none⟩ v).cell? ⟨w.heap.size + 1, 0, none⟩ = some (.int .i64 a) ∧ ((V.setCell ⟨w.heap.size + 3, 0, none⟩ u).setCell ⟨w.heap.size + 3, 1, none⟩ v).cell? ⟨w.heap.size + 1, 1, none⟩ = some (.int .i64 b) ∧ ((V.setCell ⟨w.heap.size + 3, 0, none⟩ u).setCell ⟨w.heap.size + 3, 1, none⟩ v).cell? ⟨w.heap.size + 2, 0, none⟩ = some (.int .i64 a2) ∧ ((V.setCell ⟨w.heap.size + 3, 0, none⟩ u).setCell ⟨w.heap.size + 3, 1, none⟩ v).cell? ⟨w.heap.size + 2, 1, none⟩ = some (.int .i64 b2) ∧ ((V.setCell ⟨w.heap.size + 3, 0, none⟩ u).setCell ⟨w.heap.size + 3, 1, none⟩ v).cell? ⟨w.heap.size + 4, 0, none⟩ = some (.slice A m c) ∧ ((V.setCell ⟨w.heap.size + 3, 0, none⟩ u).setCell ⟨w.heap.size + 3, 1, none⟩ v).cell? ⟨w.heap.size + 4, 1, none⟩ = some (.int .i64 cap)) := Lib.hid fun V hV u v => by
          have h9 : ∀ q j, q ≠ w.heap.size + 3 → ((V.setCell ⟨w.heap.size + 3, 0, none⟩ u).setCell ⟨w.heap.size + 3, 1, none⟩ v).cell? ⟨q, j, none⟩ = V.cell? ⟨q, j, none⟩ := fun q j hq => by
            rw [World.cell?_setCell_other _ _ ⟨q, j, none⟩ _ (fun e => hq (by injection e with e; exact e.symm)), World.cell?_setCell_other _ _ ⟨q, j, none⟩ _ (fun e => hq (by injection e with e; exact e.symm))]
          have h := HS.out V hV
          rw [h9 _ _ (by omega), h9 _ _ (by omega), h9 _ _ (by omega), h9 _ _ (by omega), h9 _ _ (by omega), h9 _ _ (by omega), h9 _ _ (by omega), h9 _ _ (by omega)]
          exact h
        go_upto_region 6 with fail
        go_region_held3 (fun V => V.cell? ⟨w.heap.size, 0, none⟩ = some (.slice A m c) ∧ V.cell? ⟨w.heap.size, 1, none⟩ = some (.int .i64 cap) ∧ V.cell? ⟨w.heap.size + 1, 0, none⟩ = some (.int .i64 a) ∧ V.cell? ⟨w.heap.size + 1, 1, none⟩ = some (.int .i64 b) ∧ V.cell? ⟨w.heap.size + 2, 0, none⟩ = some (.int .i64 a2) ∧ V.cell? ⟨w.heap.size + 2, 1, none⟩ = some (.int .i64 b2) ∧ V.cell? ⟨w.heap.size + 4, 0, none⟩ = some (.slice A m c) ∧ V.cell? ⟨w.heap.size + 4, 1, none⟩ = some (.int .i64 cap))
          (first | exact HS.out _ hZ.drew | exact HS2.out _ hB7 _ _ | exact HS.out _ hB7 | exact HS.out _ hB6 | exact HS.out _ hB5)
          (first
          | (go_at_call 26
             refine (HPQ.out V5 hB5).mono ?_
             rintro e V6 ⟨rfl, hb6⟩
             have hB6 : Below W.heap.size W V6 := hB5.trans (hb6.mono hB5.size))
          | (go_at_call 26
             refine (HPP.out _ hZ.drew).mono ?_
             rintro e V5 ⟨rfl, hb5⟩
             have hB5 : Below W.heap.size W V5 := hZ.drew.trans (hb5.mono hZ.drew.size))
          | (go_at_call 12
             refine (HLK2.out V6 hB6).mono ?_
             rintro e V7 ⟨A7, m7, c7, rfl, hm7, hc7, hN7, hb7⟩
             have HM7 := Lib.hid hm7
             clear hm7
             have hB7 : Below W.heap.size W V7 := hB6.trans (hb7.mono hB6.size)
             have hR7 := HL3.out.below hB7 HL3.out.lt
             have r0 := hR7.cell 0
             have r1 := hR7.cell 1
             simp at r0 r1
             have f0 := hR7.frozen 0
             have f1 := hR7.frozen 1))
        go_wp2_with fail
        have hR9 := lies_put2 hR7 (.slice A7 m7 c7) (.int .i64 cap)
        have hs9 := hB6.size
        refine bodyPost_ret (res_net2 (p := 6) Try.results16 rfl hR9) rfl (GivesLet.net ⟨A7, m7, c7, rfl, HM7.out, hc7, ?_, ?_⟩)
        · exact ((hN7.keep (keep_set ⟨w.heap.size + 3, 0, none⟩ _ (by show ¬ V6.heap.size ≤ w.heap.size + 3; omega))).keep (keep_set ⟨w.heap.size + 3, 1, none⟩ _ (by show ¬ V6.heap.size ≤ w.heap.size + 3; omega))).keep (keep_wide (Y := fun g => w.heap.size ≤ g) fun g hg _ => by have hg' : V6.heap.size ≤ g := hg; omega)
        · exact ((HB.out.trans (hB7.mono HB.out.size)).setCell (p := ⟨w.heap.size + 3, 0, none⟩) (by show w.heap.size ≤ w.heap.size + 3; omega) _).setCell (p := ⟨w.heap.size + 3, 1, none⟩) (by show w.heap.size ≤ w.heap.size + 3; omega) _
end Lx
end Go.Proofs.Ytceblpjlklogpaa
namespace Go.Proofs.Ytceblpjlklogpaa
open Go.RowKit
namespace Lx
set_option maxRecDepth 100000
set_option maxHeartbeats 4000000 in
theorem rnode_any (x : Nd) (B C : Option Addr) (b c : Nat) (w : World) (hI : NdIn w AnyB x B C) : Calls Try.prog 32 #[ndv x B b C c] w fun e w' => e = .returned (.bool (nodeV x)) ∧ Below w.heap.size w w' := by
  obtain ⟨k, lv, n, s, al, tp⟩ := x
  obtain ⟨⟨hs, hal, hto⟩, hA, _⟩ := hI
  simp only at hs hal hto hA
  obtain ⟨w1, hw1⟩ : ∃ w1, w1 = (w.alloc (.cells #[.int .i64 k, .int .i64 lv, .int .i64 n, .string s, .slice B al.length (capN al.length b), .slice C tp.length (capN tp.length c)] 43)) := ⟨_, rfl⟩
  have hb : Below w.heap.size w w1 := by rw [hw1]; exact (Below.refl _ w).alloc (Nat.le_refl _) _
  have L : Lies w1 w.heap.size 43 #[.int .i64 k, .int .i64 lv, .int .i64 n, .string s, .slice B al.length (capN al.length b), .slice C tp.length (capN tp.length c)] := by rw [hw1]; exact Lies.new _ _ _
  have c0 := L.cell 0
  have c1 := L.cell 1
  have c2 := L.cell 2
  have c3 := L.cell 3
  have c4 := L.cell 4
  have c5 := L.cell 5
  simp at c0 c1 c2 c3 c4 c5
  rw [nodeV_eq]
  unfold ndv
  go_enter Try.func32, Try.ntmps32
  go_upto_region 1 with fail
  rw [← hw1]
  clear hw1
  generalize hV : Value.agg #[.int .i64 k, .int .i64 lv, .int .i64 n, .string s, .slice B al.length (capN al.length b), .slice C tp.length (capN tp.length c)] = V0
  clear hV
  have hse : s.toList.isEmpty = decide (s = ⟨#[]⟩) := empty_dec s
  go_cut [32] from 5 to 32 (fun v wx => v = .bool (n1 k lv) ∧ w1 = wx)
  case first =>
    go_wp2_with fail
    all_goals
      go_meet
      refine ⟨?_, rfl⟩
      refine congrArg Value.bool ?_
      rw [Bool.eq_iff_iff]
      simp only [n1, Bool.or_eq_true, decide_eq_true_eq, true_iff]
      first | omega | (simp only [decide_eq_true_eq, decide_eq_false_iff_not] at *; omega)
  case rest =>
    obtain ⟨rfl, rfl⟩ := hcut
    cases h1 : n1 k lv with
    | true =>
      go_wp2_with fail
      go_ret
      exact ⟨rfl, hb⟩
    | false =>
      have H1 := Lib.hid h1
      clear h1
      go_upto_region 3 with fail
      go_cut [64] from 33 to 64 (fun v wx => v = .bool (n3 k n s) ∧ w1 = wx)
      case first =>
        go_wp2_with fail
        all_goals
          go_meet
          refine ⟨?_, rfl⟩
          refine congrArg Value.bool ?_
          clear c0 c1 c2 c3 c4 c5 L hA
          go_light
          grind [n3, hasNameK, hasNumK]
      case rest =>
        obtain ⟨rfl, rfl⟩ := hcut
        cases h3 : n3 k n s with
        | true =>
          go_wp2_with fail
          go_ret
          exact ⟨rfl, hb⟩
        | false =>
          have H3 := Lib.hid h3
          clear h3
          go_upto_region 5 with fail
          go_cut [107] from 65 to 107 (fun v wx => v = .bool (n5 k al.length tp.length) ∧ w1 = wx)
          case first =>
            go_wp2_with fail
            all_goals
              go_meet
              refine ⟨?_, rfl⟩
              clear c0 c1 c2 c3 c4 c5 L hA
              go_light
              first | (refine congrArg Value.bool ?_; grind [n5]) | (exfalso; grind)
          case rest =>
            obtain ⟨rfl, rfl⟩ := hcut
            cases h5 : n5 k al.length tp.length with
            | true =>
              go_wp2_with fail
              go_ret
              exact ⟨rfl, hb⟩
            | false =>
              have H5 := Lib.hid h5
              clear h5
              have HA := Lib.hid hA

              clear hA hs hto
              go_wp2_with fail
              go_loopw [3] (fun x wr => ∃ i : Nat, i ≤ al.length ∧ x = .int .i64 i ∧ Hid (altsFrom [] al = altsFrom (al.take i) (al.drop i)) ∧ Below w1.heap.size w1 wr) (fun x _ => al.length - (intOf x).toNat)
              case atStart => exact ⟨0, Nat.zero_le _, rfl, Lib.hid (by simp), Below.refl _ _⟩
              case round =>
                rename World => wo
                obtain ⟨i, hi, rfl, hR, hbr⟩ := hrel
                have hw1s := ncell_lt c4
                have e4 := (hbr.cell (p := ⟨w.heap.size, 4, none⟩) hw1s).trans c4
                by_cases hlt : i < al.length
                · obtain ⟨g, o, ⟨rfl, _⟩, d0, d1, _⟩ := HA.out i hlt
                  have hgw := ncell_lt d0
                  have hb2 : Below w.heap.size w wo := hb.trans (hbr.mono hb.size)
                  replace d0 := (hb2.cell (p := ⟨g, o + i * 2, none⟩) hgw).trans d0
                  replace d1 := (hb2.cell (p := ⟨g, o + i * 2 + 1, none⟩) hgw).trans d1
                  obtain ⟨a, ha⟩ : ∃ a, a = al[i]'hlt := ⟨_, rfl⟩
                  rw [← ha] at d0 d1
                  have Ha := Lib.hid ha
                  obtain ⟨an, aN⟩ := a
                  simp only at d0 d1
                  have hsa : an.toList.isEmpty = decide (an = ⟨#[]⟩) := empty_dec an
                  clear ha
                  go_upto_region 10 with fail
                  go_cut [139] from 108 to 157 (fun v wx => v = .bool (!altOne (an, aN)) ∧ wo = wx)
                  case first =>
                    go_wp2_with fail
                    all_goals
                      go_meet
                      refine ⟨?_, rfl⟩
                      clear c0 c1 c2 c3 c4 c5 e4 d0 d1 L HA Ha hR
                      go_light
                      refine congrArg Value.bool ?_
                      grind [altOne]
                  case rest =>
                    obtain ⟨rfl, rfl⟩ := hcut
                    cases h9 : altOne (an, aN) with
                    | false =>
                      go_wp2_with fail
                      go_ret
                      refine ⟨nret_bool ?_, hb2⟩
                      rw [hR.out, List.drop_eq_getElem_cons hlt, altsFrom, ← Ha.out, h9]
                      simp
                    | true =>
                      have H9 := Lib.hid h9
                      clear h9
                      go_wp2_with fail
                      go_loopw [4] (fun x wr => ∃ j : Nat, j ≤ i ∧ x = .int .i64 j ∧ Hid (twinIn an (al.take j) = false) ∧ Below wo.heap.size wo wr) (fun x _ => i - (intOf x).toNat)
                      case atStart => exact ⟨0, Nat.zero_le _, rfl, Lib.hid (by simp [twinIn]), Below.refl _ _⟩
                      case round =>
                        obtain ⟨j, hj, rfl, hW, hbj⟩ := hrel
                        have hwrs := ncell_lt e4
                        have f4 := (hbj.cell (p := ⟨w.heap.size, 4, none⟩) hwrs).trans e4
                        by_cases hlt2 : j < i
                        · obtain ⟨g', o', hgo, q0, q1, _⟩ := HA.out j (by omega)
                          cases hgo.1
                          have hgw' := ncell_lt q0
                          have hb3 : Below w.heap.size w wr := hb2.trans (hbj.mono hb2.size)
                          replace q0 := (hb3.cell (p := ⟨g, o + j * 2, none⟩) hgw').trans q0
                          have dd0 := (hbj.cell (p := ⟨g, o + i * 2, none⟩) (ncell_lt d0)).trans d0
                          obtain ⟨bn, hbn⟩ : ∃ bn, bn = (al[j]'(by omega)).1 := ⟨_, rfl⟩
                          rw [← hbn] at q0
                          have Hbn := Lib.hid hbn
                          have hjl : j < al.length := by omega
                          have hq := strN_q bn an
                          clear hbn q1 hgw'
                          go_upto_region 15 with fail
                          cases hE : decide (bn = an) with
                          | true =>
                            rw [hE] at hq
                            go_region
                            all_goals
                              go_wp2_with fail
                              go_ret
                              refine ⟨nret_bool ?_, hb3.drew⟩
                              have h6 : twinIn an (al.take i) = true := by
                                rw [twinIn, List.any_eq_true]
                                exact ⟨al[j]'hjl, List.mem_take_iff_getElem.2 ⟨j, by omega, rfl⟩, by rw [← Hbn.out]; exact hE⟩
                              rw [hR.out, List.drop_eq_getElem_cons hlt, altsFrom, ← Ha.out, h6]
                              simp
                          | false =>
                            rw [hE] at hq
                            go_region
                            all_goals
                              go_wp2_with fail
                              go_roundw
                              case rel =>
                                go_light
                                refine ⟨j + 1, by omega, by go_num, Lib.hid ?_, hbj.drew⟩
                                rw [List.take_succ_eq_append_getElem hjl, twinIn, List.any_append]
                                have h7 : (al.take j).any (fun b => decide (b.1 = an)) = false := hW.out
                                rw [h7]
                                simp [← Hbn.out]
                                exact of_decide_eq_false hE
                              case measure => simp [intOf]; omega
                        · go_wp2_with fail
                          go_roundw
                          case rel =>
                            go_light
                            have hji : j = i := by omega
                            subst hji
                            refine ⟨j + 1, by omega, by go_num, Lib.hid ?_, hbr.trans (hbj.mono hbr.size)⟩
                            have hjl : j < al.length := hlt
                            rw [hR.out, List.drop_eq_getElem_cons hlt, altsFrom, List.take_succ_eq_append_getElem hlt, ← Ha.out, H9.out, hW.out]
                            simp
                          case measure => simp [intOf]; omega
                · go_wp2_with fail
                  go_ret
                  refine ⟨nret_bool ?_, hb.trans (hbr.mono hb.size)⟩
                  rw [H1.out, H3.out, H5.out, hR.out, List.drop_eq_nil_of_le (by omega), altsFrom]
                  rfl
end Lx
end Go.Proofs.Ytceblpjlklogpaa
