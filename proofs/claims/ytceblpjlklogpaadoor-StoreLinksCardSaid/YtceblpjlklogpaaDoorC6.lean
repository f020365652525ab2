/-
  Texts that lie one behind the other: NlW NlX NlY.
-/
import Derived.Test.YtceblpjlklogpaaDoorC5
import Derived.Deep.DeepAppendRoom
import Derived.ArgAppend
import Derived.Deep.RegionHeld3
namespace Go.Proofs.YtceblpjlklogpaaDoor
open Go Go.RowKit
namespace Lx
set_option maxRecDepth 100000
/-- Another node in a place. -/
theorem Half.set1 {w : World} {X : Nat → Prop} {G m : Nat} {l : List Nd} {cs : Array Value} (h : Half w X G m l m cs) (hm : m = l.length) {i : Nat} (hi : i < m) (hX : ¬ X G) {x : Nd} {B C : Option Addr} (b c : Nat) (hn : NdIn w X x B C) :
    ∃ cs', Half (put6 w G (i * 6) (.int .i64 x.kind) (.int .i64 x.level) (.int .i64 x.n) (.string x.name) (.slice B x.alts.length (capN x.alts.length b)) (.slice C x.to.length (capN x.to.length c))) X G m (l.set i x) m cs' ∧ cs'.size = cs.size := by
  have hs := h.size
  obtain ⟨cs', h1, h2, h3, h4⟩ := put6_lies h.lies (o := i * 6) (by omega) (.int .i64 x.kind) (.int .i64 x.level) (.int .i64 x.n) (.string x.name) (.slice B x.alts.length (capN x.alts.length b)) (.slice C x.to.length (capN x.to.length c))
  refine ⟨cs', ⟨h1, by omega, fun j hj => ?_, fun j hj hjm => absurd hjm (by omega)⟩, h2⟩
  rw [ndAt_set]
  by_cases e : i = j
  · subst e
    rw [if_pos ⟨rfl, by omega⟩]
    exact ⟨B, b, C, c, fun q hq => h3 q hq, hn.keep (put6_keep hX _ _ _ _ _ _)⟩
  · rw [if_neg (fun h => e h.1)]
    obtain ⟨B', b', C', c', h5, h6⟩ := h.new j hj
    exact ⟨B', b', C', c', fun q hq => by rw [h4 _ (by omega)]; exact h5 q hq, h6.keep (put6_keep hX _ _ _ _ _ _)⟩
theorem Half.setCell {w : World} {X : Nat → Prop} {G m : Nat} {l : List Nd} {cs : Array Value} (h : Half w X G m l m cs) {p : Addr} (hp : ¬ X p.block) (hG : G ≠ p.block) (u : Value) : Half (w.setCell p u) X G m l m cs := by
  refine ⟨h.lies.far hG u, h.size, fun j hj => ?_, fun j hj hjm => absurd hjm (by omega)⟩
  obtain ⟨B, b, C, c, h5, h6⟩ := h.new j hj
  exact ⟨B, b, C, c, h5, h6.keep (keep_set p u hp)⟩
set_option maxHeartbeats 16000000 in
theorem free_any (l : List Nd) (A : Option Addr) (m c : Nat) (cap at_ : Int) (w : World) (hm : m = l.length) (hm0 : 0 < m) (hm2 : m ≤ 100000) (hk : ∀ i, i < l.length → (ndAt l i).to.length ≤ 100000 ∧ (ndAt l i).alts.length ≤ 100000) (hN : NdsIn w AnyB l A) :
    Calls Tryd.prog 17 #[.agg #[.slice A m c, .int .i64 cap], .int .i64 at_] w (GivesNet (freeV l at_).1 cap [.int .i64 (freeV l at_).2] w) := by
  obtain ⟨W, hW⟩ : ∃ W, W = ((w.alloc (.cells #[.slice A m c, .int .i64 cap] 24)).alloc (.cells #[.slice none 0 0, .int .i64 0] 24)) := ⟨_, rfl⟩
  have hbW : Below w.heap.size w W := by rw [hW]; exact ((Below.refl _ w).alloc (Nat.le_refl _) _).alloc (by simp) _
  have hWs : W.heap.size = w.heap.size + 2 := by rw [hW]; simp
  have L1 : Lies W w.heap.size 24 #[.slice A m c, .int .i64 cap] := by rw [hW]; exact (Lies.new _ _ _).old _
  have R1 : Lies W (w.heap.size + 1) 24 #[.slice none 0 0, .int .i64 0] := by rw [hW]; simpa using Lies.new (w.alloc (.cells #[.slice A m c, .int .i64 cap] 24)) 24 #[.slice none 0 0, .int .i64 0]
  have HC := Lib.hid ((net_any l A m c cap W hm hm0 hm2 hk (hN.below hbW (Nat.le_refl _))).mono fun _ _ h => h.c)
  obtain ⟨x0, x1⟩ := two_cells L1
  have HM := Lib.hid hm
  obtain ⟨ns', hns⟩ : ∃ ns', ns' = (freeV l at_).1 := ⟨_, rfl⟩
  obtain ⟨er, her⟩ : ∃ er, er = (freeV l at_).2 := ⟨_, rfl⟩
  rw [← hns, ← her]
  have HNS := Lib.hid hns
  have HER := Lib.hid her
  clear hN hm hns her hk
  go_enter Tryd.func17, Tryd.ntmps17
  go_upto_region 1 with fail
  rw [← hW]
  clear hW
  go_wp2_with fail
  refine HC.out.mono ?_
  rintro e w2 ⟨G, c', cs, rfl, hH, hcs, hmc, hcm, hGb, hb2⟩
  have L2 := L1.below hb2 (by omega)
  have R2 := R1.below hb2 (by omega)
  obtain ⟨y0, y1⟩ := two_cells L2
  have f0 := L2.frozen 0
  have f1 := L2.frozen 1
  have HL2 := Lib.hid L2
  have HR2 := Lib.hid R2
  clear HC x0 x1 L1 R1 L2 R2
  go_upto_region 2 with fail
  obtain ⟨V, hV⟩ : ∃ V, V = (w2.setCell ⟨w.heap.size, 0, none⟩ (.slice (some ⟨G, 0, none⟩) m c')).setCell ⟨w.heap.size, 1, none⟩ (.int .i64 cap) := ⟨_, rfl⟩
  have L3 : Lies V w.heap.size 24 #[.slice (some ⟨G, 0, none⟩) m c', .int .i64 cap] := by
    rw [hV]
    exact lies_put2 HL2.out _ _
  have R3 : Lies V (w.heap.size + 1) 24 #[.slice none 0 0, .int .i64 0] := by rw [hV]; exact (HR2.out.far (p := ⟨w.heap.size, 0, none⟩) (by simp) _).far (p := ⟨w.heap.size, 1, none⟩) (by simp) _
  have hb3 : Below w.heap.size w V := by rw [hV]; exact ((hbW.trans (hb2.mono hbW.size)).setCell (p := ⟨w.heap.size, 0, none⟩) (Nat.le_refl _) _).setCell (p := ⟨w.heap.size, 1, none⟩) (Nat.le_refl _) _
  have hH3 : Half V (fun g => W.heap.size ≤ g ∧ g ≠ G) G m l m cs := by rw [hV]; exact (hH.setCell (by show ¬ (W.heap.size ≤ w.heap.size ∧ _); omega) (by show G ≠ w.heap.size; omega) _).setCell (by show ¬ (W.heap.size ≤ w.heap.size ∧ _); omega) (by show G ≠ w.heap.size; omega) _
  rw [← hV]
  clear hV f0 f1 HL2 HR2 hb2 hbW hH y0 y1
  have HN3 := Lib.hid (hH3.row (Y := AnyB) HM.out trivial (fun _ _ _ => trivial))
  obtain ⟨z0, z1⟩ := two_cells L3
  obtain ⟨t0, t1⟩ := two_cells R3
  have s0 := R3.frozen 0
  have s1 := R3.frozen 1
  have HL3 := Lib.hid L3
  have HR3 := Lib.hid R3
  have HH3 := Lib.hid hH3
  have hGlt := hH3.lies.lt
  clear L3 R3 hH3
  by_cases k1 : at_ < 0
  · have e1 : decide (at_ < 0) = true := decide_eq_true k1
    have HE : Hid (freeV l at_ = (l, 122)) := Lib.hid (by rw [freeV, if_neg (by omega)])
    go_wp2_with fail
    have hR9 := lies_put2 HR3.out (.slice (some ⟨G, 0, none⟩) m c') (.int .i64 cap)
    refine bodyPost_ret (res_net2 (p := 4) Tryd.results17 rfl hR9) rfl ⟨some ⟨G, 0, none⟩, c', ?_, ?_, (hb3.setCell (p := ⟨w.heap.size + 1, 0, none⟩) (Nat.le_succ _) _).setCell (p := ⟨w.heap.size + 1, 1, none⟩) (Nat.le_succ _) _⟩
    · rw [HNS.out, HER.out, HE.out]
      simp only [netv, ← HM.out, capN_of hmc]
      rfl
    · rw [HNS.out, HE.out]
      exact ((HH3.out.row (Y := fun g => W.heap.size ≤ g) HM.out hGb (fun _ h _ => h.1)).keep (keep_set _ _ (by show ¬ W.heap.size ≤ w.heap.size + 1; omega))).keep (keep_set _ _ (by show ¬ W.heap.size ≤ w.heap.size + 1; omega)) |>.keep (keep_wide fun q hq _ => by omega)
  · have e1 : decide (at_ < 0) = false := decide_eq_false k1
    obtain ⟨i, rfl⟩ : ∃ i : Nat, at_ = (i : Int) := ⟨at_.toNat, by omega⟩
    by_cases k2 : m ≤ i
    · have e2 : decide ((m : Int) ≤ (i : Int)) = true := decide_eq_true (by omega)
      have HE : Hid (freeV l (i : Int) = (l, 122)) := Lib.hid (by rw [freeV, if_neg (by have := HM.out; omega)])
      go_wp2_with fail
      have hR9 := lies_put2 HR3.out (.slice (some ⟨G, 0, none⟩) m c') (.int .i64 cap)
      refine bodyPost_ret (res_net2 (p := 4) Tryd.results17 rfl hR9) rfl ⟨some ⟨G, 0, none⟩, c', ?_, ?_, (hb3.setCell (p := ⟨w.heap.size + 1, 0, none⟩) (Nat.le_succ _) _).setCell (p := ⟨w.heap.size + 1, 1, none⟩) (Nat.le_succ _) _⟩
      · rw [HNS.out, HER.out, HE.out]
        simp only [netv, ← HM.out, capN_of hmc]
        rfl
      · rw [HNS.out, HE.out]
        exact ((HH3.out.row (Y := fun g => W.heap.size ≤ g) HM.out hGb (fun _ h _ => h.1)).keep (keep_set _ _ (by show ¬ W.heap.size ≤ w.heap.size + 1; omega))).keep (keep_set _ _ (by show ¬ W.heap.size ≤ w.heap.size + 1; omega)) |>.keep (keep_wide fun q hq _ => by omega)
    · have e2 : decide ((m : Int) ≤ (i : Int)) = false := decide_eq_false (by omega)
      have him : i < m := by omega
      have hil : i < l.length := by have := HM.out; omega
      obtain ⟨g9, o9, x, B, bb, C, cc, hx, hgo, _, ⟨x0, x1, x2, x3, x4, x5⟩, hI⟩ := NdsIn.get HN3.out i hil
      cases hgo
      have HX := Lib.hid hx
      have HF := Lib.hid (isFree_any x B C bb cc V)
      unfold ndv at HF
      clear hx hI
      simp only [Nat.zero_add] at x0 x1 x2 x3 x4 x5
      cases hk0 : (x.kind == 0) with
      | true =>
        rw [hk0] at HF
        have HE : Hid (freeV l (i : Int) = (l, 122)) := Lib.hid (by
          rw [freeV, if_neg]
          rw [Int.toNat_natCast, ← HX.out]
          have : x.kind = 0 := by simpa using hk0
          rw [this]
          simp)
        clear hk0
        go_wp2_with fail
        refine HF.out.mono ?_
        rintro e w4 ⟨rfl, hb4⟩
        have L4 := HL3.out.below hb4 HL3.out.lt
        have R4 := HR3.out.below hb4 HR3.out.lt
        have hH4 := HH3.out.below hb4 (Nat.le_refl _)
        have hb5 := hb3.trans (hb4.mono hb3.size)
        obtain ⟨p0, p1⟩ := two_cells L4
        obtain ⟨t0', t1'⟩ := two_cells R4
        have u0 := R4.frozen 0
        have u1 := R4.frozen 1
        have HR4 := Lib.hid R4
        have HH4 := Lib.hid hH4
        clear HF z0 z1 t0 t1 s0 s1 L4 R4 hH4
        go_wp2_with fail
        have hR9 := lies_put2 HR4.out (.slice (some ⟨G, 0, none⟩) m c') (.int .i64 cap)
        refine bodyPost_ret (res_net2 (p := 4) Tryd.results17 rfl hR9) rfl ⟨some ⟨G, 0, none⟩, c', ?_, ?_, (hb5.setCell (p := ⟨w.heap.size + 1, 0, none⟩) (Nat.le_succ _) _).setCell (p := ⟨w.heap.size + 1, 1, none⟩) (Nat.le_succ _) _⟩
        · rw [HNS.out, HER.out, HE.out]
          simp only [netv, ← HM.out, capN_of hmc]
          rfl
        · rw [HNS.out, HE.out]
          exact ((HH4.out.row (Y := fun g => W.heap.size ≤ g) HM.out hGb (fun _ h _ => h.1)).keep (keep_set _ _ (by show ¬ W.heap.size ≤ w.heap.size + 1; omega))).keep (keep_set _ _ (by show ¬ W.heap.size ≤ w.heap.size + 1; omega)) |>.keep (keep_wide fun q hq _ => by omega)
      | false =>
        rw [hk0] at HF
        have HE : Hid (freeV l (i : Int) = (trimV (l.set i Nd.zero), 0)) := Lib.hid (by
          rw [freeV, if_pos, Int.toNat_natCast]
          refine ⟨by omega, by omega, ?_⟩
          rw [Int.toNat_natCast, ← HX.out]
          simpa using hk0)
        clear hk0
        go_wp2_with fail
        refine HF.out.mono ?_
        rintro e w4 ⟨rfl, hb4⟩
        have L4 := HL3.out.below hb4 HL3.out.lt
        have R4 := HR3.out.below hb4 HR3.out.lt
        have hH4 := HH3.out.below hb4 (Nat.le_refl _)
        have hb5 := hb3.trans (hb4.mono hb3.size)
        obtain ⟨p0, p1⟩ := two_cells L4
        have v0 := (hb4.cell (p := ⟨G, i * 6, none⟩) hGlt).trans x0
        have v1 := (hb4.cell (p := ⟨G, i * 6 + 1, none⟩) hGlt).trans x1
        have v2 := (hb4.cell (p := ⟨G, i * 6 + 2, none⟩) hGlt).trans x2
        have v3 := (hb4.cell (p := ⟨G, i * 6 + 3, none⟩) hGlt).trans x3
        have v4 := (hb4.cell (p := ⟨G, i * 6 + 4, none⟩) hGlt).trans x4
        have v5 := (hb4.cell (p := ⟨G, i * 6 + 5, none⟩) hGlt).trans x5
        have r0 := hH4.lies.frozen (i * 6)
        have r1 := hH4.lies.frozen (i * 6 + 1)
        have r2 := hH4.lies.frozen (i * 6 + 2)
        have r3 := hH4.lies.frozen (i * 6 + 3)
        have r4 := hH4.lies.frozen (i * 6 + 4)
        have r5 := hH4.lies.frozen (i * 6 + 5)
        have HL4 := Lib.hid L4
        have HR4 := Lib.hid R4
        have HH4 := Lib.hid hH4
        clear HF z0 z1 t0 t1 s0 s1 L4 R4 hH4 x0 x1 x2 x3 x4 x5 e1 e2
        go_upto_region 5 with fail
        have hS := HH4.out.set1 HM.out him (fun h => h.2 rfl) (x := Nd.zero) (B := none) (C := none) 0 0 NdIn.zero
        obtain ⟨U, hU⟩ : ∃ U, U = put6 w4 G (i * 6) (.int .i64 0) (.int .i64 0) (.int .i64 0) (.string ⟨#[]⟩) (.slice none 0 0) (.slice none 0 0) := ⟨_, rfl⟩
        replace hS : ∃ cs', Half U (fun g => W.heap.size ≤ g ∧ g ≠ G) G m (l.set i Nd.zero) m cs' ∧ cs'.size = cs.size := by rw [hU]; exact hS
        obtain ⟨cs', hS, _⟩ := hS
        have hb6 : Below w.heap.size w U := by rw [hU]; exact put6_below hb5 (by omega) _ _ _ _ _ _
        have hnot : ∀ g, g < w.heap.size + 2 → ∀ k, U.cell? ⟨g, k, none⟩ = w4.cell? ⟨g, k, none⟩ := fun g hg k => by
          rw [hU]
          by_cases hgw : g < w4.heap.size
          · exact (put6_keep (X := fun q => q = g) (by show ¬ G = g; omega) _ _ _ _ _ _ g k rfl hgw).1
          · exact absurd HR4.out.lt (by omega)
        have L6 : Lies U w.heap.size 24 #[.slice (some ⟨G, 0, none⟩) m c', .int .i64 cap] := by
          rw [hU]
          have hne : w.heap.size ≠ G := by omega
          exact (((((HL4.out.far (p := ⟨G, _, none⟩) hne _).far (p := ⟨G, _, none⟩) hne _).far (p := ⟨G, _, none⟩) hne _).far (p := ⟨G, _, none⟩) hne _).far (p := ⟨G, _, none⟩) hne _).far (p := ⟨G, _, none⟩) hne _
        have R6 : Lies U (w.heap.size + 1) 24 #[.slice none 0 0, .int .i64 0] := by
          rw [hU]
          have hne : w.heap.size + 1 ≠ G := by omega
          exact (((((HR4.out.far (p := ⟨G, _, none⟩) hne _).far (p := ⟨G, _, none⟩) hne _).far (p := ⟨G, _, none⟩) hne _).far (p := ⟨G, _, none⟩) hne _).far (p := ⟨G, _, none⟩) hne _).far (p := ⟨G, _, none⟩) hne _
        rw [show ((((((w4.setCell ⟨G, i * 6, none⟩ (.int .i64 0)).setCell ⟨G, i * 6 + 1, none⟩ (.int .i64 0)).setCell ⟨G, i * 6 + 2, none⟩ (.int .i64 0)).setCell ⟨G, i * 6 + 3, none⟩ (.string ⟨#[]⟩)).setCell ⟨G, i * 6 + 4, none⟩ (.slice none 0 0)).setCell ⟨G, i * 6 + 5, none⟩ (.slice none 0 0)) = U from hU.symm]
        clear hU v0 v1 v2 v3 v4 v5 r0 r1 r2 r3 r4 r5 p0 p1 HL4 HR4 HH4 hnot
        have HT := Lib.hid (trimmed_any (l.set i Nd.zero) (some ⟨G, 0, none⟩) m c' U (by simp; exact HM.out) (by omega) hmc (hS.row (Y := AnyB) (by simp; exact HM.out) trivial (fun _ _ _ => trivial)))
        obtain ⟨p0, p1⟩ := two_cells L6
        have HS := Lib.hid hS
        have HL6 := Lib.hid L6
        have HR6 := Lib.hid R6
        obtain ⟨N, hN9⟩ : ∃ N, N = (trimV (l.set i Nd.zero)).length := ⟨_, rfl⟩
        rw [← hN9] at HT
        have HN9 := Lib.hid hN9
        have hNm : N ≤ m := by rw [hN9]; have := (trimV_take (l.set i Nd.zero)).2; simp at this; have := HM.out; omega
        clear hS L6 R6 hN9
        go_wp2_with fail
        refine HT.out.mono ?_
        rintro e w7 ⟨rfl, hb7⟩
        have L7 := HL6.out.below hb7 HL6.out.lt
        have R7 := HR6.out.below hb7 HR6.out.lt
        have hS7 := HS.out.below hb7 (Nat.le_refl _)
        have hb8 := hb6.trans (hb7.mono hb6.size)
        have q0 := L7.frozen 0
        have q1 := (two_cells L7).1
        have HL7 := Lib.hid L7
        have HR7 := Lib.hid R7
        have HS7 := Lib.hid hS7
        clear HT p0 p1 L7 R7 hS7 HL6 HR6
        go_upto_region 6 with fail
        obtain ⟨Z, hZ⟩ : ∃ Z, Z = w7.setCell ⟨w.heap.size, 0, none⟩ (.slice (some ⟨G, 0, none⟩) N c') := ⟨_, rfl⟩
        have L8 : Lies Z w.heap.size 24 #[.slice (some ⟨G, 0, none⟩) N c', .int .i64 cap] := by
          rw [hZ]
          have := HL7.out.put 0 (.slice (some ⟨G, 0, none⟩) N c')
          simpa using this
        have R8 : Lies Z (w.heap.size + 1) 24 #[.slice none 0 0, .int .i64 0] := by rw [hZ]; exact HR7.out.far (p := ⟨w.heap.size, 0, none⟩) (by simp) _
        have hb9 : Below w.heap.size w Z := by rw [hZ]; exact hb8.setCell (p := ⟨w.heap.size, 0, none⟩) (Nat.le_refl _) _
        have hS8 : Half Z (fun g => W.heap.size ≤ g ∧ g ≠ G) G m (l.set i Nd.zero) m cs' := by rw [hZ]; exact HS7.out.setCell (by show ¬ (W.heap.size ≤ w.heap.size ∧ _); omega) (by show G ≠ w.heap.size; omega) _
        rw [← hZ]
        clear hZ q0 q1 HL7 HR7 HS7
        obtain ⟨p0, p1⟩ := two_cells L8
        obtain ⟨t0', t1'⟩ := two_cells R8
        have u0 := R8.frozen 0
        have u1 := R8.frozen 1
        have HR8 := Lib.hid R8
        have HS8 := Lib.hid hS8
        clear L8 R8 hS8
        go_wp2_with fail
        have hR9 := lies_put2 HR8.out (.slice (some ⟨G, 0, none⟩) N c') (.int .i64 cap)
        refine bodyPost_ret (res_net2 (p := 4) Tryd.results17 rfl hR9) rfl ⟨some ⟨G, 0, none⟩, c', ?_, ?_, (hb9.setCell (p := ⟨w.heap.size + 1, 0, none⟩) (Nat.le_succ _) _).setCell (p := ⟨w.heap.size + 1, 1, none⟩) (Nat.le_succ _) _⟩
        · rw [HNS.out, HER.out, HE.out]
          simp only [netv, ← HN9.out, capN_of (Nat.le_trans hNm hmc)]
          rfl
        · rw [HNS.out, HE.out]
          have hrow := (((HS8.out.row (Y := fun g => W.heap.size ≤ g) (by simp; exact HM.out) hGb (fun _ h _ => h.1)).keep (keep_set ⟨w.heap.size + 1, 0, none⟩ (.slice (some ⟨G, 0, none⟩) N c') (by show ¬ W.heap.size ≤ w.heap.size + 1; omega))).keep (keep_set ⟨w.heap.size + 1, 1, none⟩ (.int .i64 cap) (by show ¬ W.heap.size ≤ w.heap.size + 1; omega))).keep (Y := fun g => w.heap.size ≤ g) (keep_wide fun q hq _ => by omega)
          have h9 := hrow.take (trimV (l.set i Nd.zero)).length
          rw [← (trimV_take (l.set i Nd.zero)).1] at h9
          exact h9
end Lx
end Go.Proofs.YtceblpjlklogpaaDoor
namespace Go.Proofs.YtceblpjlklogpaaDoor
open Go Go.RowKit
namespace Lx
set_option maxRecDepth 100000
def zero6 : List Value := [.int .i64 0, .int .i64 0, .int .i64 0, .string ⟨#[]⟩, .slice none 0 0, .slice none 0 0]
/-- The first cells of a row of nodes, and a free place behind them. -/
theorem half_snoc {w w' : World} {X X' : Nat → Prop} {G G' m : Nat} {l : List Nd} {cs cs' : Array Value} (h : Half w X G m l m cs) (hm : m = l.length) (hL : Lies w' G' 28 cs') (hs : (m + 1) * 6 ≤ cs'.size)
    (htk : cs'.toList.take ((m + 1) * 6) = cs.toList.take (m * 6) ++ zero6) (hk : ∀ g j, X g → g < w.heap.size → w'.cell? ⟨g, j, none⟩ = w.cell? ⟨g, j, none⟩ ∧ X' g) : Half w' X' G' (m + 1) (l ++ [Nd.zero]) (m + 1) cs' := by
  have hsz := h.size
  have hcell : ∀ k, k < (m + 1) * 6 → cs'[k]? = (cs.toList.take (m * 6) ++ zero6)[k]? := fun k hk => by
    rw [← htk, List.getElem?_take_of_lt hk]
    simp
  have hlen : (cs.toList.take (m * 6)).length = m * 6 := by simp; omega
  refine ⟨hL, hs, fun j hj => ?_, fun j hj hjm => absurd hjm (by omega)⟩
  rw [ndAt_snoc]
  by_cases e : j = l.length
  · rw [if_pos e]
    refine ⟨none, 0, none, 0, fun q hq => ?_, NdIn.zero⟩
    rw [hcell _ (by omega), List.getElem?_append_right (by omega), hlen, show j * 6 + q - m * 6 = q by omega]
    rfl
  · rw [if_neg e]
    obtain ⟨B, b, C, c, h5, h6⟩ := h.new j (by omega)
    refine ⟨B, b, C, c, fun q hq => ?_, h6.keep hk⟩
    rw [hcell _ (by omega), List.getElem?_append_left (by omega), List.getElem?_take_of_lt (by omega), ← h5 q hq]
    simp
set_option maxHeartbeats 2000000 in
theorem wp_append_zero {ops : Array Oper} {rest : List Oper} {o : Oper} {a : Act} {w : World} {Q : Exit → Act → World → Prop} (hgd : o.guard = none) (s x : Operand)
    (ho : o.op = .call { callee := .builtin .append, args := #[s, x], argTypes := #[22, 22] })
    (base G m c' : Nat) (l : List Nd) (cs : Array Value) (hH : Half w (fun g => base ≤ g ∧ g ≠ G) G m l m cs) (hm : m = l.length) (hcs : cs.size = c' * 6) (hmc : m ≤ c') (hcm : c' ≤ maxLen) (hGb : base ≤ G) (hm2 : m ≤ 100000) (hbase : base ≤ w.heap.size)
    (hs : a.eval s = .slice (some ⟨G, 0, none⟩) m c') (Z : Nat) (hx : a.eval x = .slice (some ⟨Z, 0, none⟩) 1 1) (hZ : Lies w Z 28 #[.int .i64 0, .int .i64 0, .int .i64 0, .string ⟨#[]⟩, .slice none 0 0, .slice none 0 0])
    (h : ∀ G2 c2 cs2 w', Half w' (fun g => base ≤ g ∧ g ≠ G2) G2 (m + 1) (l ++ [Nd.zero]) (m + 1) cs2 → cs2.size = c2 * 6 → m + 1 ≤ c2 → c2 ≤ maxLen → base ≤ G2 → w.grownBy w' (some G) → wpList Tryd.prog ops Q rest (a.put o.dst (.slice (some ⟨G2, 0, none⟩) (m + 1) c2)) w') : wpList Tryd.prog ops Q (o :: rest) a w := by
  obtain ⟨i0, hi, hz0, hz1, hz2⟩ := info_partsN infoNd
  have hsz := hH.size
  have hnews : ∀ j u, zero6[j]? = some u → w.cell? ((⟨Z, 0, none⟩ : Addr).add j) = some u := fun j u hu => by
    rw [nadd, Nat.zero_add, hZ.cell j]
    simpa [zero6] using hu
  have hone : ∀ u ∈ zero6, u.oneCell' = true := by decide
  have hown : w.ownsRow base 28 6 (.slice (some ⟨G, 0, none⟩) m c') m (cs.toList.take (m * 6)) :=
    ⟨by simp; omega, .inr ⟨G, c', cs, rfl, hGb, hH.lies, hmc, hcm, hcs, rfl⟩⟩
  by_cases hroom : m + 1 ≤ c'
  · refine wpList_plain hgd fun _ hK => wp_append_own_spare w s x 22 ho base 28 i0 6 Tryd.underlying22 hi hz1 G m c' (cs.toList.take (m * 6)) hs hown ⟨Z, 0, none⟩ 1 1 zero6 hx rfl hnews hone hroom ?_
    intro w' ho' hg
    obtain ⟨cur, h1, h2, h3, h4, h5, h6⟩ := own_curC ho'
    refine hK _ _ (h G c' cur w' ?_ h3 hroom hcm hGb hg)
    exact half_snoc hH hm h2 (by rw [h3]; omega) h4 (keep_grown hg (fun g e => by cases e; exact fun h => h.2 rfl))
  · refine wpList_append_grows w hgd s x 22 ho 28 i0 (.agg #[.int .i64 0, .int .i64 0, .int .i64 0, .string ⟨#[]⟩, .slice none 0 0, .slice none 0 0]) 6 88 Tryd.underlying22 hi hz0 hz1 hz2 rfl (by decide) (some ⟨G, 0, none⟩) m c' (cs.toList.take (m * 6)) hs (fun e => by cases e) (by simp; omega) (fun b e j u hu => ?_) ⟨Z, 0, none⟩ 1 1 zero6 hx rfl hnews hone (by omega) (by unfold maxLen; omega) (by omega) ?_
    · cases e
      rw [nadd, Nat.zero_add, hH.lies.cell j]
      have hj : j < m * 6 := by
        rcases Nat.lt_or_ge j (m * 6) with h | h
        · exact h
        · rw [List.getElem?_eq_none (by simp; omega)] at hu; cases hu
      rw [List.getElem?_take_of_lt hj] at hu
      simpa using hu
    · intro v' w' ho' hg
      have hv : v' ≠ .slice none 0 0 := fun e => by
        subst e
        rcases ho'.2 with ⟨_, h9⟩ | ⟨_, _, _, h9, _⟩
        · omega
        · cases h9
      obtain ⟨G2, c2, rfl⟩ := own_sliceN ho' hv
      obtain ⟨cur, h1, h2, h3, h4, h5, h6⟩ := own_curC ho'
      refine h G2 c2 cur w' ?_ h3 h1 h6 (by omega) ⟨hg.1, hg.2, hg.3, hg.4, fun k hk _ => hg.block k hk (by simp)⟩
      refine half_snoc hH hm h2 (by rw [h3]; exact Nat.mul_le_mul_right 6 h1) h4 (fun g j hX hlt => ?_)
      obtain ⟨h7, _⟩ := keep_grown hg (X := fun _ => True) (fun g e => by cases e) g j trivial hlt
      exact ⟨h7, hX.1, by omega⟩
end Lx
end Go.Proofs.YtceblpjlklogpaaDoor
namespace Go.Proofs.YtceblpjlklogpaaDoor
open Go Go.RowKit
namespace Lx
set_option maxRecDepth 100000
theorem not_makeable {x : Nd} (h : ¬ (2 ≤ x.kind ∧ nodeV x = true)) (l : List Nd) (cap : Int) : makeV l cap x = (l, 0, 122) := by
  rw [makeV, if_neg]
  simp only [makeable, Bool.and_eq_true, decide_eq_true_eq]
  exact h
theorem lies_grown {w w' : World} {g G : Nat} {t : TypeId} {cs : Array Value} (h : Lies w g t cs) (hg : w.grownBy w' (some G)) (hne : g ≠ G) : Lies w' g t cs :=
  (hg.block g h.lt (fun e => hne (by injection e))).trans h
theorem makeV_some {l : List Nd} {cap : Int} {x : Nd} {i : Nat} (hx : makeable x = true) (hu : (usedV l : Int) < cap) (hf : freeAt l = some i) : makeV l cap x = (l.set i (freshV x), (i : Int), 0) := by
  rw [makeV, if_pos hx, if_pos hu, hf]
theorem makeV_none {l : List Nd} {cap : Int} {x : Nd} (hx : makeable x = true) (hu : (usedV l : Int) < cap) (hf : freeAt l = none) : makeV l cap x = (l ++ [freshV x], (l.length : Int), 0) := by
  rw [makeV, if_pos hx, if_pos hu, hf]
theorem node_kind {x : Nd} (h : nodeV x = true) : 0 ≤ x.kind := by
  simp only [nodeV, Bool.and_eq_true, decide_eq_true_eq] at h
  exact h.1.1
set_option maxHeartbeats 16000000 in
theorem make_any (l : List Nd) (A : Option Addr) (m c : Nat) (cap : Int) (x : Nd) (B C : Option Addr) (b cx : Nat) (w : World) (hm : m = l.length) (hm0 : 0 < m) (hm2 : m ≤ 99999) (hk : ∀ i, i < l.length → (ndAt l i).to.length ≤ 100000 ∧ (ndAt l i).alts.length ≤ 100000) (hN : NdsIn w AnyB l A)
    (hI : NdIn w AnyB x B C) (hp : x.ports ≤ 100000) (hal : x.alts.length ≤ 100000) (hT : PTab w) :
    Calls Tryd.prog 12 #[.agg #[.slice A m c, .int .i64 cap], ndv x B b C cx] w (GivesNet (makeV l cap x).1 cap [.int .i64 (makeV l cap x).2.1, .int .i64 (makeV l cap x).2.2] w) := by
  obtain ⟨W, hW⟩ : ∃ W, W = (((w.alloc (.cells #[.slice A m c, .int .i64 cap] 24)).alloc (.cells #[.int .i64 x.kind, .int .i64 x.level, .int .i64 x.n, .string x.name, .slice B x.alts.length (capN x.alts.length b), .slice C x.to.length (capN x.to.length cx)] 28)).alloc (.cells #[.slice none 0 0, .int .i64 0] 24)) := ⟨_, rfl⟩
  have hbW : Below w.heap.size w W := by rw [hW]; exact (((Below.refl _ w).alloc (Nat.le_refl _) _).alloc (by simp) _).alloc (by simp; omega) _
  have hWs : W.heap.size = w.heap.size + 3 := by rw [hW]; simp
  have L1 : Lies W w.heap.size 24 #[.slice A m c, .int .i64 cap] := by rw [hW]; exact ((Lies.new _ _ _).old _).old _
  have X1 : Lies W (w.heap.size + 1) 28 #[.int .i64 x.kind, .int .i64 x.level, .int .i64 x.n, .string x.name, .slice B x.alts.length (capN x.alts.length b), .slice C x.to.length (capN x.to.length cx)] := by rw [hW]; exact (lies_at (by simp)).old _
  have R1 : Lies W (w.heap.size + 2) 24 #[.slice none 0 0, .int .i64 0] := by rw [hW]; exact lies_at (by simp)
  have HC := Lib.hid ((net_any l A m c cap W hm hm0 (by omega) hk (hN.below hbW (Nat.le_refl _))).mono fun _ _ h => h.c)
  obtain ⟨n0, n1⟩ := two_cells L1
  have HM := Lib.hid hm
  have HI := Lib.hid hI
  have HT := Lib.hid hT
  obtain ⟨ns', hns⟩ : ∃ ns', ns' = (makeV l cap x).1 := ⟨_, rfl⟩
  obtain ⟨pl, hpl⟩ : ∃ er, er = (makeV l cap x).2.1 := ⟨_, rfl⟩
  obtain ⟨er, her⟩ : ∃ er, er = (makeV l cap x).2.2 := ⟨_, rfl⟩
  rw [← hns, ← hpl, ← her]
  have HM1 := Lib.hid hns
  have HM2 := Lib.hid hpl
  have HM3 := Lib.hid her
  clear hN hm hns hpl her hk hI hT
  unfold ndv
  go_enter Tryd.func12, Tryd.ntmps12
  go_upto_region 1 with fail
  rw [← hW]
  clear hW
  go_wp2_with fail
  refine HC.out.mono ?_
  rintro e w2 ⟨G, c', cs, rfl, hH, hcs, hmc, hcm, hGb, hb2⟩
  have L2 := L1.below hb2 (by omega)
  have X2 := X1.below hb2 (by omega)
  have R2 := R1.below hb2 (by omega)
  obtain ⟨y0, y1⟩ := two_cells L2
  have f0 := L2.frozen 0
  have f1 := L2.frozen 1
  have HL2 := Lib.hid L2
  have HX2 := Lib.hid X2
  have HR2 := Lib.hid R2
  clear HC n0 n1 L1 X1 R1 L2 X2 R2
  go_upto_region 2 with fail
  obtain ⟨V, hV⟩ : ∃ V, V = (w2.setCell ⟨w.heap.size, 0, none⟩ (.slice (some ⟨G, 0, none⟩) m c')).setCell ⟨w.heap.size, 1, none⟩ (.int .i64 cap) := ⟨_, rfl⟩
  have HLN : Hid (Lies V w.heap.size 24 #[.slice (some ⟨G, 0, none⟩) m c', .int .i64 cap]) := Lib.hid (by
    rw [hV]
    exact lies_put2 HL2.out _ _)
  have HLX : Hid (Lies V (w.heap.size + 1) 28 #[.int .i64 x.kind, .int .i64 x.level, .int .i64 x.n, .string x.name, .slice B x.alts.length (capN x.alts.length b), .slice C x.to.length (capN x.to.length cx)]) := Lib.hid (by rw [hV]; exact (HX2.out.far (p := ⟨w.heap.size, 0, none⟩) (by simp) _).far (p := ⟨w.heap.size, 1, none⟩) (by simp) _)
  have HLR : Hid (Lies V (w.heap.size + 2) 24 #[.slice none 0 0, .int .i64 0]) := Lib.hid (by rw [hV]; exact (HR2.out.far (p := ⟨w.heap.size, 0, none⟩) (by simp) _).far (p := ⟨w.heap.size, 1, none⟩) (by simp) _)
  have HBW : Hid (Below w.heap.size w V) := Lib.hid (by rw [hV]; exact ((hbW.trans (hb2.mono hbW.size)).setCell (p := ⟨w.heap.size, 0, none⟩) (Nat.le_refl _) _).setCell (p := ⟨w.heap.size, 1, none⟩) (Nat.le_refl _) _)
  have HHH : Hid (Half V (fun g => W.heap.size ≤ g ∧ g ≠ G) G m l m cs) := Lib.hid (by rw [hV]; exact (hH.setCell (by show ¬ (W.heap.size ≤ w.heap.size ∧ _); omega) (by show G ≠ w.heap.size; omega) _).setCell (by show ¬ (W.heap.size ≤ w.heap.size ∧ _); omega) (by show G ≠ w.heap.size; omega) _)
  have hVs : W.heap.size ≤ V.heap.size := by rw [hV]; simpa [World.setCell] using hb2.size
  rw [← hV]
  clear hV f0 f1 HL2 HX2 HR2 hb2 hbW hH y0 y1
  have HF := Lib.hid (isFree_any x B C b cx V)
  unfold ndv at HF
  obtain ⟨n0, n1⟩ := two_cells HLN.out
  obtain ⟨x0, x1, x2, x3, x4, x5⟩ := six_cells HLX.out
  cases hk0 : (x.kind == 0) with
  | true =>
    rw [hk0] at HF
    have HE : Hid (makeV l cap x = (l, 0, 122)) := Lib.hid (not_makeable (fun h => by
      have : x.kind = 0 := by simpa using hk0
      omega) l cap)
    clear hk0
    go_wp2_with fail
    refine HF.out.mono ?_
    rintro e w4 ⟨rfl, hb4⟩
    clear n0 n1 x0 x1 x2 x3 x4 x5
    replace HLN := Lib.hid (HLN.out.below hb4 HLN.out.lt)
    replace HLX := Lib.hid (HLX.out.below hb4 HLX.out.lt)
    replace HLR := Lib.hid (HLR.out.below hb4 HLR.out.lt)
    replace HHH := Lib.hid (HHH.out.below hb4 (Nat.le_refl _))
    replace HBW := Lib.hid (HBW.out.trans (hb4.mono HBW.out.size))
    obtain ⟨n0, n1⟩ := two_cells HLN.out
    obtain ⟨x0, x1, x2, x3, x4, x5⟩ := six_cells HLX.out
    obtain ⟨r0, r1⟩ := two_cells HLR.out
    have fr0 := HLR.out.frozen 0
    have fr1 := HLR.out.frozen 1
    clear HF
    go_wp2_with fail
    have hR9 := lies_put2 HLR.out (.slice (some ⟨G, 0, none⟩) m c') (.int .i64 cap)
    refine bodyPost_ret (res_net3 (p := 4) Tryd.results12 rfl hR9) rfl ⟨some ⟨G, 0, none⟩, c', ?_, ?_, (HBW.out.setCell (p := ⟨w.heap.size + 2, 0, none⟩) (by show w.heap.size ≤ w.heap.size + 2; omega) _).setCell (p := ⟨w.heap.size + 2, 1, none⟩) (by show w.heap.size ≤ w.heap.size + 2; omega) _⟩
    · rw [HM1.out, HM2.out, HM3.out, HE.out]
      simp only [netv]
      rw [show l.length = m from HM.out.symm, capN_of hmc]
      rfl
    · rw [HM1.out, HE.out]
      exact (((HHH.out.row (Y := fun g => W.heap.size ≤ g) HM.out hGb (fun _ h _ => h.1)).keep (keep_set ⟨w.heap.size + 2, 0, none⟩ _ (by show ¬ W.heap.size ≤ w.heap.size + 2; omega))).keep (keep_set ⟨w.heap.size + 2, 1, none⟩ _ (by show ¬ W.heap.size ≤ w.heap.size + 2; omega))).keep (keep_wide fun q hq _ => by omega)
  | false =>
    rw [hk0] at HF
    have HK0 := Lib.hid hk0
    clear hk0
    cases hk1 : (x.kind == 1) with
    | true =>
      have HE : Hid (makeV l cap x = (l, 0, 122)) := Lib.hid (not_makeable (fun h => by
        have : x.kind = 1 := by simpa using hk1
        omega) l cap)
      go_wp2_with fail
      refine HF.out.mono ?_
      rintro e w4 ⟨rfl, hb4⟩
      clear n0 n1 x0 x1 x2 x3 x4 x5
      replace HLN := Lib.hid (HLN.out.below hb4 HLN.out.lt)
      replace HLX := Lib.hid (HLX.out.below hb4 HLX.out.lt)
      replace HLR := Lib.hid (HLR.out.below hb4 HLR.out.lt)
      replace HHH := Lib.hid (HHH.out.below hb4 (Nat.le_refl _))
      replace HBW := Lib.hid (HBW.out.trans (hb4.mono HBW.out.size))
      obtain ⟨n0, n1⟩ := two_cells HLN.out
      obtain ⟨x0, x1, x2, x3, x4, x5⟩ := six_cells HLX.out
      obtain ⟨r0, r1⟩ := two_cells HLR.out
      have fr0 := HLR.out.frozen 0
      have fr1 := HLR.out.frozen 1
      clear HF
      go_wp2_with fail
      have hR9 := lies_put2 HLR.out (.slice (some ⟨G, 0, none⟩) m c') (.int .i64 cap)
      refine bodyPost_ret (res_net3 (p := 4) Tryd.results12 rfl hR9) rfl ⟨some ⟨G, 0, none⟩, c', ?_, ?_, (HBW.out.setCell (p := ⟨w.heap.size + 2, 0, none⟩) (by show w.heap.size ≤ w.heap.size + 2; omega) _).setCell (p := ⟨w.heap.size + 2, 1, none⟩) (by show w.heap.size ≤ w.heap.size + 2; omega) _⟩
      · rw [HM1.out, HM2.out, HM3.out, HE.out]
        simp only [netv]
        rw [show l.length = m from HM.out.symm, capN_of hmc]
        rfl
      · rw [HM1.out, HE.out]
        exact (((HHH.out.row (Y := fun g => W.heap.size ≤ g) HM.out hGb (fun _ h _ => h.1)).keep (keep_set ⟨w.heap.size + 2, 0, none⟩ _ (by show ¬ W.heap.size ≤ w.heap.size + 2; omega))).keep (keep_set ⟨w.heap.size + 2, 1, none⟩ _ (by show ¬ W.heap.size ≤ w.heap.size + 2; omega))).keep (keep_wide fun q hq _ => by omega)
    | false =>
      have hk1b : ¬ x.kind = 1 := by simpa using hk1
      go_wp2_with fail
      refine HF.out.mono ?_
      rintro e w4 ⟨rfl, hb4⟩
      clear HF
      clear n0 n1 x0 x1 x2 x3 x4 x5
      replace HLN := Lib.hid (HLN.out.below hb4 HLN.out.lt)
      replace HLX := Lib.hid (HLX.out.below hb4 HLX.out.lt)
      replace HLR := Lib.hid (HLR.out.below hb4 HLR.out.lt)
      replace HHH := Lib.hid (HHH.out.below hb4 (Nat.le_refl _))
      replace HBW := Lib.hid (HBW.out.trans (hb4.mono HBW.out.size))
      obtain ⟨n0, n1⟩ := two_cells HLN.out
      obtain ⟨x0, x1, x2, x3, x4, x5⟩ := six_cells HLX.out
      have HY := Lib.hid (mayIf_any x B C b cx w4 (HI.out.below HBW.out (Nat.le_refl _)))
      unfold ndv at HY
      have hVs4 := Nat.le_trans hVs hb4.size
      clear hb4 hVs
      cases hv : nodeV x with
      | false =>
        rw [hv] at HY
        have HE : Hid (makeV l cap x = (l, 0, 122)) := Lib.hid (not_makeable (fun h => by rw [hv] at h; cases h.2) l cap)
        clear hv
        go_wp2_with fail
        refine HY.out.mono ?_
        rintro e w5 ⟨rfl, hb5⟩
        clear n0 n1 x0 x1 x2 x3 x4 x5
        replace HLN := Lib.hid (HLN.out.below hb5 HLN.out.lt)
        replace HLX := Lib.hid (HLX.out.below hb5 HLX.out.lt)
        replace HLR := Lib.hid (HLR.out.below hb5 HLR.out.lt)
        replace HHH := Lib.hid (HHH.out.below hb5 (Nat.le_refl _))
        replace HBW := Lib.hid (HBW.out.trans (hb5.mono HBW.out.size))
        obtain ⟨n0, n1⟩ := two_cells HLN.out
        obtain ⟨x0, x1, x2, x3, x4, x5⟩ := six_cells HLX.out
        obtain ⟨r0, r1⟩ := two_cells HLR.out
        have fr0 := HLR.out.frozen 0
        have fr1 := HLR.out.frozen 1
        clear HY
        go_wp2_with fail
        have hR9 := lies_put2 HLR.out (.slice (some ⟨G, 0, none⟩) m c') (.int .i64 cap)
        refine bodyPost_ret (res_net3 (p := 4) Tryd.results12 rfl hR9) rfl ⟨some ⟨G, 0, none⟩, c', ?_, ?_, (HBW.out.setCell (p := ⟨w.heap.size + 2, 0, none⟩) (by show w.heap.size ≤ w.heap.size + 2; omega) _).setCell (p := ⟨w.heap.size + 2, 1, none⟩) (by show w.heap.size ≤ w.heap.size + 2; omega) _⟩
        · rw [HM1.out, HM2.out, HM3.out, HE.out]
          simp only [netv]
          rw [show l.length = m from HM.out.symm, capN_of hmc]
          rfl
        · rw [HM1.out, HE.out]
          exact (((HHH.out.row (Y := fun g => W.heap.size ≤ g) HM.out hGb (fun _ h _ => h.1)).keep (keep_set ⟨w.heap.size + 2, 0, none⟩ _ (by show ¬ W.heap.size ≤ w.heap.size + 2; omega))).keep (keep_set ⟨w.heap.size + 2, 1, none⟩ _ (by show ¬ W.heap.size ≤ w.heap.size + 2; omega))).keep (keep_wide fun q hq _ => by omega)
      | true =>
        rw [hv] at HY
        have HMK : Hid (makeable x = true) := Lib.hid (by
          have h0 := node_kind hv
          have h1 : x.kind ≠ 0 := by simpa using HK0.out
          have h2 : x.kind ≠ 1 := hk1b
          simp only [makeable, hv, Bool.and_true, decide_eq_true_eq]
          omega)
        clear hv
        go_wp2_with fail
        refine HY.out.mono ?_
        rintro e w5 ⟨rfl, hb5⟩
        clear HY hk1 hk1b
        clear n0 n1 x0 x1 x2 x3 x4 x5
        replace HLN := Lib.hid (HLN.out.below hb5 HLN.out.lt)
        replace HLX := Lib.hid (HLX.out.below hb5 HLX.out.lt)
        replace HLR := Lib.hid (HLR.out.below hb5 HLR.out.lt)
        replace HHH := Lib.hid (HHH.out.below hb5 (Nat.le_refl _))
        replace HBW := Lib.hid (HBW.out.trans (hb5.mono HBW.out.size))
        obtain ⟨n0, n1⟩ := two_cells HLN.out
        obtain ⟨x0, x1, x2, x3, x4, x5⟩ := six_cells HLX.out
        have hV5 := Nat.le_trans hVs4 hb5.size
        clear hb5 hVs4
        have q0 := Abv.cell n0
        have q1 := Abv.cell n1
        have HU : ∀ Z : Abv w5, Calls Tryd.prog 15 #[.agg #[.slice (some ⟨G, 0, none⟩) m c', .int .i64 cap]] Z.1 fun e w' => e = .returned (.int .i64 (usedV l)) ∧ Below Z.1.heap.size Z.1 w' :=
          fun Z => used_any l (some ⟨G, 0, none⟩) m c' cap Z.1 HM.out (by omega) ((HHH.out.row (Y := AnyB) HM.out trivial (fun _ _ _ => trivial)).below Z.2 (Nat.le_refl _))
        obtain ⟨us, hus⟩ : ∃ us, us = usedV l := ⟨_, rfl⟩
        rw [← hus] at HU
        have HUS := Lib.hid hus
        clear hus
        go_upto_region 4 with fail
        refine region_calm (by kernel_rfl) (by kernel_rfl) ?_
        repeat (go_big_quiet_step (exact calm_of (HU _)))
        refine wpQuiet_nil ?_
        rintro _ ⟨Z, rfl⟩
        clear HU q0 q1
        clear n0 n1 x0 x1 x2 x3 x4 x5
        replace HLN := Lib.hid (HLN.out.below Z.2 HLN.out.lt)
        replace HLX := Lib.hid (HLX.out.below Z.2 HLX.out.lt)
        replace HLR := Lib.hid (HLR.out.below Z.2 HLR.out.lt)
        replace HHH := Lib.hid (HHH.out.below Z.2 (Nat.le_refl _))
        replace HBW := Lib.hid (HBW.out.trans (Z.2.mono HBW.out.size))
        obtain ⟨n0, n1⟩ := two_cells HLN.out
        obtain ⟨x0, x1, x2, x3, x4, x5⟩ := six_cells HLX.out
        have hZs := Nat.le_trans hV5 Z.2.size
        obtain ⟨Z1, hZ1⟩ : ∃ Z1, Z1 = Z.1 := ⟨_, rfl⟩
        rw [← hZ1] at HLN HLX HLR HHH HBW hZs n0 n1 x0 x1 x2 x3 x4 x5 ⊢
        clear hZ1 Z hV5
        by_cases hu : cap ≤ (us : Int)
        · have e1 : decide (cap ≤ (us : Int)) = true := decide_eq_true hu
          have HE : Hid (makeV l cap x = (l, 0, 121)) := Lib.hid (by rw [makeV, if_pos HMK.out, if_neg (by rw [← HUS.out]; omega)])
          obtain ⟨r0, r1⟩ := two_cells HLR.out
          have fr0 := HLR.out.frozen 0
          have fr1 := HLR.out.frozen 1
          go_wp2_with fail
          have hR9 := lies_put2 HLR.out (.slice (some ⟨G, 0, none⟩) m c') (.int .i64 cap)
          refine bodyPost_ret (res_net3 (p := 4) Tryd.results12 rfl hR9) rfl ⟨some ⟨G, 0, none⟩, c', ?_, ?_, (HBW.out.setCell (p := ⟨w.heap.size + 2, 0, none⟩) (by show w.heap.size ≤ w.heap.size + 2; omega) _).setCell (p := ⟨w.heap.size + 2, 1, none⟩) (by show w.heap.size ≤ w.heap.size + 2; omega) _⟩
          · rw [HM1.out, HM2.out, HM3.out, HE.out]
            simp only [netv]
            rw [show l.length = m from HM.out.symm, capN_of hmc]
            rfl
          · rw [HM1.out, HE.out]
            exact (((HHH.out.row (Y := fun g => W.heap.size ≤ g) HM.out hGb (fun _ h _ => h.1)).keep (keep_set ⟨w.heap.size + 2, 0, none⟩ _ (by show ¬ W.heap.size ≤ w.heap.size + 2; omega))).keep (keep_set ⟨w.heap.size + 2, 1, none⟩ _ (by show ¬ W.heap.size ≤ w.heap.size + 2; omega))).keep (keep_wide fun q hq _ => by omega)
        · have e1 : decide (cap ≤ (us : Int)) = false := decide_eq_false hu
          have HCU : Hid ((usedV l : Int) < cap) := Lib.hid (by rw [← HUS.out]; omega)
          have HX9 := Lib.hid (indexN_any l (some ⟨G, 0, none⟩) m c' Z1 HM.out (by omega) (HHH.out.row (Y := AnyB) HM.out trivial (fun _ _ _ => trivial)))
          cases hf : freeAt l with
          | some i =>
            have hfi : freeI l = (i : Int) := by rw [freeI, hf]
            have hil := (freeAt_some hf).1
            have him : i < m := by have := HM.out; omega
            rw [hfi] at HX9
            have HE2 : Hid (makeV l cap x = (l.set i (freshV x), (i : Int), 0)) := Lib.hid (makeV_some HMK.out HCU.out hf)
            clear hf hfi hil e1
            go_wp2_with fail
            refine HX9.out.mono ?_
            rintro e w6 ⟨rfl, hb6⟩
            clear HX9
            clear n0 n1 x0 x1 x2 x3 x4 x5
            replace HLN := Lib.hid (HLN.out.below hb6 HLN.out.lt)
            replace HLX := Lib.hid (HLX.out.below hb6 HLX.out.lt)
            replace HLR := Lib.hid (HLR.out.below hb6 HLR.out.lt)
            replace HHH := Lib.hid (HHH.out.below hb6 (Nat.le_refl _))
            replace HBW := Lib.hid (HBW.out.trans (hb6.mono HBW.out.size))
            obtain ⟨n0, n1⟩ := two_cells HLN.out
            obtain ⟨x0, x1, x2, x3, x4, x5⟩ := six_cells HLX.out
            have hW6 := Nat.le_trans hZs hb6.size
            clear hb6 hZs
            go_upto_region 10 with fail
            have HFR := Lib.hid (fresh_any x B C b cx w6.drew hp ((HI.out.below HBW.out (Nat.le_refl _)).below ((Below.refl _ w6).drew) (Nat.le_refl _)) hal ((HT.out.below HBW.out (Nat.le_refl _)).below ((Below.refl _ w6).drew) (Nat.le_refl _)))
            have hln := HLN.out.lt
            have hlx := HLX.out.lt
            have hGl := HHH.out.lies.lt
            have hG1 : ¬ w.heap.size = G := by omega
            have hG2 : ¬ w.heap.size + 1 = G := by omega
            have hG3 : ¬ G = w.heap.size := by omega
            have hG4 : ¬ G = w.heap.size + 1 := by omega
            go_region_held3 (fun V => V.cell? ⟨w.heap.size, 0, none⟩ = some (.slice (some ⟨G, 0, none⟩) m c') ∧ V.cell? ⟨w.heap.size + 1, 0, none⟩ = some (.int .i64 x.kind) ∧ V.cell? ⟨w.heap.size + 1, 1, none⟩ = some (.int .i64 x.level) ∧ V.cell? ⟨w.heap.size + 1, 2, none⟩ = some (.int .i64 x.n) ∧ V.cell? ⟨w.heap.size + 1, 3, none⟩ = some (.string x.name) ∧ V.cell? ⟨w.heap.size + 1, 4, none⟩ = some (.slice B x.alts.length (capN x.alts.length b)) ∧ V.cell? ⟨w.heap.size + 1, 5, none⟩ = some (.slice C x.to.length (capN x.to.length cx)))
              (first | go_keep)
              ((first
                | (go_at_call 28
                   refine HFR.out.mono ?_
                   rintro e w7 ⟨B7, b7, C7, c7, he, hI7, hb7⟩
                   unfold ndv at he
                   subst he
                   have hb8 : Below w6.heap.size w6 w7 := (Below.refl _ w6).drew.trans hb7
                   have v0 := (hb8.cell (p := ⟨w.heap.size, 0, none⟩) hln).trans n0
                   have u0 := (hb8.cell (p := ⟨w.heap.size + 1, 0, none⟩) hlx).trans x0
                   have u1 := (hb8.cell (p := ⟨w.heap.size + 1, 1, none⟩) hlx).trans x1
                   have u2 := (hb8.cell (p := ⟨w.heap.size + 1, 2, none⟩) hlx).trans x2
                   have u3 := (hb8.cell (p := ⟨w.heap.size + 1, 3, none⟩) hlx).trans x3
                   have u4 := (hb8.cell (p := ⟨w.heap.size + 1, 4, none⟩) hlx).trans x4
                   have u5 := (hb8.cell (p := ⟨w.heap.size + 1, 5, none⟩) hlx).trans x5
                   have hH7 := HHH.out.below hb8 (Nat.le_refl _)
                   obtain ⟨B8, b8, C8, c8, hcq, _⟩ := hH7.new i (by omega)
                   have t0 := (hH7.lies.cell (i * 6)).trans (hcq 0 (by omega))
                   have t1 := (hH7.lies.cell (i * 6 + 1)).trans (hcq 1 (by omega))
                   have t2 := (hH7.lies.cell (i * 6 + 2)).trans (hcq 2 (by omega))
                   have t3 := (hH7.lies.cell (i * 6 + 3)).trans (hcq 3 (by omega))
                   have t4 := (hH7.lies.cell (i * 6 + 4)).trans (hcq 4 (by omega))
                   have t5 := (hH7.lies.cell (i * 6 + 5)).trans (hcq 5 (by omega))
                   simp only [cellsNd, List.getElem?_cons_zero, List.getElem?_cons_succ] at t0 t1 t2 t3 t4 t5
                   have fz0 := hH7.lies.frozen (i * 6)
                   have fz1 := hH7.lies.frozen (i * 6 + 1)
                   have fz2 := hH7.lies.frozen (i * 6 + 2)
                   have fz3 := hH7.lies.frozen (i * 6 + 3)
                   have fz4 := hH7.lies.frozen (i * 6 + 4)
                   have fz5 := hH7.lies.frozen (i * 6 + 5)
                   clear hcq)))
            have hS := hH7.set1 HM.out (show i < m by omega) (fun h => h.2 rfl) (x := freshV x) (B := B7) (C := C7) b7 c7 (hI7.keep (keep_wide fun q hq _ => by
              have hq2 : w6.heap.size ≤ q := hq
              omega))
            obtain ⟨U, hU⟩ : ∃ U, U = put6 w7 G (i * 6) (.int .i64 (freshV x).kind) (.int .i64 (freshV x).level) (.int .i64 (freshV x).n) (.string (freshV x).name) (.slice B7 (freshV x).alts.length (capN (freshV x).alts.length b7)) (.slice C7 (freshV x).to.length (capN (freshV x).to.length c7)) := ⟨_, rfl⟩
            replace hS : ∃ cs', Half U (fun g => W.heap.size ≤ g ∧ g ≠ G) G m (l.set i (freshV x)) m cs' ∧ cs'.size = cs.size := by rw [hU]; exact hS
            obtain ⟨cs', hS, _⟩ := hS
            have hlr := HLR.out.lt
            replace HLN : Hid (Lies U w.heap.size 24 #[.slice (some ⟨G, 0, none⟩) m c', .int .i64 cap]) := Lib.hid (by
              rw [hU]
              have hne : w.heap.size ≠ G := by omega
              exact ((((((HLN.out.below hb8 hln).far (p := ⟨G, _, none⟩) hne _).far (p := ⟨G, _, none⟩) hne _).far (p := ⟨G, _, none⟩) hne _).far (p := ⟨G, _, none⟩) hne _).far (p := ⟨G, _, none⟩) hne _).far (p := ⟨G, _, none⟩) hne _)
            replace HLR : Hid (Lies U (w.heap.size + 2) 24 #[.slice none 0 0, .int .i64 0]) := Lib.hid (by
              rw [hU]
              have hne : w.heap.size + 2 ≠ G := by omega
              exact ((((((HLR.out.below hb8 hlr).far (p := ⟨G, _, none⟩) hne _).far (p := ⟨G, _, none⟩) hne _).far (p := ⟨G, _, none⟩) hne _).far (p := ⟨G, _, none⟩) hne _).far (p := ⟨G, _, none⟩) hne _).far (p := ⟨G, _, none⟩) hne _)
            replace HBW : Hid (Below w.heap.size w U) := Lib.hid (by
              rw [hU]
              exact put6_below (HBW.out.trans (hb8.mono HBW.out.size)) (by omega) _ _ _ _ _ _)
            replace HHH := Lib.hid hS
            have HLL : Hid ((l.set i (freshV x)).length = m) := Lib.hid (by rw [List.length_set]; exact (HM.out).symm)
            rw [show ((((((w7.setCell ⟨G, i * 6, none⟩ (.int .i64 (freshV x).kind)).setCell ⟨G, i * 6 + 1, none⟩ (.int .i64 (freshV x).level)).setCell ⟨G, i * 6 + 2, none⟩ (.int .i64 (freshV x).n)).setCell ⟨G, i * 6 + 3, none⟩ (.string (freshV x).name)).setCell ⟨G, i * 6 + 4, none⟩ (.slice B7 (freshV x).alts.length (capN (freshV x).alts.length b7))).setCell ⟨G, i * 6 + 5, none⟩ (.slice C7 (freshV x).to.length (capN (freshV x).to.length c7))) = U from hU.symm]
            clear hU hS hH7 hI7 hb7 hb8 v0 u0 u1 u2 u3 u4 u5 t0 t1 t2 t3 t4 t5 fz0 fz1 fz2 fz3 fz4 fz5 n0 n1 x0 x1 x2 x3 x4 x5
            obtain ⟨n0, n1⟩ := two_cells HLN.out
            obtain ⟨r0, r1⟩ := two_cells HLR.out
            have fr0 := HLR.out.frozen 0
            have fr1 := HLR.out.frozen 1
            go_wp2_with fail
            have hR9 := lies_put2 HLR.out (.slice (some ⟨G, 0, none⟩) m c') (.int .i64 cap)
            refine bodyPost_ret (res_net3 (p := 4) Tryd.results12 rfl hR9) rfl ⟨some ⟨G, 0, none⟩, c', ?_, ?_, (HBW.out.setCell (p := ⟨w.heap.size + 2, 0, none⟩) (by show w.heap.size ≤ w.heap.size + 2; omega) _).setCell (p := ⟨w.heap.size + 2, 1, none⟩) (by show w.heap.size ≤ w.heap.size + 2; omega) _⟩
            · rw [HM1.out, HM2.out, HM3.out, HE2.out]
              simp only [netv]
              rw [show (l.set i (freshV x)).length = m from HLL.out, capN_of hmc]
              rfl
            · rw [HM1.out, HE2.out]
              exact (((HHH.out.row (Y := fun g => W.heap.size ≤ g) HLL.out.symm hGb (fun _ h _ => h.1)).keep (keep_set ⟨w.heap.size + 2, 0, none⟩ _ (by show ¬ W.heap.size ≤ w.heap.size + 2; omega))).keep (keep_set ⟨w.heap.size + 2, 1, none⟩ _ (by show ¬ W.heap.size ≤ w.heap.size + 2; omega))).keep (keep_wide fun q hq _ => by omega)
          | none =>
            have hfi : freeI l = -1 := by rw [freeI, hf]
            rw [hfi] at HX9
            have HE2 : Hid (makeV l cap x = ((l ++ [Nd.zero]).set m (freshV x), (m : Int), 0)) := Lib.hid (by
              rw [makeV_none HMK.out HCU.out hf]
              have h9 := HM.out
              subst h9
              rw [List.set_append_right _ _ (Nat.le_refl _), Nat.sub_self]
              rfl)
            clear hf hfi e1
            go_wp2_with fail
            refine HX9.out.mono ?_
            rintro e w6 ⟨rfl, hb6⟩
            clear HX9
            clear n0 n1 x0 x1 x2 x3 x4 x5
            replace HLN := Lib.hid (HLN.out.below hb6 HLN.out.lt)
            replace HLX := Lib.hid (HLX.out.below hb6 HLX.out.lt)
            replace HLR := Lib.hid (HLR.out.below hb6 HLR.out.lt)
            replace HHH := Lib.hid (HHH.out.below hb6 (Nat.le_refl _))
            replace HBW := Lib.hid (HBW.out.trans (hb6.mono HBW.out.size))
            obtain ⟨n0, n1⟩ := two_cells HLN.out
            obtain ⟨x0, x1, x2, x3, x4, x5⟩ := six_cells HLX.out
            have hW6 := Nat.le_trans hZs hb6.size
            clear hb6 hZs
            go_upto_region 9 with fail
            have hZ : Lies (w6.alloc (.cells #[.int .i64 0, .int .i64 0, .int .i64 0, .string ⟨#[]⟩, .slice none 0 0, .slice none 0 0] 28)) w6.heap.size 28 #[.int .i64 0, .int .i64 0, .int .i64 0, .string ⟨#[]⟩, .slice none 0 0, .slice none 0 0] := Lies.new _ _ _
            have hbz : Below w6.heap.size w6 (w6.alloc (.cells #[.int .i64 0, .int .i64 0, .int .i64 0, .string ⟨#[]⟩, .slice none 0 0, .slice none 0 0] 28)) := (Below.refl _ w6).alloc (Nat.le_refl _) _
            have hszz : W.heap.size ≤ (w6.alloc (.cells #[.int .i64 0, .int .i64 0, .int .i64 0, .string ⟨#[]⟩, .slice none 0 0, .slice none 0 0] 28)).heap.size := by simp; omega
            have HZ := Lib.hid hZ
            have hln0 := HLN.out.lt
            have hlx0 := HLX.out.lt
            have hlr0 := HLR.out.lt
            have hGl0 := HHH.out.lies.lt
            replace HLN := Lib.hid (HLN.out.below hbz HLN.out.lt)
            replace HLX := Lib.hid (HLX.out.below hbz HLX.out.lt)
            replace HLR := Lib.hid (HLR.out.below hbz HLR.out.lt)
            replace HHH := Lib.hid (HHH.out.below hbz (Nat.le_refl _))
            replace HBW := Lib.hid (HBW.out.trans (hbz.mono HBW.out.size))
            clear hZ hbz
            have hn1 : w.heap.size ≠ G := by omega
            have hn2 : w.heap.size + 1 ≠ G := by omega
            have hn3 : w.heap.size + 2 ≠ G := by omega
            go_wp2_with (at_builtin; refine wp_append_zero rfl (.tmp 38) (.tmp 40) rfl W.heap.size G m c' l cs HHH.out HM.out hcs hmc hcm hGb (by omega) hszz rfl w6.heap.size rfl HZ.out (fun G2 c2 cs2 w9 hH2 hcs2 hmc2 hcm2 hG2b hg2 => ?_); have hLN9 := lies_grown HLN.out hg2 hn1; have n09 := (two_cells hLN9).1; have f09 := hLN9.frozen 0)
            obtain ⟨V9, hV9⟩ : ∃ V, V = w9.setCell ⟨w.heap.size, 0, none⟩ (.slice (some ⟨G2, 0, none⟩) (m + 1) c2) := ⟨_, rfl⟩
            have hgs : W.heap.size ≤ w9.heap.size := Nat.le_trans hszz hg2.size
            replace HLX := Lib.hid (show Lies V9 (w.heap.size + 1) 28 #[.int .i64 x.kind, .int .i64 x.level, .int .i64 x.n, .string x.name, .slice B x.alts.length (capN x.alts.length b), .slice C x.to.length (capN x.to.length cx)] by rw [hV9]; exact (lies_grown HLX.out hg2 hn2).far (p := ⟨w.heap.size, 0, none⟩) (by simp) _)
            replace HLR := Lib.hid (show Lies V9 (w.heap.size + 2) 24 #[.slice none 0 0, .int .i64 0] by rw [hV9]; exact (lies_grown HLR.out hg2 hn3).far (p := ⟨w.heap.size, 0, none⟩) (by simp) _)
            replace HLN := Lib.hid (show Lies V9 w.heap.size 24 #[.slice (some ⟨G2, 0, none⟩) (m + 1) c2, .int .i64 cap] by
              rw [hV9]
              have := hLN9.put 0 (.slice (some ⟨G2, 0, none⟩) (m + 1) c2)
              simpa using this)
            replace HBW := Lib.hid (show Below w.heap.size w V9 by
              rw [hV9]
              exact (HBW.out.grown hg2 HBW.out.size (fun q hq => by cases hq; omega)).setCell (p := ⟨w.heap.size, 0, none⟩) (Nat.le_refl _) _)
            have HHH2 := Lib.hid (show Half V9 (fun g => W.heap.size ≤ g ∧ g ≠ G2) G2 (m + 1) (l ++ [Nd.zero]) (m + 1) cs2 by rw [hV9]; exact hH2.setCell (by show ¬ (W.heap.size ≤ w.heap.size ∧ _); omega) (by show G2 ≠ w.heap.size; omega) _)
            have hW9 : W.heap.size ≤ V9.heap.size := by rw [hV9]; simpa [World.setCell] using hgs
            rw [← hV9]
            clear HHH hV9 hH2 hg2 hLN9 n09 f09 HZ hszz hgs hW6 n0 n1 x0 x1 x2 x3 x4 x5 hn1 hn2 hn3 hln0 hlx0 hlr0 hGl0
            have HHH := HHH2
            clear HHH2
            have HM9 : Hid (m + 1 = (l ++ [Nd.zero]).length) := Lib.hid (by simp; exact HM.out)
            obtain ⟨m9, hm9⟩ : ∃ m9, m9 = m + 1 := ⟨_, rfl⟩
            rw [← hm9] at HLN HHH HM9 hmc2
            obtain ⟨n0, n1⟩ := two_cells HLN.out
            obtain ⟨x0, x1, x2, x3, x4, x5⟩ := six_cells HLX.out
            have hmm9 : m < m9 := by omega
            clear hm9
            have HFR := Lib.hid (fresh_any x B C b cx V9.drew hp ((HI.out.below HBW.out (Nat.le_refl _)).below ((Below.refl _ V9).drew) (Nat.le_refl _)) hal ((HT.out.below HBW.out (Nat.le_refl _)).below ((Below.refl _ V9).drew) (Nat.le_refl _)))
            have hln := HLN.out.lt
            have hlx := HLX.out.lt
            have hGl := HHH.out.lies.lt
            have hG1 : ¬ w.heap.size = G2 := by omega
            have hG2 : ¬ w.heap.size + 1 = G2 := by omega
            have hG3 : ¬ G2 = w.heap.size := by omega
            have hG4 : ¬ G2 = w.heap.size + 1 := by omega
            go_region_held3 (fun V => V.cell? ⟨w.heap.size, 0, none⟩ = some (.slice (some ⟨G2, 0, none⟩) m9 c2) ∧ V.cell? ⟨w.heap.size + 1, 0, none⟩ = some (.int .i64 x.kind) ∧ V.cell? ⟨w.heap.size + 1, 1, none⟩ = some (.int .i64 x.level) ∧ V.cell? ⟨w.heap.size + 1, 2, none⟩ = some (.int .i64 x.n) ∧ V.cell? ⟨w.heap.size + 1, 3, none⟩ = some (.string x.name) ∧ V.cell? ⟨w.heap.size + 1, 4, none⟩ = some (.slice B x.alts.length (capN x.alts.length b)) ∧ V.cell? ⟨w.heap.size + 1, 5, none⟩ = some (.slice C x.to.length (capN x.to.length cx)))
              (first | go_keep)
              ((first
                | (go_at_call 28
                   refine HFR.out.mono ?_
                   rintro e w7 ⟨B7, b7, C7, c7, he, hI7, hb7⟩
                   unfold ndv at he
                   subst he
                   have hb8 : Below V9.heap.size V9 w7 := (Below.refl _ V9).drew.trans hb7
                   have v0 := (hb8.cell (p := ⟨w.heap.size, 0, none⟩) hln).trans n0
                   have u0 := (hb8.cell (p := ⟨w.heap.size + 1, 0, none⟩) hlx).trans x0
                   have u1 := (hb8.cell (p := ⟨w.heap.size + 1, 1, none⟩) hlx).trans x1
                   have u2 := (hb8.cell (p := ⟨w.heap.size + 1, 2, none⟩) hlx).trans x2
                   have u3 := (hb8.cell (p := ⟨w.heap.size + 1, 3, none⟩) hlx).trans x3
                   have u4 := (hb8.cell (p := ⟨w.heap.size + 1, 4, none⟩) hlx).trans x4
                   have u5 := (hb8.cell (p := ⟨w.heap.size + 1, 5, none⟩) hlx).trans x5
                   have hH7 := HHH.out.below hb8 (Nat.le_refl _)
                   obtain ⟨B8, b8, C8, c8, hcq, _⟩ := hH7.new m (by omega)
                   have t0 := (hH7.lies.cell (m * 6)).trans (hcq 0 (by omega))
                   have t1 := (hH7.lies.cell (m * 6 + 1)).trans (hcq 1 (by omega))
                   have t2 := (hH7.lies.cell (m * 6 + 2)).trans (hcq 2 (by omega))
                   have t3 := (hH7.lies.cell (m * 6 + 3)).trans (hcq 3 (by omega))
                   have t4 := (hH7.lies.cell (m * 6 + 4)).trans (hcq 4 (by omega))
                   have t5 := (hH7.lies.cell (m * 6 + 5)).trans (hcq 5 (by omega))
                   simp only [cellsNd, List.getElem?_cons_zero, List.getElem?_cons_succ] at t0 t1 t2 t3 t4 t5
                   have fz0 := hH7.lies.frozen (m * 6)
                   have fz1 := hH7.lies.frozen (m * 6 + 1)
                   have fz2 := hH7.lies.frozen (m * 6 + 2)
                   have fz3 := hH7.lies.frozen (m * 6 + 3)
                   have fz4 := hH7.lies.frozen (m * 6 + 4)
                   have fz5 := hH7.lies.frozen (m * 6 + 5)
                   clear hcq)))
            have hS := hH7.set1 HM9.out (show m < m9 by omega) (fun h => h.2 rfl) (x := freshV x) (B := B7) (C := C7) b7 c7 (hI7.keep (keep_wide fun q hq _ => by
              have hq2 : V9.heap.size ≤ q := hq
              omega))
            obtain ⟨U, hU⟩ : ∃ U, U = put6 w7 G2 (m * 6) (.int .i64 (freshV x).kind) (.int .i64 (freshV x).level) (.int .i64 (freshV x).n) (.string (freshV x).name) (.slice B7 (freshV x).alts.length (capN (freshV x).alts.length b7)) (.slice C7 (freshV x).to.length (capN (freshV x).to.length c7)) := ⟨_, rfl⟩
            replace hS : ∃ cs', Half U (fun g => W.heap.size ≤ g ∧ g ≠ G2) G2 m9 ((l ++ [Nd.zero]).set m (freshV x)) m9 cs' ∧ cs'.size = cs2.size := by rw [hU]; exact hS
            obtain ⟨cs', hS, _⟩ := hS
            have hlr := HLR.out.lt
            replace HLN : Hid (Lies U w.heap.size 24 #[.slice (some ⟨G2, 0, none⟩) m9 c2, .int .i64 cap]) := Lib.hid (by
              rw [hU]
              have hne : w.heap.size ≠ G2 := by omega
              exact ((((((HLN.out.below hb8 hln).far (p := ⟨G2, _, none⟩) hne _).far (p := ⟨G2, _, none⟩) hne _).far (p := ⟨G2, _, none⟩) hne _).far (p := ⟨G2, _, none⟩) hne _).far (p := ⟨G2, _, none⟩) hne _).far (p := ⟨G2, _, none⟩) hne _)
            replace HLR : Hid (Lies U (w.heap.size + 2) 24 #[.slice none 0 0, .int .i64 0]) := Lib.hid (by
              rw [hU]
              have hne : w.heap.size + 2 ≠ G2 := by omega
              exact ((((((HLR.out.below hb8 hlr).far (p := ⟨G2, _, none⟩) hne _).far (p := ⟨G2, _, none⟩) hne _).far (p := ⟨G2, _, none⟩) hne _).far (p := ⟨G2, _, none⟩) hne _).far (p := ⟨G2, _, none⟩) hne _).far (p := ⟨G2, _, none⟩) hne _)
            replace HBW : Hid (Below w.heap.size w U) := Lib.hid (by
              rw [hU]
              exact put6_below (HBW.out.trans (hb8.mono HBW.out.size)) (by omega) _ _ _ _ _ _)
            replace HHH := Lib.hid hS
            have HLL : Hid (((l ++ [Nd.zero]).set m (freshV x)).length = m9) := Lib.hid (by rw [List.length_set]; exact (HM9.out).symm)
            rw [show ((((((w7.setCell ⟨G2, m * 6, none⟩ (.int .i64 (freshV x).kind)).setCell ⟨G2, m * 6 + 1, none⟩ (.int .i64 (freshV x).level)).setCell ⟨G2, m * 6 + 2, none⟩ (.int .i64 (freshV x).n)).setCell ⟨G2, m * 6 + 3, none⟩ (.string (freshV x).name)).setCell ⟨G2, m * 6 + 4, none⟩ (.slice B7 (freshV x).alts.length (capN (freshV x).alts.length b7))).setCell ⟨G2, m * 6 + 5, none⟩ (.slice C7 (freshV x).to.length (capN (freshV x).to.length c7))) = U from hU.symm]
            clear hU hS hH7 hI7 hb7 hb8 v0 u0 u1 u2 u3 u4 u5 t0 t1 t2 t3 t4 t5 fz0 fz1 fz2 fz3 fz4 fz5 n0 n1 x0 x1 x2 x3 x4 x5
            obtain ⟨n0, n1⟩ := two_cells HLN.out
            obtain ⟨r0, r1⟩ := two_cells HLR.out
            have fr0 := HLR.out.frozen 0
            have fr1 := HLR.out.frozen 1
            go_wp2_with fail
            have hR9 := lies_put2 HLR.out (.slice (some ⟨G2, 0, none⟩) m9 c2) (.int .i64 cap)
            refine bodyPost_ret (res_net3 (p := 4) Tryd.results12 rfl hR9) rfl ⟨some ⟨G2, 0, none⟩, c2, ?_, ?_, (HBW.out.setCell (p := ⟨w.heap.size + 2, 0, none⟩) (by show w.heap.size ≤ w.heap.size + 2; omega) _).setCell (p := ⟨w.heap.size + 2, 1, none⟩) (by show w.heap.size ≤ w.heap.size + 2; omega) _⟩
            · rw [HM1.out, HM2.out, HM3.out, HE2.out]
              simp only [netv]
              rw [show ((l ++ [Nd.zero]).set m (freshV x)).length = m9 from HLL.out, capN_of hmc2]
              rfl
            · rw [HM1.out, HE2.out]
              exact (((HHH.out.row (Y := fun g => W.heap.size ≤ g) HLL.out.symm hG2b (fun _ h _ => h.1)).keep (keep_set ⟨w.heap.size + 2, 0, none⟩ _ (by show ¬ W.heap.size ≤ w.heap.size + 2; omega))).keep (keep_set ⟨w.heap.size + 2, 1, none⟩ _ (by show ¬ W.heap.size ≤ w.heap.size + 2; omega))).keep (keep_wide fun q hq _ => by omega)
end Lx
end Go.Proofs.YtceblpjlklogpaaDoor
