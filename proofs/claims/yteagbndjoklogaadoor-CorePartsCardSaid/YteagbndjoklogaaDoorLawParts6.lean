/-
  Walk of the law CoreParts.
-/
import Derived.Test.YteagbndjoklogaaDoorKJ
namespace Go.Proofs.YteagbndjoklogaaDoor
open Go.RowKit Go.Sort
namespace Lx
set_option maxRecDepth 100000
/-- A part of what may be. -/
theorem part_may {k n : Int} {s : ByteArray} : ∀ (l : List Te) (j i : Nat) (f b : Int) (hi : i < l.length), mayEL k j l f b = true → standsE k (j + i) (l[i]'hi).kind = true ∧ mayE (l[i]'hi) f b = true
  | [], j, i, f, b, hi, _ => by simp at hi
  | t :: r, j, 0, f, b, hi, h => by
    rw [mayEL, Bool.and_eq_true, Bool.and_eq_true] at h
    exact ⟨h.1, h.2.1⟩
  | t :: r, j, i + 1, f, b, hi, h => by
    rw [mayEL, Bool.and_eq_true, Bool.and_eq_true] at h
    have := part_may (k := k) (n := n) (s := s) r (j + 1) i f b (by simpa using hi) h.2.2
    rw [show j + (i + 1) = j + 1 + i from by omega]
    exact this
theorem alt_inv {tn : Int} {ts : ByteArray} {tl : List Te} {f : Int} (h : mayE (.node 6 tn ts tl) f 0 = true) : ∃ y, tl = [y] ∧ 0 ≤ tn ∧ tn ≤ 8 ∧ y.kind ≠ 6 ∧ mayE y f tn = true := by
  rw [mayE, Bool.and_eq_true, Bool.and_eq_true] at h
  obtain ⟨h1, h2, _⟩ := h
  simp [headE] at h1
  obtain ⟨y, rfl⟩ : ∃ y, tl = [y] := by
    match tl, h1.2.2.2 with
    | [y], _ => exact ⟨y, rfl⟩
  rw [mayEL, stands_no (by decide), mayEL] at h2
  simp [moreE] at h2
  exact ⟨y, rfl, h1.2.1, h1.2.2.1, h2.1, h2.2⟩
theorem parts_may {k n : Int} {s : ByteArray} {l : List Te} {f : Int} (h : mayV6 (.node k n s l) f = true) (i : Nat) (hi : i < l.length) :
    (k = 5 ∧ 0 < i → (l[i]'hi).kind = 6 ∧ ∃ y, (l[i]'hi).parts = [y] ∧ 0 ≤ (l[i]'hi).n ∧ (l[i]'hi).n ≤ 8 ∧ mayV6 y (f + (l[i]'hi).n) = true) ∧
    (¬ (k = 5 ∧ 0 < i) → mayV6 (l[i]'hi) (f + if k = 2 then 1 else 0) = true) := by
  unfold mayV6 at h
  simp only [Bool.and_eq_true, decide_eq_true_eq] at h
  obtain ⟨h0, h6, hm⟩ := h
  have hk6 : k ≠ 6 := h6
  rw [mayE, Bool.and_eq_true, Bool.and_eq_true] at hm
  obtain ⟨hst, hmi⟩ := part_may (k := k) (n := n) (s := s) l 0 i f (0 + moreE k n) hi hm.2.1
  rw [Nat.zero_add] at hst
  refine ⟨fun ⟨h5, hi0⟩ => ?_, fun hno => ?_⟩
  · subst h5
    have hk : (l[i]'hi).kind = 6 := by
      unfold standsE at hst
      simpa [hi0] using hst
    refine ⟨hk, ?_⟩
    obtain ⟨x, hx⟩ : ∃ x, x = l[i]'hi := ⟨_, rfl⟩
    rw [← hx] at hk hmi ⊢
    obtain ⟨xk, xn, xs, xl⟩ := x
    simp only [Te.kind] at hk
    subst hk
    obtain ⟨y, rfl, hn0, hn8, hy6, hy⟩ := alt_inv (show mayE (.node 6 xn xs xl) f 0 = true from hmi)
    refine ⟨y, rfl, hn0, hn8, ?_⟩
    have hy' : mayE y (f + xn) 0 = true := by
      have h9 := mayE_shift y f 0 xn
      rw [Int.zero_add] at h9
      rw [← h9]; exact hy
    unfold mayV6
    simp only [Te.n, Bool.and_eq_true, decide_eq_true_eq]
    have hz : 0 ≤ f + xn := by omega
    exact ⟨decide_eq_true hz, hy6, hy'⟩
  · have hk : (l[i]'hi).kind ≠ 6 := by
      unfold standsE at hst
      simp [hno] at hst
      exact hst
    have hmo : moreE k n = if k = 2 then 1 else 0 := by unfold moreE; rw [if_neg hk6]
    rw [hmo] at hmi
    have hx : mayE (l[i]'hi) (f + if k = 2 then 1 else 0) 0 = true := by
      have h9 := mayE_shift (l[i]'hi) f 0 (if k = 2 then 1 else 0)
      rw [← h9]; exact hmi
    unfold mayV6
    simp only [Bool.and_eq_true, decide_eq_true_eq]
    exact ⟨by
      have : (0 : Int) ≤ if k = 2 then 1 else 0 := by split <;> omega
      omega, hk, hx⟩
/-- What a call answers, and what is left as it was, counted from one world on. -/
theorem Calls.from_ {f : FuncId} {args : Array Value} {B : Nat} {W0 W : World} {v : Value} (h : Below B W0 W) (hB : B ≤ W.heap.size) (hc : Calls Tryd.prog f args W fun e w' => e = .returned v ∧ Below W.heap.size W w') : Calls Tryd.prog f args W fun e w' => e = .returned v ∧ Below B W0 w' :=
  hc.mono fun _ _ h2 => ⟨h2.1, h.trans (h2.2.mono hB)⟩
set_option maxHeartbeats 16000000 in
theorem parts6_any (t : Te) (A : Option Addr) (c : Nat) (free : Int) (w : World) (hI : EIn w Any t A) (hg : Tabs6 w) :
    Calls Tryd.prog 5 #[ev t A c, .int .i64 free] w fun e w' => e = .returned (.bool true) ∧ Below w.heap.size w w' := by
  obtain ⟨k, n, s, l⟩ := t
  show Calls Tryd.prog 5 #[.agg #[.int .i64 k, .int .i64 n, .string s, .slice A l.length (capF l.length c)], .int .i64 free] w _
  have hX := Bx6.new (c := c) hI hg (Below.refl _ w)
  have HX := Lib.hid hX
  clear hX hI hg
  obtain ⟨m, hm⟩ : ∃ m, m = l.length := ⟨_, rfl⟩
  have HM := Lib.hid hm
  have hbox : ∀ W, Bx6 w W w.heap.size k n s l A c → Bx4 w.heap.size k n s m A (capF m c) W := fun W h => by rw [HM.out]; exact h.four
  have HBX := Lib.hid hbox
  have hsm : ∀ W, Bx6 w W w.heap.size k n s l A c → Calls Tryd.prog 9 #[.agg #[.int .i64 k, .int .i64 n, .string s, .slice A m (capF m c)], .int .i64 500] W fun e w' => e = .returned (.bool (decide (0 ≤ fewE (.node k n s l) 500 600))) ∧ Below W.heap.size W w' := fun W h => by rw [HM.out]; exact h.small 500 (by omega) (by omega)
  have hmy : ∀ W, Bx6 w W w.heap.size k n s l A c → depthE (.node k n s l) ≤ 1000 → Calls Tryd.prog 10 #[.agg #[.int .i64 k, .int .i64 n, .string s, .slice A m (capF m c)], .int .i64 free] W fun e w' => e = .returned (.bool (mayV6 (.node k n s l) free)) ∧ Below W.heap.size W w' := fun W h hd => by rw [HM.out]; exact h.may hd free
  have HSM := Lib.hid hsm
  have HMY := Lib.hid hmy
  rw [← hm] at HX ⊢
  clear hbox hsm hmy hm
  go_enter Tryd.func5, Tryd.ntmps5
  go_wp2_with fail
  refine (fix6_any _ HX.out.tb).mono ?_
  rintro e w1 ⟨rfl, hb1⟩
  have HX := Lib.hid (HX.out.step hb1)
  clear hb1
  obtain ⟨c0, c1, c2, c3⟩ := HBX.out _ HX.out
  have HS := Lib.hid (HSM.out _ HX.out)
  cases hsm : decide (0 ≤ fewE (.node k n s l) 500 600)
  · rw [hsm] at HS
    clear hsm
    go_wp2_with fail
    refine HS.out.mono ?_
    rintro e w3 ⟨rfl, hb3⟩
    have HX := Lib.hid (HX.out.step hb3)
    go_wp2_with fail
    refine (fix6_any _ HX.out.tb).mono ?_
    rintro e w4 ⟨rfl, hb4⟩
    go_wp2_with fail
    go_ret
    exact ⟨rfl, HX.out.bw.trans (hb4.mono HX.out.bw.size)⟩
  · rw [hsm] at HS
    have HZ := Lib.hid (small6_size hsm (by omega))
    clear hsm
    by_cases hab : free < 0 ∨ 1000000 < free
    · rcases (by omega : free < 0 ∨ (¬ free < 0 ∧ 1000000 < free)) with q | ⟨q, q2⟩
      all_goals
        clear hab
        go_wp2_with fail
        refine HS.out.mono ?_
        rintro e w3 ⟨rfl, hb3⟩
        have HX := Lib.hid (HX.out.step hb3)
        go_wp2_with fail
        refine (fix6_any _ HX.out.tb).mono ?_
        rintro e w4 ⟨rfl, hb4⟩
        go_wp2_with fail
        go_ret
        exact ⟨rfl, HX.out.bw.trans (hb4.mono HX.out.bw.size)⟩
    · have q1 : ¬ free < 0 := by omega
      have q2 : ¬ 1000000 < free := by omega
      clear hab
      go_wp2_with fail
      refine HS.out.mono ?_
      rintro e w3 ⟨rfl, hb3⟩
      have HX := Lib.hid (HX.out.step hb3)
      clear hb3 HS c0 c1 c2 c3
      obtain ⟨c0, c1, c2, c3⟩ := HBX.out _ HX.out
      have HMM := Lib.hid (HMY.out _ HX.out (by have := HZ.out; omega))
      cases hmm : mayV6 (.node k n s l) free
      · rw [hmm] at HMM
        clear hmm
        go_wp2_with fail
        refine HMM.out.mono ?_
        rintro e w4 ⟨rfl, hb4⟩
        have HX := Lib.hid (HX.out.step hb4)
        go_wp2_with fail
        refine (fix6_any _ HX.out.tb).mono ?_
        rintro e w5 ⟨rfl, hb5⟩
        go_wp2_with fail
        go_ret
        exact ⟨rfl, HX.out.bw.trans (hb5.mono HX.out.bw.size)⟩
      · rw [hmm] at HMM
        have HPM := Lib.hid (parts_may hmm)
        clear hmm
        go_wp2_with fail
        refine HMM.out.mono ?_
        rintro e w4 ⟨rfl, hb4⟩
        have HX := Lib.hid (HX.out.step hb4)
        have hml : m ≤ 1000 := by
          have h1 := sizeEL_len l
          have h2 := HZ.out.1
          rw [sizeE] at h2
          rw [HM.out]; omega
        clear hb4 HMM c0 c1 c2 c3
        go_wp2_with fail
        go_loopw [5, 6] (fun y x wr => ∃ i : Nat, i ≤ m ∧ x = .int .i64 i ∧ y = .int .i64 (sizeEL (l.take i) + 1) ∧ Bx6 w wr w.heap.size k n s l A c) (fun _ x _ => m - (intOf x).toNat)
        case atStart => exact ⟨0, by omega, rfl, by simp [sizeEL], HX.out⟩
        case round =>
          obtain ⟨i, hi, rfl, rfl, hXr⟩ := hrel
          obtain ⟨c0, c1, c2, c3⟩ := HBX.out _ hXr
          have hst := sizeEL_take l i
          have hsz := HZ.out.1
          rw [sizeE] at hsz
          by_cases hlt : i < m
          · have hia : i < l.length := by rw [← HM.out]; exact hlt
            obtain ⟨g, o, A', c', ⟨hA, _⟩, d0, d1, d2, d3, hIn⟩ := EIn.part hXr.tin i hia
            obtain ⟨hp1, hp2⟩ := HPM.out i hia
            have hm3 := depthEL_mem l (l[i]'hia) (List.getElem_mem hia)
            have hm4 := sizeEL_mem l (l[i]'hia) (List.getElem_mem hia)
            have hsn : sizeEL (l.take (i + 1)) = sizeEL (l.take i) + sizeE (l[i]'hia) := by
              rw [List.take_succ_eq_append_getElem hia]; exact sizeEL_snoc _ _
            have hsn2 := sizeEL_take l (i + 1)
            have hdT : depthE (.node k n s l) = depthEL l + 1 := by rw [depthE]
            have hglt := cell_lt d0
            obtain ⟨tr, hu⟩ : ∃ tr, tr = l[i]'hia := ⟨_, rfl⟩
            simp only [Te.parts] at d0 d1 d2 d3 hIn
            rw [← hu] at d0 d1 d2 d3 hIn hp1 hp2 hm3 hm4 hsn
            clear hu
            obtain ⟨tk, tn, ts, tl⟩ := tr
            simp only [Te.kind, Te.n, Te.name, Te.parts] at d0 d1 d2 d3 hp1
            obtain ⟨V1, hV1⟩ : ∃ V, V = wr.alloc (.cells #[.int .i64 tk, .int .i64 tn, .string ts, .slice A' tl.length (capF tl.length c')] 24) := ⟨_, rfl⟩
            have hbV1 : Below wr.heap.size wr V1 := by rw [hV1]; exact (Below.refl _ wr).alloc (Nat.le_refl _) _
            have hXV := hXr.step hbV1
            have hYV : Bx6 w V1 wr.heap.size tk tn ts tl A' c' := ⟨by rw [hV1]; exact Lies.new wr _ _, EIn.below _ hIn hbV1 (Nat.le_refl _), hXV.tb, hXV.bw⟩
            subst hA
            obtain ⟨X, hX⟩ : ∃ X, X = wr.heap.size := ⟨_, rfl⟩
            rw [← hX] at hYV
            have HXV := Lib.hid hXV
            have HYV := Lib.hid hYV
            have HC := Lib.hid (hYV.size (by omega))
            have HP1 := Lib.hid hp1
            have HP2 := Lib.hid hp2
            have HSN := Lib.hid hsn
            obtain ⟨SX, hSX⟩ : ∃ SX, SX = sizeE (.node tk tn ts tl) := ⟨_, rfl⟩
            obtain ⟨DX, hDX⟩ : ∃ DX, DX = depthE (.node tk tn ts tl) := ⟨_, rfl⟩
            obtain ⟨DT, hDT⟩ : ∃ DT, DT = depthE (.node k n s l) := ⟨_, rfl⟩
            have hSX1 : sizeEL (l.take i) + SX ≤ 1000 := by omega
            have hlDD : DX < DT := by omega
            have hDT1 : DT ≤ 1000 := by have := HZ.out.2; omega
            have hgeq : ¬ (DT : Int) ≤ (DX : Int) := by omega
            rw [← hSX] at HC HSN
            have HSX := Lib.hid hSX
            have HDX := Lib.hid hDX
            have HDX0 := Lib.hid (show depthE (.node tk tn ts tl) < DT from by omega)
            have HDT0 := Lib.hid hDT
            have HDT := Lib.hid hDT
            have HV1 := Lib.hid hV1
            have HXX := Lib.hid hX
            clear hsn hsn2 hp1 hp2 hm3 hm4 hXV hYV hIn hXr hbV1 hSX hDX hDT hX hdT hV1 hsz hst
            go_wp2_with fail
            rw [← HV1.out]
            refine HC.out.mono ?_
            rintro e V2 ⟨rfl, hb2⟩
            have HXV := Lib.hid (HXV.out.step hb2)
            have HYV := Lib.hid (HYV.out.step hb2)
            rw [← HXX.out]
            obtain ⟨q, hq⟩ : ∃ q, q = tl.length := ⟨_, rfl⟩
            have HQ := Lib.hid hq
            clear hb2 c0 c1 c2 c3 d0 d1 d2 d3 hq HC
            go_upto_region 9 with fail
            have hd0 : Below V2.heap.size V2 V2.drew := (Below.refl _ V2).drew
            have HDX := Lib.hid (fun (V' : World) (h : Below V2.heap.size V2 V') => Calls.from_ h h.size (by have := (HYV.out.step h).depth (by have := HSX.out; omega); rw [← HDX.out, ← HQ.out] at this; exact this))
            have HDT := Lib.hid (fun (V' : World) (h : Below V2.heap.size V2 V') => Calls.from_ h h.size (by have := (HXV.out.step h).depth (by have := HZ.out; omega); rw [← HDT.out, ← HM.out] at this; exact this))
            have HS9 := Lib.hid (fun (V' : World) (h : Below V2.heap.size V2 V') => (by have y := (HYV.out.step h).four; have x := HBX.out _ (HXV.out.step h); rw [← HQ.out] at y; exact ⟨y.1, y.2.1, y.2.2.1, y.2.2.2, x.1, x.2.1, x.2.2.1, x.2.2.2⟩ : (fun V' => (V'.cell? ⟨X, 0, none⟩ = some (.int .i64 tk) ∧ V'.cell? ⟨X, 1, none⟩ = some (.int .i64 tn) ∧ V'.cell? ⟨X, 2, none⟩ = some (.string ts) ∧ V'.cell? ⟨X, 3, none⟩ = some (.slice A' q (capF q c')) ∧ V'.cell? ⟨w.heap.size, 0, none⟩ = some (.int .i64 k) ∧ V'.cell? ⟨w.heap.size, 1, none⟩ = some (.int .i64 n) ∧ V'.cell? ⟨w.heap.size, 2, none⟩ = some (.string s) ∧ V'.cell? ⟨w.heap.size, 3, none⟩ = some (.slice (some ⟨g, o, none⟩) m (capF m c)))) V'))
            have hS0 := HS9.out _ hd0
            refine wp_region_held_drew (S := (fun V' => (V'.cell? ⟨X, 0, none⟩ = some (.int .i64 tk) ∧ V'.cell? ⟨X, 1, none⟩ = some (.int .i64 tn) ∧ V'.cell? ⟨X, 2, none⟩ = some (.string ts) ∧ V'.cell? ⟨X, 3, none⟩ = some (.slice A' q (capF q c')) ∧ V'.cell? ⟨w.heap.size, 0, none⟩ = some (.int .i64 k) ∧ V'.cell? ⟨w.heap.size, 1, none⟩ = some (.int .i64 n) ∧ V'.cell? ⟨w.heap.size, 2, none⟩ = some (.string s) ∧ V'.cell? ⟨w.heap.size, 3, none⟩ = some (.slice (some ⟨g, o, none⟩) m (capF m c))))) rfl hS0 (fun hSs => ?_)
            change wpAnyH _ _ _ _ _ 5 (Array.replicate 5 false) _ _
            refine wpAnyH_take (i := 0) (oi := ⟨some 47, _, _, _, _, _⟩) (v := .agg #[.int .i64 tk, .int .i64 tn, .string ts, .slice A' q (capF q c')]) rfl (by kernel_rfl) (by kernel_rfl) (by kernel_rfl) (fun _ _ _ h => h) (.inl ⟨by kernel_rfl, fun W hW => by first | (obtain ⟨x0, x1, x2, x3, t0, t1, t2, t3⟩ := hW; go_simp; done) | (obtain ⟨x0, x1, x2, x3, t0, t1, t2, t3⟩ := hW; go_simp; omega) | (obtain ⟨x0, x1, x2, x3, t0, t1, t2, t3⟩ := hW; go_simp; simp [*]; done)⟩) hSs ?_
            try simp only [Act.put, List.setIfInBounds_toArray, List.set_cons_zero, List.set_cons_succ]
            refine wpAnyH_take (i := 2) (oi := ⟨some 49, _, _, _, _, _⟩) (v := .agg #[.int .i64 k, .int .i64 n, .string s, .slice (some ⟨g, o, none⟩) m (capF m c)]) rfl (by kernel_rfl) (by kernel_rfl) (by kernel_rfl) (fun _ _ _ h => h) (.inl ⟨by kernel_rfl, fun W hW => by first | (obtain ⟨x0, x1, x2, x3, t0, t1, t2, t3⟩ := hW; go_simp; done) | (obtain ⟨x0, x1, x2, x3, t0, t1, t2, t3⟩ := hW; go_simp; omega) | (obtain ⟨x0, x1, x2, x3, t0, t1, t2, t3⟩ := hW; go_simp; simp [*]; done)⟩) hSs ?_
            try simp only [Act.put, List.setIfInBounds_toArray, List.set_cons_zero, List.set_cons_succ]
            refine wpAnyH_ready (rs := [1]) (by kernel_rfl) (by simp) (AllReadyH.cons rfl (fun K hK => ?_) AllReadyH.nil)
            go_simp
            refine (HDX.out _ hd0).mono ?_
            rintro e u1 ⟨rfl, hd1⟩
            refine hK.out _ _ (HS9.out _ hd1) (fun hS1 => ?_)
            clear hK K
            try simp only [Act.put, List.setIfInBounds_toArray, List.set_cons_zero, List.set_cons_succ]
            refine wpAnyH_ready (rs := [3]) (by kernel_rfl) (by simp) (AllReadyH.cons rfl (fun K hK => ?_) AllReadyH.nil)
            go_simp
            refine (HDT.out _ hd1).mono ?_
            rintro e u2 ⟨rfl, hd2⟩
            refine hK.out _ _ (HS9.out _ hd2) (fun hS2 => ?_)
            clear hK K
            try simp only [Act.put, List.setIfInBounds_toArray, List.set_cons_zero, List.set_cons_succ]
            refine wpAnyH_take (i := 4) (oi := ⟨some 51, _, _, _, _, _⟩) (v := .bool false) rfl (by kernel_rfl) (by kernel_rfl) (by kernel_rfl) (fun _ _ _ h => h) (.inl ⟨by kernel_rfl, fun W hW => by first | (obtain ⟨x0, x1, x2, x3, t0, t1, t2, t3⟩ := hW; go_simp; done) | (obtain ⟨x0, x1, x2, x3, t0, t1, t2, t3⟩ := hW; go_simp; omega) | (obtain ⟨x0, x1, x2, x3, t0, t1, t2, t3⟩ := hW; go_simp; simp [*]; done)⟩) hS2 ?_
            try simp only [Act.put, List.setIfInBounds_toArray, List.set_cons_zero, List.set_cons_succ]
            refine wpAnyH_done (by kernel_rfl) ?_ _
            have HXV := Lib.hid (HXV.out.step hd2)
            have HYV := Lib.hid (HYV.out.step hd2)
            clear HS9 HDX HDT hS0
            by_cases h5 : k = 5 ∧ 0 < i
            · obtain ⟨h6, y, hy1, hy2, hy3, hy4⟩ := HP1.out h5
              obtain ⟨rfl, hi0⟩ := h5
              subst h6
              have htl : tl = [y] := hy1
              subst htl
              obtain rfl : q = 1 := HQ.out
              have hi0' : (0 : Int) < (i : Int) := by omega
              have hsum : IntKind.i64.wrap (free + tn) = free + tn := IntWalk.i64_in _ (by omega)
              obtain ⟨g2, o2, B, d, ⟨hA2, _⟩, y0, y1, y2, y3, hIy⟩ := EIn.part HYV.out.tin 0 (by simp [Te.parts])
              simp only [Te.parts, List.getElem_cons_zero, Nat.zero_mul, Nat.add_zero] at y0 y1 y2 y3 hIy
              subst hA2
              obtain ⟨yk, yn, ys, yl⟩ := y
              simp only [Te.kind, Te.n, Te.name] at y0 y1 y2 y3
              obtain ⟨r, hr⟩ : ∃ r, r = yl.length := ⟨_, rfl⟩
              rw [← hr] at y3
              have HR := Lib.hid hr
              have hdy : depthE (.node yk yn ys yl) ≤ 1000 := by
                have h1 := HZ.out.2
                have h2 := HDX0.out
                rw [depthE, depthEL, depthEL] at h2
                omega
              have HY4 := Lib.hid hy4
              have HYc := Lib.hid (show ∀ V', Below u2.heap.size u2 V' → (V'.cell? ⟨g2, o2, none⟩ = some (.int .i64 yk) ∧ V'.cell? ⟨g2, o2 + 1, none⟩ = some (.int .i64 yn) ∧ V'.cell? ⟨g2, o2 + 2, none⟩ = some (.string ys) ∧ V'.cell? ⟨g2, o2 + 3, none⟩ = some (.slice B r (capF r d))) from fun V' h => by
                have hlt2 := cell_lt y0
                exact ⟨(h.cell (p := ⟨g2, o2, none⟩) hlt2).trans y0, (h.cell (p := ⟨g2, o2 + 1, none⟩) hlt2).trans y1, (h.cell (p := ⟨g2, o2 + 2, none⟩) hlt2).trans y2, (h.cell (p := ⟨g2, o2 + 3, none⟩) hlt2).trans y3⟩)
              have HIy := Lib.hid hIy
              obtain ⟨c0, c1, c2, c3⟩ := HBX.out _ HXV.out
              have HMX := Lib.hid (fun (V' : World) (h : Below u2.heap.size u2 V') => Calls.from_ h h.size (by have := (HYV.out.step h).may (by have := HDX0.out; have := HZ.out; omega) free; rw [show mayV6 (.node 6 tn ts [.node yk yn ys yl]) free = false from by unfold mayV6; simp [Te.kind]] at this; exact this))
              have HMY := Lib.hid (fun (V' : World) (h : Below u2.heap.size u2 V') => Calls.from_ h h.size (by have := eMay_any (.node yk yn ys yl) B d (free + tn) V' (EIn.below _ HIy.out h (Nat.le_refl _)) (HXV.out.tb.below h).sg hdy; rw [HY4.out] at this; simp only [ev, Te.kind, Te.n, Te.name, Te.parts] at this; rw [← HR.out] at this; exact this))
              clear y0 y1 y2 y3 hIy hr hy1 hy2 hy3 hy4 hdy
              go_upto_region 12 with fail
              have hd0 : Below u2.heap.size u2 u2.drew := (Below.refl _ u2).drew
              have HS12 := Lib.hid (fun (V' : World) (h : Below u2.heap.size u2 V') => (by have y := (HYV.out.step h).four; have x := HYc.out _ h; exact ⟨y.1, y.2.1, y.2.2.1, y.2.2.2, x.1, x.2.1, x.2.2.1, x.2.2.2⟩ : (fun V' => (V'.cell? ⟨X, 0, none⟩ = some (.int .i64 6) ∧ V'.cell? ⟨X, 1, none⟩ = some (.int .i64 tn) ∧ V'.cell? ⟨X, 2, none⟩ = some (.string ts) ∧ V'.cell? ⟨X, 3, none⟩ = some (.slice (some ⟨g2, o2, none⟩) 1 (capF 1 c')) ∧ V'.cell? ⟨g2, o2, none⟩ = some (.int .i64 yk) ∧ V'.cell? ⟨g2, o2 + 1, none⟩ = some (.int .i64 yn) ∧ V'.cell? ⟨g2, o2 + 2, none⟩ = some (.string ys) ∧ V'.cell? ⟨g2, o2 + 3, none⟩ = some (.slice B r (capF r d)))) V'))
              have hS0 := HS12.out _ hd0
              clear c0 c1 c2 c3
              refine wp_region_held_drew (S := (fun V' => (V'.cell? ⟨X, 0, none⟩ = some (.int .i64 6) ∧ V'.cell? ⟨X, 1, none⟩ = some (.int .i64 tn) ∧ V'.cell? ⟨X, 2, none⟩ = some (.string ts) ∧ V'.cell? ⟨X, 3, none⟩ = some (.slice (some ⟨g2, o2, none⟩) 1 (capF 1 c')) ∧ V'.cell? ⟨g2, o2, none⟩ = some (.int .i64 yk) ∧ V'.cell? ⟨g2, o2 + 1, none⟩ = some (.int .i64 yn) ∧ V'.cell? ⟨g2, o2 + 2, none⟩ = some (.string ys) ∧ V'.cell? ⟨g2, o2 + 3, none⟩ = some (.slice B r (capF r d))))) rfl hS0 (fun hSs => ?_)
              change wpAnyH _ _ _ _ _ 21 (Array.replicate 21 false) _ _
              refine wpAnyH_take (i := 0) (oi := ⟨some 59, _, _, _, _, _⟩) (v := .agg #[.int .i64 6, .int .i64 tn, .string ts, .slice (some ⟨g2, o2, none⟩) 1 (capF 1 c')]) rfl (by kernel_rfl) (by kernel_rfl) (by kernel_rfl) (fun _ _ _ h => h) (.inl ⟨by kernel_rfl, fun W hW => by first | (obtain ⟨x0, x1, x2, x3, y0, y1, y2, y3⟩ := hW; go_simp; done) | (obtain ⟨x0, x1, x2, x3, y0, y1, y2, y3⟩ := hW; go_simp; omega) | (obtain ⟨x0, x1, x2, x3, y0, y1, y2, y3⟩ := hW; go_simp; simp [*]; done)⟩) hSs ?_
              try simp only [Act.put, List.setIfInBounds_toArray, List.set_cons_zero, List.set_cons_succ]
              refine wpAnyH_take (i := 1) (oi := ⟨some 60, _, _, _, _, _⟩) (v := .int .i64 free) rfl (by kernel_rfl) (by kernel_rfl) (by kernel_rfl) (fun _ _ _ h => h) (.inl ⟨by kernel_rfl, fun W hW => by kernel_rfl⟩) hSs ?_
              try simp only [Act.put, List.setIfInBounds_toArray, List.set_cons_zero, List.set_cons_succ]
              refine wpAnyH_ready (rs := [2]) (by kernel_rfl) (by simp) (AllReadyH.cons rfl (fun K hK => ?_) AllReadyH.nil)
              go_simp
              refine (HMX.out _ hd0).mono ?_
              rintro e u1 ⟨rfl, hd1⟩
              refine hK.out _ _ (HS12.out _ hd1) (fun hS1 => ?_)
              clear hK K
              try simp only [Act.put, List.setIfInBounds_toArray, List.set_cons_zero, List.set_cons_succ]
              refine wpAnyH_take (i := 3) (oi := ⟨some 62, _, _, _, _, _⟩) (v := .bool false) rfl (by kernel_rfl) (by kernel_rfl) (by kernel_rfl) (fun _ _ _ h => h) (.inl ⟨by kernel_rfl, fun W hW => by kernel_rfl⟩) hS1 ?_
              try simp only [Act.put, List.setIfInBounds_toArray, List.set_cons_zero, List.set_cons_succ]
              refine wpAnyH_take (i := 4) (oi := ⟨some 63, _, _, _, _, _⟩) (v := .pointer (some ⟨X, 3, none⟩)) rfl (by kernel_rfl) (by kernel_rfl) (by kernel_rfl) (fun _ _ _ h => h) (.inl ⟨by kernel_rfl, fun W hW => by first | (obtain ⟨x0, x1, x2, x3, y0, y1, y2, y3⟩ := hW; go_simp; done) | (obtain ⟨x0, x1, x2, x3, y0, y1, y2, y3⟩ := hW; go_simp; omega) | (obtain ⟨x0, x1, x2, x3, y0, y1, y2, y3⟩ := hW; go_simp; simp [*]; done)⟩) hS1 ?_
              try simp only [Act.put, List.setIfInBounds_toArray, List.set_cons_zero, List.set_cons_succ]
              refine wpAnyH_take (i := 5) (oi := ⟨some 64, _, _, _, _, _⟩) (v := .slice (some ⟨g2, o2, none⟩) 1 (capF 1 c')) rfl (by kernel_rfl) (by kernel_rfl) (by kernel_rfl) (fun _ _ _ h => h) (.inl ⟨by kernel_rfl, fun W hW => by first | (obtain ⟨x0, x1, x2, x3, y0, y1, y2, y3⟩ := hW; go_simp; done) | (obtain ⟨x0, x1, x2, x3, y0, y1, y2, y3⟩ := hW; go_simp; omega) | (obtain ⟨x0, x1, x2, x3, y0, y1, y2, y3⟩ := hW; go_simp; simp [*]; done)⟩) hS1 ?_
              try simp only [Act.put, List.setIfInBounds_toArray, List.set_cons_zero, List.set_cons_succ]
              refine wpAnyH_take (i := 6) (oi := ⟨some 65, _, _, _, _, _⟩) (v := .int .i64 1) rfl (by kernel_rfl) (by kernel_rfl) (by kernel_rfl) (fun _ _ _ h => h) (.inl ⟨by kernel_rfl, fun W hW => by first | (obtain ⟨x0, x1, x2, x3, y0, y1, y2, y3⟩ := hW; go_simp; done) | (obtain ⟨x0, x1, x2, x3, y0, y1, y2, y3⟩ := hW; go_simp; omega) | (obtain ⟨x0, x1, x2, x3, y0, y1, y2, y3⟩ := hW; go_simp; simp [*]; done)⟩) hS1 ?_
              try simp only [Act.put, List.setIfInBounds_toArray, List.set_cons_zero, List.set_cons_succ]
              refine wpAnyH_take (i := 7) (oi := ⟨some 66, _, _, _, _, _⟩) (v := .bool false) rfl (by kernel_rfl) (by kernel_rfl) (by kernel_rfl) (fun _ _ _ h => h) (.inl ⟨by kernel_rfl, fun W hW => by first | (obtain ⟨x0, x1, x2, x3, y0, y1, y2, y3⟩ := hW; go_simp; done) | (obtain ⟨x0, x1, x2, x3, y0, y1, y2, y3⟩ := hW; go_simp; omega) | (obtain ⟨x0, x1, x2, x3, y0, y1, y2, y3⟩ := hW; go_simp; simp [*]; done)⟩) hS1 ?_
              try simp only [Act.put, List.setIfInBounds_toArray, List.set_cons_zero, List.set_cons_succ]
              refine wpAnyH_take (i := 8) (oi := ⟨some 67, _, _, _, _, _⟩) (v := .bool false) rfl (by kernel_rfl) (by kernel_rfl) (by kernel_rfl) (fun _ _ _ h => h) (.inl ⟨by kernel_rfl, fun W hW => by kernel_rfl⟩) hS1 ?_
              try simp only [Act.put, List.setIfInBounds_toArray, List.set_cons_zero, List.set_cons_succ]
              refine wpAnyH_take (i := 9) (oi := ⟨some 68, _, _, _, _, _⟩) (v := .bool false) rfl (by kernel_rfl) (by kernel_rfl) (by kernel_rfl) (fun _ _ _ h => h) (.inl ⟨by kernel_rfl, fun W hW => by kernel_rfl⟩) hS1 ?_
              try simp only [Act.put, List.setIfInBounds_toArray, List.set_cons_zero, List.set_cons_succ]
              refine wpAnyH_take (i := 10) (oi := ⟨some 69, _, _, _, _, _⟩) (v := .pointer (some ⟨X, 3, none⟩)) rfl (by kernel_rfl) (by kernel_rfl) (by kernel_rfl) (fun _ _ _ h => h) (.inl ⟨by kernel_rfl, fun W hW => by first | (obtain ⟨x0, x1, x2, x3, y0, y1, y2, y3⟩ := hW; go_simp; done) | (obtain ⟨x0, x1, x2, x3, y0, y1, y2, y3⟩ := hW; go_simp; omega) | (obtain ⟨x0, x1, x2, x3, y0, y1, y2, y3⟩ := hW; go_simp; simp [*]; done)⟩) hS1 ?_
              try simp only [Act.put, List.setIfInBounds_toArray, List.set_cons_zero, List.set_cons_succ]
              refine wpAnyH_take (i := 11) (oi := ⟨some 70, _, _, _, _, _⟩) (v := .slice (some ⟨g2, o2, none⟩) 1 (capF 1 c')) rfl (by kernel_rfl) (by kernel_rfl) (by kernel_rfl) (fun _ _ _ h => h) (.inl ⟨by kernel_rfl, fun W hW => by first | (obtain ⟨x0, x1, x2, x3, y0, y1, y2, y3⟩ := hW; go_simp; done) | (obtain ⟨x0, x1, x2, x3, y0, y1, y2, y3⟩ := hW; go_simp; omega) | (obtain ⟨x0, x1, x2, x3, y0, y1, y2, y3⟩ := hW; go_simp; simp [*]; done)⟩) hS1 ?_
              try simp only [Act.put, List.setIfInBounds_toArray, List.set_cons_zero, List.set_cons_succ]
              refine wpAnyH_take (i := 12) (oi := ⟨some 71, _, _, _, _, _⟩) (v := .pointer (some ⟨g2, o2, none⟩)) rfl (by kernel_rfl) (by kernel_rfl) (by kernel_rfl) (fun _ _ _ h => h) (.inl ⟨by kernel_rfl, fun W hW => by first | (obtain ⟨x0, x1, x2, x3, y0, y1, y2, y3⟩ := hW; go_simp; done) | (obtain ⟨x0, x1, x2, x3, y0, y1, y2, y3⟩ := hW; go_simp; omega) | (obtain ⟨x0, x1, x2, x3, y0, y1, y2, y3⟩ := hW; go_simp; simp [*]; done)⟩) hS1 ?_
              try simp only [Act.put, List.setIfInBounds_toArray, List.set_cons_zero, List.set_cons_succ]
              refine wpAnyH_take (i := 13) (oi := ⟨some 72, _, _, _, _, _⟩) (v := .agg #[.int .i64 yk, .int .i64 yn, .string ys, .slice B r (capF r d)]) rfl (by kernel_rfl) (by kernel_rfl) (by kernel_rfl) (fun _ _ _ h => h) (.inl ⟨by kernel_rfl, fun W hW => by first | (obtain ⟨x0, x1, x2, x3, y0, y1, y2, y3⟩ := hW; go_simp; done) | (obtain ⟨x0, x1, x2, x3, y0, y1, y2, y3⟩ := hW; go_simp; omega) | (obtain ⟨x0, x1, x2, x3, y0, y1, y2, y3⟩ := hW; go_simp; simp [*]; done)⟩) hS1 ?_
              try simp only [Act.put, List.setIfInBounds_toArray, List.set_cons_zero, List.set_cons_succ]
              refine wpAnyH_take (i := 14) (oi := ⟨some 73, _, _, _, _, _⟩) (v := .int .i64 free) rfl (by kernel_rfl) (by kernel_rfl) (by kernel_rfl) (fun _ _ _ h => h) (.inl ⟨by kernel_rfl, fun W hW => by kernel_rfl⟩) hS1 ?_
              try simp only [Act.put, List.setIfInBounds_toArray, List.set_cons_zero, List.set_cons_succ]
              refine wpAnyH_take (i := 15) (oi := ⟨some 74, _, _, _, _, _⟩) (v := .pointer (some ⟨X, 1, none⟩)) rfl (by kernel_rfl) (by kernel_rfl) (by kernel_rfl) (fun _ _ _ h => h) (.inl ⟨by kernel_rfl, fun W hW => by first | (obtain ⟨x0, x1, x2, x3, y0, y1, y2, y3⟩ := hW; go_simp; done) | (obtain ⟨x0, x1, x2, x3, y0, y1, y2, y3⟩ := hW; go_simp; omega) | (obtain ⟨x0, x1, x2, x3, y0, y1, y2, y3⟩ := hW; go_simp; simp [*]; done)⟩) hS1 ?_
              try simp only [Act.put, List.setIfInBounds_toArray, List.set_cons_zero, List.set_cons_succ]
              refine wpAnyH_take (i := 16) (oi := ⟨some 75, _, _, _, _, _⟩) (v := .int .i64 tn) rfl (by kernel_rfl) (by kernel_rfl) (by kernel_rfl) (fun _ _ _ h => h) (.inl ⟨by kernel_rfl, fun W hW => by first | (obtain ⟨x0, x1, x2, x3, y0, y1, y2, y3⟩ := hW; go_simp; done) | (obtain ⟨x0, x1, x2, x3, y0, y1, y2, y3⟩ := hW; go_simp; omega) | (obtain ⟨x0, x1, x2, x3, y0, y1, y2, y3⟩ := hW; go_simp; simp [*]; done)⟩) hS1 ?_
              try simp only [Act.put, List.setIfInBounds_toArray, List.set_cons_zero, List.set_cons_succ]
              refine wpAnyH_take (i := 17) (oi := ⟨some 76, _, _, _, _, _⟩) (v := .int .i64 (free + tn)) rfl (by kernel_rfl) (by kernel_rfl) (by kernel_rfl) (fun _ _ _ h => h) (.inl ⟨by kernel_rfl, fun W hW => by first | (obtain ⟨x0, x1, x2, x3, y0, y1, y2, y3⟩ := hW; go_simp; done) | (obtain ⟨x0, x1, x2, x3, y0, y1, y2, y3⟩ := hW; go_simp; omega) | (obtain ⟨x0, x1, x2, x3, y0, y1, y2, y3⟩ := hW; go_simp; simp [*]; done)⟩) hS1 ?_
              try simp only [Act.put, List.setIfInBounds_toArray, List.set_cons_zero, List.set_cons_succ]
              refine wpAnyH_ready (rs := [18]) (by kernel_rfl) (by simp) (AllReadyH.cons rfl (fun K hK => ?_) AllReadyH.nil)
              go_simp
              refine (HMY.out _ hd1).mono ?_
              rintro e u2 ⟨rfl, hd2⟩
              refine hK.out _ _ (HS12.out _ hd2) (fun hS2 => ?_)
              clear hK K
              try simp only [Act.put, List.setIfInBounds_toArray, List.set_cons_zero, List.set_cons_succ]
              refine wpAnyH_take (i := 19) (oi := ⟨some 78, _, _, _, _, _⟩) (v := .bool false) rfl (by kernel_rfl) (by kernel_rfl) (by kernel_rfl) (fun _ _ _ h => h) (.inl ⟨by kernel_rfl, fun W hW => by kernel_rfl⟩) hS2 ?_
              try simp only [Act.put, List.setIfInBounds_toArray, List.set_cons_zero, List.set_cons_succ]
              refine wpAnyH_take (i := 20) (oi := ⟨some 79, _, _, _, _, _⟩) (v := .bool false) rfl (by kernel_rfl) (by kernel_rfl) (by kernel_rfl) (fun _ _ _ h => h) (.inl ⟨by kernel_rfl, fun W hW => by kernel_rfl⟩) hS2 ?_
              try simp only [Act.put, List.setIfInBounds_toArray, List.set_cons_zero, List.set_cons_succ]
              refine wpAnyH_done (by kernel_rfl) ?_ _
              have HXV := Lib.hid (HXV.out.step hd2)
              clear HS12 HMX HMY hS0 hsum
              go_wp2_with fail
              go_roundw
              case rel => exact ⟨i + 1, by omega, by go_num, by rw [HSN.out]; exact congrArg (Value.int .i64) (by omega), HXV.out⟩
              case measure => simp [intOf]; omega
            · have hp := HP2.out h5
              obtain ⟨c0, c1, c2, c3⟩ := HBX.out _ HXV.out
              obtain ⟨x0, x1, x2, x3⟩ := HYV.out.four
              rw [← HQ.out] at x3
              by_cases h2 : k = 2
              · subst h2
                rw [if_pos rfl] at hp
                have HMX := (by have := HYV.out.may (by have := HDX0.out; have := HZ.out; omega) (free + 1); rw [hp, ← HQ.out] at this; exact Lib.hid this)
                clear hp h5
                go_wp2_with fail
                refine HMX.out.mono ?_
                rintro e V4 ⟨rfl, hb4⟩
                have HXV := Lib.hid (HXV.out.step hb4)
                go_wp2_with fail
                go_roundw
                case rel => exact ⟨i + 1, by omega, by go_num, by rw [HSN.out]; exact congrArg (Value.int .i64) (by omega), HXV.out⟩
                case measure => simp [intOf]; omega
              · rw [if_neg h2, Int.add_zero] at hp
                have e2 : (k == 2) = false := by simpa using h2
                have HMX := (by have := HYV.out.may (by have := HDX0.out; have := HZ.out; omega) free; rw [hp, ← HQ.out] at this; exact Lib.hid this)
                by_cases hk5 : k = 5
                · have hi0 : ¬ (0 : Int) < (i : Int) := fun h => h5 ⟨hk5, by omega⟩
                  subst hk5
                  clear hp h5 h2
                  go_wp2_with fail
                  refine HMX.out.mono ?_
                  rintro e V4 ⟨rfl, hb4⟩
                  have HXV := Lib.hid (HXV.out.step hb4)
                  go_wp2_with fail
                  go_roundw
                  case rel => exact ⟨i + 1, by omega, by go_num, by rw [HSN.out]; exact congrArg (Value.int .i64) (by omega), HXV.out⟩
                  case measure => simp [intOf]; omega
                · have e5 : (k == 5) = false := by simpa using hk5
                  clear hp h5 h2 hk5
                  go_wp2_with fail
                  refine HMX.out.mono ?_
                  rintro e V4 ⟨rfl, hb4⟩
                  have HXV := Lib.hid (HXV.out.step hb4)
                  go_wp2_with fail
                  go_roundw
                  case rel => exact ⟨i + 1, by omega, by go_num, by rw [HSN.out]; exact congrArg (Value.int .i64) (by omega), HXV.out⟩
                  case measure => simp [intOf]; omega
          · have HF := (by have := hXr.size (by have := HZ.out; omega); rw [← HM.out] at this; exact Lib.hid this)
            have hie : i = m := by omega
            have HE : Hid (sizeEL (l.take i) + 1 = sizeE (.node k n s l)) := by
              show _ = _
              rw [List.take_of_length_le (by rw [← HM.out]; omega), sizeE]
            obtain ⟨U, hU⟩ : ∃ U, U = sizeE (.node k n s l) := ⟨_, rfl⟩
            rw [← hU] at HF HE
            have hUe : ((U : Int) == ((sizeEL (l.take i) : Nat) : Int) + 1) = true := by have := HE.out; simp; omega
            have hUe2 : ((U : Int) == ((sizeEL (l.take m) : Nat) : Int) + 1) = true := by rw [← hie]; exact hUe
            clear hie
            have HXR := Lib.hid hXr
            clear hXr hU hsz
            go_wp2_with fail
            refine HF.out.mono ?_
            rintro e V4 ⟨rfl, hb4⟩
            go_wp2_with fail
            go_ret
            exact ⟨rfl, HXR.out.bw.trans (hb4.mono HXR.out.bw.size)⟩
end Lx
end Go.Proofs.YteagbndjoklogaaDoor
