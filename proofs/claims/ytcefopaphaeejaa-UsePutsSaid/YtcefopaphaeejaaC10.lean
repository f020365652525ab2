/-
  Texts that lie one behind the other: SuPm UsG SuIn SuUs UsW UsV.
-/
import Derived.Test.YtcefopaphaeejaaC7
import Derived.Test.YtcefopaphaeejaaC6
import Derived.Test.YtcefopaphaeejaaC9
namespace Go.Proofs.Ytcefopaphaeejaa
namespace Lx
set_option maxRecDepth 100000
theorem head_var {n free : Int} {s : ByteArray} {m : Nat} {alt : Bool} (h : headR 1 n s m free alt = true) : 0 ≤ n ∧ n < free ∧ m = 0 ∧ alt = false := by
  cases alt <;> simp [headR] at h
  exact ⟨h.2.2.1, h.2.2.2, h.2.1, rfl⟩
theorem head_free {k n f g : Int} {s : ByteArray} {m : Nat} {alt : Bool} (hk : k ≠ 1) : headR k n s m f alt = headR k n s m g alt := by
  simp [headR, hk]
mutual
theorem may_cl : ∀ (t : Te) (f : Int) (a : Bool), mayQ t f a = true → clE t f
  | .node k n s l, f, a, h => by
    rw [mayQ, Bool.and_eq_true, Bool.and_eq_true] at h
    obtain ⟨h0, h1, h2⟩ := h
    rw [clE]
    refine ⟨fun e => ?_, fun e => (head_facts h1).1 e, may_clL k [] l _ h2⟩
    subst e
    have := head_var h1
    exact ⟨this.1, this.2.1, List.eq_nil_of_length_eq_zero this.2.2.1⟩
theorem may_clL (k : Int) : ∀ (met l : List Te) (f : Int), mayQL k met l f = true → clEL l f
  | _, [], _, _ => by rw [clEL]; trivial
  | met, t :: r, f, h => by
    rw [mayQL, Bool.and_eq_true, Bool.and_eq_true] at h
    rw [clEL]
    exact ⟨may_cl t f _ h.1, may_clL k _ r f h.2.2⟩
end
theorem usesE_lam (t : Te) (k : Int) : usesE (lamE t) k = usesE t (k + 1) := by simp [lamE, usesE, usesEL, moreE]
theorem usesE_app (t u : Te) (k : Int) : usesE (appE t u) k = usesE t k + usesE u k := by simp [appE, usesE, usesEL, moreE]
theorem putE_lam (t x : Te) (k : Int) (ht : wfE t) (hx : wfE x) : putE (lamE t) k x = lamE (putE t (k + 1) (upE x 1 0)) := by
  have h := put_lam ht hx k
  simp [lamE, putE, chE, chEL, moreE] at h ⊢
  exact h
theorem putE_app (t u x : Te) (k : Int) : putE (appE t u) k x = appE (putE t k x) (putE u k x) := by simp [appE, putE, chE, chEL, moreE]
mutual
theorem up_size : ∀ (t : Te) (u f : Int), wfE t → sizeE (chE (upF u) t f) = sizeE t
  | .node k n s l, u, f, h => by
    rw [wfE] at h
    rw [chE]
    split
    · rename_i hk
      rw [h.1 hk]; simp [upF, sizeE, sizeEL]
    · rw [sizeE, sizeE, up_sizeL l u _ h.2.2]
theorem up_sizeL : ∀ (l : List Te) (u f : Int), wfEL l → sizeEL (chEL (upF u) l f) = sizeEL l
  | [], _, _, _ => by rw [chEL]
  | t :: r, u, f, h => by rw [wfEL] at h; rw [chEL, sizeEL, sizeEL, up_size t u f h.1, up_sizeL r u f h.2]
end
mutual
theorem put_size : ∀ (t : Te) (k : Int) (x : Te) (b : Int), wfE x → wfE t → sizeE (chE (putF k x) t b) + usesE t (k + b) = sizeE t + usesE t (k + b) * sizeE x
  | .node k' n s l, k, x, b, hx, h => by
    rw [wfE] at h
    rw [chE, usesE]
    split
    · rename_i hk
      rw [h.1 hk, putF]
      split
      · rw [upE, up_size x b 0 hx]; simp [sizeE, sizeEL]; omega
      · simp [sizeE, sizeEL]
    · have := put_sizeL l k x (b + moreE k' n) hx h.2.2
      rw [sizeE, sizeE, show k + b + moreE k' n = k + (b + moreE k' n) by omega]
      omega
theorem put_sizeL : ∀ (l : List Te) (k : Int) (x : Te) (b : Int), wfE x → wfEL l → sizeEL (chEL (putF k x) l b) + usesEL l (k + b) = sizeEL l + usesEL l (k + b) * sizeE x
  | [], _, _, _, _, _ => by simp [chEL, usesEL, sizeEL]
  | t :: r, k, x, b, hx, h => by
    rw [wfEL] at h
    have h1 := put_size t k x b hx h.1
    have h2 := put_sizeL r k x b hx h.2
    rw [chEL, sizeEL, sizeEL, usesEL, Nat.add_mul]
    omega
end
mutual
theorem put_none : ∀ (t : Te) (k : Int) (x y : Te) (b : Int), usesE t (k + b) = 0 → chE (putF k x) t b = chE (putF k y) t b
  | .node k' n s l, k, x, y, b, h => by
    rw [usesE] at h
    rw [chE.eq_1 (putF k x), chE.eq_1 (putF k y)]
    split
    · rename_i hk
      rw [if_pos hk] at h
      have hn : ¬ n = k + b := by intro e; rw [if_pos e] at h; omega
      rw [putF, putF, if_neg hn, if_neg hn]
    · rename_i hk
      rw [if_neg hk] at h
      rw [put_noneL l k x y (b + moreE k' n) (by rw [show k + (b + moreE k' n) = k + b + moreE k' n by omega]; exact h)]
theorem put_noneL : ∀ (l : List Te) (k : Int) (x y : Te) (b : Int), usesEL l (k + b) = 0 → chEL (putF k x) l b = chEL (putF k y) l b
  | [], _, _, _, _, _ => by rw [chEL, chEL]
  | t :: r, k, x, y, b, h => by
    rw [usesEL] at h
    rw [chEL.eq_2 (putF k x), chEL.eq_2 (putF k y), put_none t k x y b (by omega), put_noneL r k x y b (by omega)]
end
end Lx
end Go.Proofs.Ytcefopaphaeejaa
namespace Go.Proofs.Ytcefopaphaeejaa
open Go Go.RowKit
namespace Lx
set_option maxRecDepth 100000
theorem ofE_lam (b : Te) : ofE (lamE b) = (usesE b 0 : Int) :: ofE b := by
  rw [lamE, ofE, ofEL, ofEL, List.append_nil, ownE, show toldN 2 0 = 1 from by decide, show moreE 2 0 = 1 from by decide]
  simp
theorem ofE_app (a b : Te) : ofE (appE a b) = ofE a ++ ofE b := by
  rw [appE, ofE, ofEL, ofEL, ofEL, List.append_nil, ownE, show toldN 3 0 = 0 from by decide]
  simp
theorem affB_app (l m : List Int) : affB (l ++ m) = (affB l && affB m) := by simp [affB]
theorem affB_cons (x : Int) (l : List Int) : affB (x :: l) = (decide (x ≤ 1) && affB l) := by simp [affB]
theorem fansL_nonneg : ∀ l : List Int, 0 ≤ fansL l
  | [] => by simp [fansL]
  | x :: r => by have := fansL_nonneg r; simp only [fansL]; omega
theorem affB_fans : ∀ l : List Int, affB l = decide (fansL l = 0)
  | [] => by simp [affB, fansL]
  | x :: r => by
    have h1 := fansL_nonneg r
    rw [affB_cons, affB_fans r, fansL]
    by_cases h : x ≤ 1
    · rw [show max (x - 1) 0 = 0 from by omega, decide_eq_true h]
      simp
    · rw [decide_eq_false h, Bool.false_and]
      exact (decide_eq_false (by omega)).symm
theorem affB_part (k n : Int) (s : ByteArray) (l : List Te) (h : affB (ofE (.node k n s l)) = true) (i : Nat) (hi : i < l.length) : affB (ofE (l[i]'hi)) = true := by
  rw [ofE, affB_app, ofEL_split l i, affB_app, ofEL_drop l i hi, affB_app] at h
  simp only [Bool.and_eq_true] at h
  exact h.2.2.1
theorem tame_lam {t : Te} {K M : Int} (h : tameE K M t) : tameE K M (lamE t) := by
  rw [lamE, tameE, tameEL, tameEL]
  exact ⟨fun h => by omega, fun h => by omega, h, trivial⟩
theorem tame_app {t u : Te} {K M : Int} (h : tameE K M t) (h2 : tameE K M u) : tameE K M (appE t u) := by
  rw [appE, tameE, tameEL, tameEL, tameEL]
  exact ⟨fun h => by omega, fun h => by omega, h, h2, trivial⟩
theorem size_lam (t : Te) : sizeE (lamE t) = sizeE t + 1 := by rw [lamE, sizeE, sizeEL, sizeEL]
theorem size_app (t u : Te) : sizeE (appE t u) = sizeE t + sizeE u + 1 := by rw [appE, sizeE, sizeEL, sizeEL, sizeEL]; omega
theorem depth_lam (t : Te) : depthE (lamE t) = depthE t + 1 := by rw [lamE, depthE, depthEL, depthEL]; omega
theorem depth_app (t u : Te) : depthE (appE t u) ≤ depthE t + depthE u + 1 := by rw [appE, depthE, depthEL, depthEL, depthEL]; omega
theorem may_tame {t : Te} {f : Int} (h : mayQ t f false = true) (hf : f ≤ 10) (hd : depthE t ≤ 600) : tameE 1099511627776 1099511627776 t :=
  tameE_mono (by omega) (by omega) _ (clE_tame _ _ (may_cl _ _ _ h))
theorem Bx8.depth {w W : World} {g : Nat} {k n : Int} {s : ByteArray} {l : List Te} {A : Option Addr} {c : Nat} (h : Bx8 w W g k n s l A c) (hs : sizeE (.node k n s l) ≤ 100000) : Calls Try.prog 10 #[.agg #[.int .i64 k, .int .i64 n, .string s, .slice A l.length (capF l.length c)]] W fun e w' => e = .returned (.int .i64 (depthE (.node k n s l))) ∧ Below W.heap.size W w' :=
  rdepth6_any (depthE (.node k n s l)) (.node k n s l) A c W (Nat.le_refl _) hs h.tin
end Lx
end Go.Proofs.Ytcefopaphaeejaa
namespace Go.Proofs.Ytcefopaphaeejaa
open Go.RowKit
namespace Lx
set_option maxRecDepth 100000
/-- Each term of l is fine. -/
def FineL (l : List Te) : Prop := ∀ t ∈ l, depthE t ≤ 12000 ∧ sizeE t ≤ 1000000000000 ∧ tameE 1099511627776 1099511627776 t
end Lx
end Go.Proofs.Ytcefopaphaeejaa
namespace Go.Proofs.Ytcefopaphaeejaa
open Go.RowKit
namespace Lx
set_option maxRecDepth 100000
set_option maxHeartbeats 4000000 in
theorem ruses_any (d : Nat) : ∀ (t : Te) (A : Option Addr) (c : Nat) (j : Int) (w : World), depthE t ≤ d → d ≤ 4000 → sizeE t ≤ 1000000000000 → tameE 1099511627776 1099511627776 t → -(1099511627776 * (8000 - (d : Int))) ≤ j → j ≤ 1099511627776 * (8000 - (d : Int)) → EIn w Any t A →
    Calls Try.prog 29 #[ev t A c, .int .i64 j] w fun e w' => e = .returned (.int .i64 (usesE t j)) ∧ Below w.heap.size w w' := by
  induction d with
  | zero => intro t A c j w h; have := depthE_pos t; omega
  | succ d ih =>
    intro t A c j w hd hd4 hs ht hj0 hj1 hI
    obtain ⟨k, n, s, l⟩ := t
    have hdL : depthEL l ≤ d := by rw [depthE] at hd; omega
    have hsL : sizeEL l ≤ 1000000000000 := by rw [sizeE] at hs; omega
    have hlen := sizeEL_len l
    rw [tameE] at ht
    show Calls Try.prog 29 #[.agg #[.int .i64 k, .int .i64 n, .string s, .slice A l.length (capF l.length c)], .int .i64 j] w _
    generalize capF l.length c = c
    by_cases hk : k = 1
    · subst hk
      have ht1 := ht.1 rfl
      obtain rfl := ht1.2.2
      have hb : Below w.heap.size w (w.alloc (.cells #[.int .i64 1, .int .i64 n, .string s, .slice A 0 c] 24)) := (Below.refl _ w).alloc (Nat.le_refl _) _
      clear ht ht1 ih hd hs hI
      show Calls Try.prog 29 #[.agg #[.int .i64 1, .int .i64 n, .string s, .slice A 0 c], .int .i64 j] w _
      by_cases hn : n = j
      · have HE : Hid (usesE (.node 1 n s []) j = 1) := by
          refine Lib.hid ?_
          rw [usesE, if_pos rfl, if_pos hn]
        have hn1 : (n == j) = true := by simpa using hn
        clear hn
        go_enter Try.func29, Try.ntmps29
        go_wp2_with fail
        go_ret
        exact ⟨ret_int (by rw [HE.out]; rfl), hb⟩
      · have HE : Hid (usesE (.node 1 n s []) j = 0) := by
          refine Lib.hid ?_
          rw [usesE, if_pos rfl, if_neg hn]
        have hn1 : (n == j) = false := by simpa using hn
        clear hn
        go_enter Try.func29, Try.ntmps29
        go_wp2_with fail
        go_ret
        exact ⟨ret_int (by rw [HE.out]; rfl), hb⟩
    · have hk1 : (k == 1) = false := by simpa using hk
      have HE : Hid (usesE (.node k n s l) j = usesEL l (j + moreE k n)) := by
        refine Lib.hid ?_
        rw [usesE, if_neg hk]
      have hmo : -1099511627776 ≤ moreE k n ∧ moreE k n ≤ 1099511627776 := by
        rw [moreE]
        split
        · omega
        · split
          · rename_i h6; exact ht.2.1 h6
          · omega
      obtain ⟨mo, hmoe⟩ : ∃ mo, mo = moreE k n := ⟨_, rfl⟩
      rw [← hmoe] at hmo HE
      have HMO := Lib.hid hmoe
      have HT := Lib.hid ht.2.2
      have HI := Lib.hid hI
      have hul := usesEL_le l (j + mo)
      clear hI ht hmoe hk hd hs
      obtain ⟨m, hm⟩ : ∃ m, m = l.length := ⟨_, rfl⟩
      rw [← hm]
      have hm1 : m ≤ l.length := by omega
      have hm2 : l.length ≤ m := by omega
      clear hm
      have hb0 : Below w.heap.size w (w.alloc (.cells #[.int .i64 k, .int .i64 n, .string s, .slice A m c] 24)) := (Below.refl _ w).alloc (Nat.le_refl _) _
      have l0 := Lies.new w 24 #[.int .i64 k, .int .i64 n, .string s, .slice A m c]
      go_enter Try.func29, Try.ntmps29
      go_wp2_with fail
      go_loopw [5, 6] (fun v x wr => ∃ i : Nat, i ≤ m ∧ x = .int .i64 i ∧ v = .int .i64 (usesEL (l.take i) (j + mo)) ∧ Lies wr w.heap.size 24 #[.int .i64 k, .int .i64 n, .string s, .slice A m c] ∧ Below w.heap.size w wr) (fun _ x _ => m - (intOf x).toNat)
      case atStart => exact ⟨0, by omega, rfl, by simp [usesEL], l0, hb0⟩
      case round =>
        obtain ⟨i, hi, rfl, rfl, l2, hbw⟩ := hrel
        have hbs := hbw.size
        have c3 := l2.cell 3
        simp at c3
        by_cases hlt : i < m
        · have hia : i < l.length := by omega
          obtain ⟨g, o, A', c', ⟨hA, _⟩, d0, d1, d2, d3, hIn⟩ := EIn.part (EIn.below _ HI.out hbw (Nat.le_refl _)) i hia
          subst hA
          have hm3 := depthEL_mem l (l[i]'hia) (List.getElem_mem hia)
          have hm4 := sizeEL_mem l (l[i]'hia) (List.getElem_mem hia)
          have ht5 := tameEL_mem l (l[i]'hia) (List.getElem_mem hia) HT.out
          have HS := Lib.hid (usesEL_take l i (j + mo) hia)
          have hu1 := usesEL_le (l.take i) (j + mo)
          have hu2 := sizeEL_take l i
          simp only [Te.parts] at d0 d1 d2 d3 hIn
          obtain ⟨tr, hu⟩ : ∃ tr, tr = l[i]'hia := ⟨_, rfl⟩
          rw [← hu] at d0 d1 d2 d3 hIn hm3 hm4 HS ht5
          clear hu
          obtain ⟨tk, tn, ts, tl⟩ := tr
          simp only [Te.kind, Te.n, Te.name] at d0 d1 d2 d3
          obtain ⟨nu, hnu⟩ : ∃ nu, nu = usesEL (l.take i) (j + mo) := ⟨_, rfl⟩
          rw [← hnu] at HS hu1 ⊢
          obtain ⟨us, hus⟩ : ∃ us, us = usesE (.node tk tn ts tl) (j + mo) := ⟨_, rfl⟩
          rw [← hus] at HS
          have hus1 := usesE_le (.node tk tn ts tl) (j + mo)
          rw [← hus] at hus1
          have HNU := Lib.hid hnu
          have HUE := Lib.hid hus
          clear hnu hus
          go_upto_region 9 with fail
          obtain ⟨V8, hV8⟩ : ∃ V8, V8 = wr := ⟨_, rfl⟩
          rw [← hV8] at l2 hbw hIn d0 d1 d2 d3 hbs ⊢
          clear hV8
          have hgW : g < V8.heap.size := cell_lt d0
          have HBI : Hid (∀ X, Below V8.heap.size V8 X → Calls Try.prog 44 #[.agg #[.int .i64 k, .int .i64 n, .string s, .slice (some ⟨g, o, none⟩) m c]] X fun e w' => e = .returned (.int .i64 mo) ∧ Below X.heap.size X w') := Lib.hid fun X _ => by rw [HMO.out]; exact more_any k n s _ m c X
          have HUS : Hid (∀ X, Below V8.heap.size V8 X → Calls Try.prog 29 #[.agg #[.int .i64 tk, .int .i64 tn, .string ts, .slice A' tl.length (capF tl.length c')], .int .i64 (j + mo)] X fun e w' => e = .returned (.int .i64 (us : Int)) ∧ Below X.heap.size X w') := Lib.hid fun X hX => by
            rw [HUE.out]; exact ih (.node tk tn ts tl) A' c' (j + mo) X (by omega) (by omega) (by omega) ht5 (by omega) (by omega) (EIn.below _ hIn hX (Nat.le_refl _))
          have HSS : Hid (∀ V', Below V8.heap.size V8 V' → (fun V' : World => (V'.cell? ⟨w.heap.size, 0, none⟩ = some (.int .i64 k) ∧ V'.cell? ⟨w.heap.size, 1, none⟩ = some (.int .i64 n) ∧ V'.cell? ⟨w.heap.size, 2, none⟩ = some (.string s) ∧ V'.cell? ⟨w.heap.size, 3, none⟩ = some (.slice (some ⟨g, o, none⟩) m c) ∧ V'.cell? ⟨g, o + i * 4, none⟩ = some (.int .i64 tk) ∧ V'.cell? ⟨g, o + i * 4 + 1, none⟩ = some (.int .i64 tn) ∧ V'.cell? ⟨g, o + i * 4 + 2, none⟩ = some (.string ts) ∧ V'.cell? ⟨g, o + i * 4 + 3, none⟩ = some (.slice A' tl.length (capF tl.length c')))) V') := Lib.hid fun V' h =>
            ⟨(h.cell (p := ⟨w.heap.size, 0, none⟩) l2.lt).trans (l2.cell 0), (h.cell (p := ⟨w.heap.size, 1, none⟩) l2.lt).trans (l2.cell 1), (h.cell (p := ⟨w.heap.size, 2, none⟩) l2.lt).trans (l2.cell 2), (h.cell (p := ⟨w.heap.size, 3, none⟩) l2.lt).trans (l2.cell 3), (h.cell (p := ⟨g, _, none⟩) hgW).trans d0, (h.cell (p := ⟨g, _, none⟩) hgW).trans d1, (h.cell (p := ⟨g, _, none⟩) hgW).trans d2, (h.cell (p := ⟨g, _, none⟩) hgW).trans d3⟩
          have HBW := Lib.hid hbw
          have L2 := Lib.hid l2
          clear hIn hbw l2 d0 d1 d2 d3 c3 ht5
          have hb_1 : Below V8.heap.size V8 V8 := Below.refl _ _
          refine wp_region_K (S := (fun V' : World => (V'.cell? ⟨w.heap.size, 0, none⟩ = some (.int .i64 k) ∧ V'.cell? ⟨w.heap.size, 1, none⟩ = some (.int .i64 n) ∧ V'.cell? ⟨w.heap.size, 2, none⟩ = some (.string s) ∧ V'.cell? ⟨w.heap.size, 3, none⟩ = some (.slice (some ⟨g, o, none⟩) m c) ∧ V'.cell? ⟨g, o + i * 4, none⟩ = some (.int .i64 tk) ∧ V'.cell? ⟨g, o + i * 4 + 1, none⟩ = some (.int .i64 tn) ∧ V'.cell? ⟨g, o + i * 4 + 2, none⟩ = some (.string ts) ∧ V'.cell? ⟨g, o + i * 4 + 3, none⟩ = some (.slice A' tl.length (capF tl.length c'))))) 12 rfl (HSS.out _ hb_1.drew) (fun hSs => ?_)
          change wpAnyK _ _ _ _ _ _ 13 (Array.replicate 13 false) _ _
          refine wpAnyK_take (i := 0) (oi := ⟨some 21, _, _, _, _, _⟩) (v := .int .i64 (nu : Int)) rfl (by kernel_rfl) (by kernel_rfl) (by kernel_rfl) (by kernel_rfl) (fun _ _ _ h => h) (.inl ⟨by kernel_rfl, fun W hW => by kernel_rfl⟩) hSs ?_
          try simp only [Act.put, List.setIfInBounds_toArray, List.set_cons_zero, List.set_cons_succ]
          refine wpAnyK_take (i := 1) (oi := ⟨some 22, _, _, _, _, _⟩) (v := .pointer (some ⟨w.heap.size, 3, none⟩)) rfl (by kernel_rfl) (by kernel_rfl) (by kernel_rfl) (by kernel_rfl) (fun _ _ _ h => h) (.inl ⟨by kernel_rfl, fun W hW => by first | (obtain ⟨z0, z1, z2, z3, z4, z5, z6, z7⟩ := hW; go_simp; done) | (obtain ⟨z0, z1, z2, z3, z4, z5, z6, z7⟩ := hW; go_simp; omega) | (obtain ⟨z0, z1, z2, z3, z4, z5, z6, z7⟩ := hW; go_simp; exact IntWalk.i64_in _ (by omega)) | (obtain ⟨z0, z1, z2, z3, z4, z5, z6, z7⟩ := hW; go_simp; simp [*]; done)⟩) hSs ?_
          try simp only [Act.put, List.setIfInBounds_toArray, List.set_cons_zero, List.set_cons_succ]
          refine wpAnyK_take (i := 2) (oi := ⟨some 23, _, _, _, _, _⟩) (v := .slice (some ⟨g, o, none⟩) m c) rfl (by kernel_rfl) (by kernel_rfl) (by kernel_rfl) (by kernel_rfl) (fun _ _ _ h => h) (.inl ⟨by kernel_rfl, fun W hW => by first | (obtain ⟨z0, z1, z2, z3, z4, z5, z6, z7⟩ := hW; go_simp; done) | (obtain ⟨z0, z1, z2, z3, z4, z5, z6, z7⟩ := hW; go_simp; omega) | (obtain ⟨z0, z1, z2, z3, z4, z5, z6, z7⟩ := hW; go_simp; exact IntWalk.i64_in _ (by omega)) | (obtain ⟨z0, z1, z2, z3, z4, z5, z6, z7⟩ := hW; go_simp; simp [*]; done)⟩) hSs ?_
          try simp only [Act.put, List.setIfInBounds_toArray, List.set_cons_zero, List.set_cons_succ]
          refine wpAnyK_take (i := 3) (oi := ⟨some 24, _, _, _, _, _⟩) (v := .int .i64 (i : Int)) rfl (by kernel_rfl) (by kernel_rfl) (by kernel_rfl) (by kernel_rfl) (fun _ _ _ h => h) (.inl ⟨by kernel_rfl, fun W hW => by kernel_rfl⟩) hSs ?_
          try simp only [Act.put, List.setIfInBounds_toArray, List.set_cons_zero, List.set_cons_succ]
          refine wpAnyK_take (i := 4) (oi := ⟨some 25, _, _, _, _, _⟩) (v := .pointer (some ⟨g, o + i * 4, none⟩)) rfl (by kernel_rfl) (by kernel_rfl) (by kernel_rfl) (by kernel_rfl) (fun _ _ _ h => h) (.inl ⟨by kernel_rfl, fun W hW => by first | (obtain ⟨z0, z1, z2, z3, z4, z5, z6, z7⟩ := hW; go_simp; done) | (obtain ⟨z0, z1, z2, z3, z4, z5, z6, z7⟩ := hW; go_simp; omega) | (obtain ⟨z0, z1, z2, z3, z4, z5, z6, z7⟩ := hW; go_simp; exact IntWalk.i64_in _ (by omega)) | (obtain ⟨z0, z1, z2, z3, z4, z5, z6, z7⟩ := hW; go_simp; simp [*]; done)⟩) hSs ?_
          try simp only [Act.put, List.setIfInBounds_toArray, List.set_cons_zero, List.set_cons_succ]
          refine wpAnyK_take (i := 5) (oi := ⟨some 26, _, _, _, _, _⟩) (v := .agg #[.int .i64 tk, .int .i64 tn, .string ts, .slice A' tl.length (capF tl.length c')]) rfl (by kernel_rfl) (by kernel_rfl) (by kernel_rfl) (by kernel_rfl) (fun _ _ _ h => h) (.inl ⟨by kernel_rfl, fun W hW => by first | (obtain ⟨z0, z1, z2, z3, z4, z5, z6, z7⟩ := hW; go_simp; done) | (obtain ⟨z0, z1, z2, z3, z4, z5, z6, z7⟩ := hW; go_simp; omega) | (obtain ⟨z0, z1, z2, z3, z4, z5, z6, z7⟩ := hW; go_simp; exact IntWalk.i64_in _ (by omega)) | (obtain ⟨z0, z1, z2, z3, z4, z5, z6, z7⟩ := hW; go_simp; simp [*]; done)⟩) hSs ?_
          try simp only [Act.put, List.setIfInBounds_toArray, List.set_cons_zero, List.set_cons_succ]
          refine wpAnyK_take (i := 6) (oi := ⟨some 27, _, _, _, _, _⟩) (v := .int .i64 j) rfl (by kernel_rfl) (by kernel_rfl) (by kernel_rfl) (by kernel_rfl) (fun _ _ _ h => h) (.inl ⟨by kernel_rfl, fun W hW => by kernel_rfl⟩) hSs ?_
          try simp only [Act.put, List.setIfInBounds_toArray, List.set_cons_zero, List.set_cons_succ]
          refine wpAnyK_take (i := 7) (oi := ⟨some 28, _, _, _, _, _⟩) (v := .agg #[.int .i64 k, .int .i64 n, .string s, .slice (some ⟨g, o, none⟩) m c]) rfl (by kernel_rfl) (by kernel_rfl) (by kernel_rfl) (by kernel_rfl) (fun _ _ _ h => h) (.inl ⟨by kernel_rfl, fun W hW => by first | (obtain ⟨z0, z1, z2, z3, z4, z5, z6, z7⟩ := hW; go_simp; done) | (obtain ⟨z0, z1, z2, z3, z4, z5, z6, z7⟩ := hW; go_simp; omega) | (obtain ⟨z0, z1, z2, z3, z4, z5, z6, z7⟩ := hW; go_simp; exact IntWalk.i64_in _ (by omega)) | (obtain ⟨z0, z1, z2, z3, z4, z5, z6, z7⟩ := hW; go_simp; simp [*]; done)⟩) hSs ?_
          try simp only [Act.put, List.setIfInBounds_toArray, List.set_cons_zero, List.set_cons_succ]
          refine wpAnyK_one (i := 8) rfl rfl (by kernel_rfl) (fun K hK => ?_)
          go_simp
          refine (HBI.out _ (hb_1.drew) ).mono ?_
          rintro e u_2 ⟨rfl, hq_2⟩
          have hb_2 := (hb_1.drew).trans (hq_2.mono (hb_1.drew).size)
          refine hK.out _ _ (fun _ => HSS.out _ hb_2) (fun hS9 => ?_)
          have hS_2 := hS9 (by decide)
          clear hK K hS9
          try simp only [Act.put, List.setIfInBounds_toArray, List.set_cons_zero, List.set_cons_succ]
          refine wpAnyK_take (i := 9) (oi := ⟨some 30, _, _, _, _, _⟩) (v := .int .i64 (j + mo)) rfl (by kernel_rfl) (by kernel_rfl) (by kernel_rfl) (by kernel_rfl) (fun _ _ _ h => h) (.inl ⟨by kernel_rfl, fun W hW => by first | (obtain ⟨z0, z1, z2, z3, z4, z5, z6, z7⟩ := hW; go_simp; done) | (obtain ⟨z0, z1, z2, z3, z4, z5, z6, z7⟩ := hW; go_simp; omega) | (obtain ⟨z0, z1, z2, z3, z4, z5, z6, z7⟩ := hW; go_simp; exact IntWalk.i64_in _ (by omega)) | (obtain ⟨z0, z1, z2, z3, z4, z5, z6, z7⟩ := hW; go_simp; simp [*]; done)⟩) hS_2 ?_
          try simp only [Act.put, List.setIfInBounds_toArray, List.set_cons_zero, List.set_cons_succ]
          refine wpAnyK_one (i := 10) rfl rfl (by kernel_rfl) (fun K hK => ?_)
          go_simp
          refine (HUS.out _ hb_2 ).mono ?_
          rintro e u_3 ⟨rfl, hq_3⟩
          have hb_3 := hb_2.trans (hq_3.mono hb_2.size)
          refine hK.out _ _ (fun _ => HSS.out _ hb_3) (fun hS9 => ?_)
          have hS_3 := hS9 (by decide)
          clear hK K hS9
          try simp only [Act.put, List.setIfInBounds_toArray, List.set_cons_zero, List.set_cons_succ]
          refine wpAnyK_take (i := 11) (oi := ⟨some 32, _, _, _, _, _⟩) (v := .int .i64 ((nu : Int) + (us : Int))) rfl (by kernel_rfl) (by kernel_rfl) (by kernel_rfl) (by kernel_rfl) (fun _ _ _ h => h) (.inl ⟨by kernel_rfl, fun W hW => by first | (obtain ⟨z0, z1, z2, z3, z4, z5, z6, z7⟩ := hW; go_simp; done) | (obtain ⟨z0, z1, z2, z3, z4, z5, z6, z7⟩ := hW; go_simp; omega) | (obtain ⟨z0, z1, z2, z3, z4, z5, z6, z7⟩ := hW; go_simp; exact IntWalk.i64_in _ (by omega)) | (obtain ⟨z0, z1, z2, z3, z4, z5, z6, z7⟩ := hW; go_simp; simp [*]; done)⟩) hS_3 ?_
          try simp only [Act.put, List.setIfInBounds_toArray, List.set_cons_zero, List.set_cons_succ]
          refine wpAnyK_one (i := 12) rfl rfl (by kernel_rfl) (fun K hK => ?_)
          go_simp
          refine hK.out _ _ (fun h => absurd rfl h) (fun _ => ?_)
          clear hK K
          try simp only [Act.put, List.setIfInBounds_toArray, List.set_cons_zero, List.set_cons_succ]
          refine wpAnyK_done (by kernel_rfl) ?_ _
          have hbx := hb_3
          clear HBI HUS
          go_wp2_with fail
          go_roundw
          case rel =>
            have hbw9 := HBW.out.trans (hbx.mono HBW.out.size)
            refine ⟨i + 1, by omega, by go_num, by rw [HS.out]; exact congrArg (Value.int .i64) (by omega), L2.out.below hbx L2.out.lt, hbw9⟩
          case measure => simp [intOf]; omega
        · go_wp2_with fail
          go_ret
          obtain rfl : i = m := by omega
          refine ⟨?_, hbw⟩
          rw [List.take_of_length_le (by omega)]
          rw [HE.out]
          exact ret_int (by omega)
end Lx
end Go.Proofs.Ytcefopaphaeejaa
namespace Go.Proofs.Ytcefopaphaeejaa
open Go Go.RowKit
namespace Lx
set_option maxRecDepth 100000
/-- A number more, at its place, if it is not there: what is laid so far, and is it laid? -/
def wStep (n : Int) (s : List Int × Bool) (x : Int) : List Int × Bool :=
  ((if s.2 = false ∧ n ≤ x then s.1 ++ [n] else s.1) ++ (if x = n then [] else [x]), s.2 || decide (n ≤ x))
def wFold (n : Int) (xs : List Int) : List Int × Bool := xs.foldl (wStep n) ([], false)
def insL (xs : List Int) (n : Int) : List Int := (wFold n xs).1 ++ (if (wFold n xs).2 then [] else [n])
theorem wFold_take (n : Int) (xs : List Int) (i : Nat) (h : i < xs.length) : wFold n (xs.take (i + 1)) = wStep n (wFold n (xs.take i)) (xs[i]'h) := by
  simp only [wFold]
  rw [List.take_succ_eq_append_getElem h, List.foldl_append]
  rfl
theorem wFold_len (n : Int) (xs : List Int) : (wFold n xs).1.length ≤ 2 * xs.length := by
  have : ∀ (ys : List Int) (s : List Int × Bool), (ys.foldl (wStep n) s).1.length ≤ s.1.length + 2 * ys.length := by
    intro ys
    induction ys with
    | nil => intro s; simp
    | cons y r ih =>
      intro s
      rw [List.foldl_cons]
      have := ih (wStep n s y)
      have h2 : (wStep n s y).1.length ≤ s.1.length + 2 := by
        simp only [wStep, List.length_append]
        split <;> split <;> simp
      simp only [List.length_cons]
      omega
  have := this xs ([], false)
  simpa [wFold] using this
theorem wFold_take_len (n : Int) (xs : List Int) (i : Nat) : (wFold n (xs.take i)).1.length ≤ 2 * xs.length := by
  have := wFold_len n (xs.take i)
  have : (xs.take i).length ≤ xs.length := by simp; omega
  omega
set_option maxHeartbeats 4000000 in
theorem with_any (A : Option Addr) (c : Nat) (xs : List Int) (n : Int) (w : World) (hx : RowI w A xs) (hxl : xs.length ≤ 10000000) (_hn0 : -9223372036854775808 ≤ n) (_hn1 : n ≤ 9223372036854775807) :
    Calls Try.prog 48 #[.slice A xs.length c, .int .i64 n] w (GivesI (insL xs n) w) := by
  have HX := Lib.hid hx
  clear hx
  obtain ⟨R, hR⟩ : ∃ R, R = GivesI (insL xs n) w := ⟨_, rfl⟩
  rw [← hR]
  have HR := Lib.hid hR
  obtain ⟨m, hm⟩ : ∃ m, m = xs.length := ⟨_, rfl⟩
  have HM := Lib.hid hm
  rw [← hm] at hxl ⊢
  obtain ⟨i0, hi0, hz0, hz1, hz2⟩ := info_parts infoI
  clear hR hm
  go_enter Try.func48, Try.ntmps48
  go_wp2_with fail
  obtain ⟨w1, hw1⟩ : ∃ w1, w1 = w.alloc (.cells #[] 3) := ⟨_, rfl⟩
  have hb1 : Below w.heap.size w w1 := by rw [hw1]; exact (Below.refl _ w).alloc (Nat.le_refl _) _
  have hr1 : w1.ownsRow w.heap.size 3 1 (.slice (some ⟨w.heap.size, 0, none⟩) 0 0) 0 (vI []) := by rw [hw1]; exact World.ownsRow_made w #[] 0 (Nat.le_refl _) (by simp [maxLen]) (by simp)
  rw [← hw1]
  clear hw1
  go_loopw [5, 6, 7] (fun v l x wr => ∃ (i : Nat) (out : List Int) (laid : Bool) (Av : Option Addr) (cv : Nat), i ≤ m ∧ x = .int .i64 i ∧ v = .slice Av out.length cv ∧ l = .bool laid ∧ Hid (wFold n (xs.take i) = (out, laid)) ∧ wr.ownsRow w.heap.size 3 1 (.slice Av out.length cv) out.length (vI out) ∧ Below w.heap.size w wr) (fun _ _ x _ => m - (intOf x).toNat)
  case atStart => exact ⟨0, [], false, _, _, Nat.zero_le _, rfl, rfl, rfl, Lib.hid (by simp [wFold]), hr1, hb1⟩
  case round =>
    obtain ⟨i, out, laid, Av, cv, hi, rfl, rfl, rfl, HT, hrow, hbw⟩ := hrel
    clear hr1 hb1
    have hbs := hbw.size
    have hol : out.length ≤ 2 * m := by
      have := wFold_take_len n xs i
      rw [HT.out, ← HM.out] at this
      exact this
    by_cases hlt : i < m
    · have hix : i < xs.length := by rw [← HM.out]; exact hlt
      obtain ⟨g, o, rfl, c0⟩ := HX.out i hix
      have hgl := World.block_lt_of_cell? w _ c0
      have HC := Lib.hid c0
      have HTK := Lib.hid (wFold_take n xs i hix)
      have d0 := (hbw.cell (p := ⟨g, o + i, none⟩) hgl).trans c0
      clear c0
      obtain ⟨x, hxe⟩ : ∃ x, x = xs[i]'hix := ⟨_, rfl⟩
      rw [← hxe] at HC HTK d0
      clear hxe
      cases laid
      · by_cases hge : n ≤ x
        · by_cases heq : x = n
          · have HT2 : Hid (wFold n (xs.take (i + 1)) = (out ++ [n], true)) := Lib.hid (by rw [HTK.out, HT.out, wStep]; simp [heq])
            have HGE := Lib.hid hge
            have hneq : (x != n) = false := by simp [heq]
            clear heq HTK
            go_upto_region 9 with (at_builtin; refine wpList_append_own _ rfl _ _ 30 rfl w.heap.size 3 i0 (.int .i64 0) 1 8 Try.underlying30 hi0 hz0 hz1 hz2 rfl (by decide) _ _ _ rfl (hrow.alloc _) ⟨wr.heap.size, 0, none⟩ 1 1 [.int .i64 n] rfl rfl (cell_one_new _ _ _) (by simp [Value.oneCell']) (by simp only [maxLen]; omega) (by omega) (by simp; omega) ?_; intro v1 y1 ho1 hg1 _; obtain ⟨g1, cap1, rfl⟩ := ownsRow_succ ho1)
            have hb1 : Below w.heap.size w y1 := (hbw.alloc (by omega) _).grown hg1 (by simp; omega) (fun q hq => (hrow.lt q hq).1)
            have hs1 := hb1.size
            have d0 := (hb1.cell (p := ⟨g, o + i, none⟩) hgl).trans HC.out
            go_wp2_with fail
            go_roundw
            case rel => exact ⟨i + 1, out ++ [n], true, some ⟨g1, 0, none⟩, cap1, by omega, by go_num, by simp, rfl, HT2, by simpa [vI] using ho1, hb1⟩
            case measure => simp [intOf]; omega
          · have HT2 : Hid (wFold n (xs.take (i + 1)) = (out ++ [n] ++ [x], true)) := Lib.hid (by rw [HTK.out, HT.out, wStep]; simp [hge, heq])
            have HGE := Lib.hid hge
            have hneq : (x != n) = true := by simp [heq]
            clear heq HTK
            go_upto_region 9 with (at_builtin; refine wpList_append_own _ rfl _ _ 30 rfl w.heap.size 3 i0 (.int .i64 0) 1 8 Try.underlying30 hi0 hz0 hz1 hz2 rfl (by decide) _ _ _ rfl (hrow.alloc _) ⟨wr.heap.size, 0, none⟩ 1 1 [.int .i64 n] rfl rfl (cell_one_new _ _ _) (by simp [Value.oneCell']) (by simp only [maxLen]; omega) (by omega) (by simp; omega) ?_; intro v1 y1 ho1 hg1 _; obtain ⟨g1, cap1, rfl⟩ := ownsRow_succ ho1)
            have hb1 : Below w.heap.size w y1 := (hbw.alloc (by omega) _).grown hg1 (by simp; omega) (fun q hq => (hrow.lt q hq).1)
            have hs1 := hb1.size
            have d0 := (hb1.cell (p := ⟨g, o + i, none⟩) hgl).trans HC.out
            go_wp2_with (at_builtin; refine wpList_append_own _ rfl _ _ 30 rfl w.heap.size 3 i0 (.int .i64 0) 1 8 Try.underlying30 hi0 hz0 hz1 hz2 rfl (by decide) _ _ _ rfl (ho1.alloc _) ⟨y1.heap.size, 0, none⟩ 1 1 [.int .i64 x] rfl rfl (cell_one_new _ _ _) (by simp [Value.oneCell']) (by simp only [maxLen]; omega) (by omega) (by simp; omega) ?_; intro v2 y2 ho2 hg2 _; obtain ⟨g2, cap2, rfl⟩ := ownsRow_succ ho2)
            have hb2 : Below w.heap.size w y2 := (hb1.alloc (by omega) _).grown hg2 (by simp; omega) (fun q hq => (ho1.lt q hq).1)
            have hs2 := hb2.size
            go_roundw
            case rel => exact ⟨i + 1, out ++ [n] ++ [x], true, some ⟨g2, 0, none⟩, cap2, by omega, by go_num, by simp, rfl, HT2, by simpa [vI] using ho2, hb2⟩
            case measure => simp [intOf]; omega
        · have heq : ¬ x = n := by omega
          have HT2 : Hid (wFold n (xs.take (i + 1)) = (out ++ [x], false)) := Lib.hid (by rw [HTK.out, HT.out, wStep]; simp [hge, heq])
          have HGE := Lib.hid hge
          have hneq : (x != n) = true := by simp [heq]
          clear heq HTK
          go_wp2_with (at_builtin; refine wpList_append_own _ rfl _ _ 30 rfl w.heap.size 3 i0 (.int .i64 0) 1 8 Try.underlying30 hi0 hz0 hz1 hz2 rfl (by decide) _ _ _ rfl (hrow.alloc _) ⟨wr.heap.size, 0, none⟩ 1 1 [.int .i64 x] rfl rfl (cell_one_new _ _ _) (by simp [Value.oneCell']) (by simp only [maxLen]; omega) (by omega) (by simp; omega) ?_; intro v2 y2 ho2 hg2 _; obtain ⟨g2, cap2, rfl⟩ := ownsRow_succ ho2)
          have hb2 : Below w.heap.size w y2 := (hbw.alloc (by omega) _).grown hg2 (by simp; omega) (fun q hq => (hrow.lt q hq).1)
          have hs2 := hb2.size
          go_roundw
          case rel => exact ⟨i + 1, out ++ [x], false, some ⟨g2, 0, none⟩, cap2, by omega, by go_num, by simp, rfl, HT2, by simpa [vI] using ho2, hb2⟩
          case measure => simp [intOf]; omega
      · by_cases heq : x = n
        · have HT2 : Hid (wFold n (xs.take (i + 1)) = (out, true)) := Lib.hid (by rw [HTK.out, HT.out, wStep]; simp [heq])
          have hneq : (x != n) = false := by simp [heq]
          clear heq HTK
          go_wp2_with fail
          go_roundw
          case rel => exact ⟨i + 1, out, true, Av, cv, by omega, by go_num, rfl, rfl, (by simpa using HT2), hrow, hbw⟩
          case measure => simp [intOf]; omega
        · have HT2 : Hid (wFold n (xs.take (i + 1)) = (out ++ [x], true)) := Lib.hid (by rw [HTK.out, HT.out, wStep]; simp [heq])
          have hneq : (x != n) = true := by simp [heq]
          clear heq HTK
          go_wp2_with (at_builtin; refine wpList_append_own _ rfl _ _ 30 rfl w.heap.size 3 i0 (.int .i64 0) 1 8 Try.underlying30 hi0 hz0 hz1 hz2 rfl (by decide) _ _ _ rfl (hrow.alloc _) ⟨wr.heap.size, 0, none⟩ 1 1 [.int .i64 x] rfl rfl (cell_one_new _ _ _) (by simp [Value.oneCell']) (by simp only [maxLen]; omega) (by omega) (by simp; omega) ?_; intro v2 y2 ho2 hg2 _; obtain ⟨g2, cap2, rfl⟩ := ownsRow_succ ho2)
          have hb2 : Below w.heap.size w y2 := (hbw.alloc (by omega) _).grown hg2 (by simp; omega) (fun q hq => (hrow.lt q hq).1)
          have hs2 := hb2.size
          go_roundw
          case rel => exact ⟨i + 1, out ++ [x], true, some ⟨g2, 0, none⟩, cap2, by omega, by go_num, by simp, rfl, HT2, by simpa [vI] using ho2, hb2⟩
          case measure => simp [intOf]; omega
    · obtain rfl : i = m := by omega
      have hT2 : wFold n xs = (out, laid) := by
        have := HT.out
        rwa [HM.out, List.take_length] at this
      have hW : insL xs n = out ++ (if laid then [] else [n]) := by rw [insL, hT2]
      have HW := Lib.hid hW
      clear hT2 hW
      cases laid
      · go_wp2_with (at_builtin; refine wpList_append_own _ rfl _ _ 30 rfl w.heap.size 3 i0 (.int .i64 0) 1 8 Try.underlying30 hi0 hz0 hz1 hz2 rfl (by decide) _ _ _ rfl (hrow.alloc _) ⟨wr.heap.size, 0, none⟩ 1 1 [.int .i64 n] rfl rfl (cell_one_new _ _ _) (by simp [Value.oneCell']) (by simp only [maxLen]; omega) (by omega) (by simp; omega) ?_; intro v1 y1 ho1 hg1 _; obtain ⟨g1, cap1, rfl⟩ := ownsRow_succ ho1)
        have hb1 : Below w.heap.size w y1 := (hbw.alloc (by omega) _).grown hg1 (by simp; omega) (fun q hq => (hrow.lt q hq).1)
        rw [HR.out, GivesI, HW.out]
        exact ⟨some ⟨g1, 0, none⟩, cap1, by simp, by simpa [vI] using ho1, hb1⟩
      · go_wp2_with fail
        rw [HR.out, GivesI, HW.out]
        exact ⟨Av, cv, by simp, by simpa [vI] using hrow, hbw⟩
end Lx
end Go.Proofs.Ytcefopaphaeejaa
namespace Go.Proofs.Ytcefopaphaeejaa
open Go Go.RowKit
namespace Lx
set_option maxRecDepth 100000
theorem insL_len (xs : List Int) (n : Int) : (insL xs n).length ≤ xs.length + 1 := by
  have : ∀ (ys : List Int) (s : List Int × Bool), (ys.foldl (wStep n) s).1.length + (if (ys.foldl (wStep n) s).2 then 0 else 1) ≤ s.1.length + ys.length + (if s.2 then 0 else 1) := by
    intro ys
    induction ys with
    | nil => intro s; exact Nat.le_refl _
    | cons y r ih =>
      intro s
      rw [List.foldl_cons]
      have h1 := ih (wStep n s y)
      have h2 : (wStep n s y).1.length + (if (wStep n s y).2 then 0 else 1) ≤ s.1.length + 1 + (if s.2 then 0 else 1) := by
        obtain ⟨a, q⟩ := s
        by_cases hy : y = n
        · cases q <;> simp [wStep, hy]
        · cases q <;> by_cases hn : n ≤ y <;> simp [wStep, hy, hn]
      simp only [List.length_cons]
      omega
  have h := this xs ([], false)
  rw [insL, wFold, List.length_append]
  simp at h
  split
  · rename_i h1
    simp [h1] at h
    simp; omega
  · rename_i h1
    simp [h1] at h
    simp; omega
/-- The document's free, onto what is met. -/
def rfE (t : Te) (b : Int) (xs : List Int) : List Int := (fvE t b).foldl insL xs
def rfEL (l : List Te) (b : Int) (xs : List Int) : List Int := (fvEL l b).foldl insL xs
theorem rf_len (ys xs : List Int) : (ys.foldl insL xs).length ≤ xs.length + ys.length := by
  induction ys generalizing xs with
  | nil => simp
  | cons y r ih => rw [List.foldl_cons]; have := ih (insL xs y); have := insL_len xs y; simp only [List.length_cons]; omega
theorem rfEL_len (l : List Te) (b : Int) (xs : List Int) : (rfEL l b xs).length ≤ xs.length + sizeEL l := by
  have := rf_len (fvEL l b) xs
  have := fvEL_len l b
  rw [rfEL]; omega
theorem rfEL_take (l : List Te) (i : Nat) (b : Int) (xs : List Int) (h : i < l.length) : rfEL (l.take (i + 1)) b xs = rfE (l[i]'h) b (rfEL (l.take i) b xs) := by
  rw [rfEL, fvEL_take l i b h, List.foldl_append]
  rfl
def GivesR (ys : List Int) (w : World) (e : Ending) (w' : World) : Prop := ∃ A c, e = .returned (.slice A ys.length c) ∧ RowI w' A ys ∧ Below w.heap.size w w'
set_option maxHeartbeats 4000000 in
theorem rfree_any (d : Nat) : ∀ (t : Te) (A : Option Addr) (c : Nat) (b : Int) (xs : List Int) (Al : Option Addr) (cl : Nat) (w : World), depthE t ≤ d → d ≤ 4000 → xs.length + sizeE t ≤ 10000000 → tameE 1099511627776 1099511627776 t → -(1099511627776 * (8000 - (d : Int))) ≤ b → b ≤ 1099511627776 * (8000 - (d : Int)) → EIn w Any t A → RowI w Al xs →
    Calls Try.prog 38 #[ev t A c, .int .i64 b, .slice Al xs.length cl] w (GivesR (rfE t b xs) w) := by
  induction d with
  | zero => intro t A c b xs Al cl w h; have := depthE_pos t; omega
  | succ d ih =>
    intro t A c b xs Al cl w hd hd4 hs ht hj0 hj1 hI hX
    obtain ⟨k, n, s, l⟩ := t
    have hdL : depthEL l ≤ d := by rw [depthE] at hd; omega
    have hsL : xs.length + sizeEL l < 10000000 := by rw [sizeE] at hs; omega
    have hlen := sizeEL_len l
    rw [tameE] at ht
    show Calls Try.prog 38 #[.agg #[.int .i64 k, .int .i64 n, .string s, .slice A l.length (capF l.length c)], .int .i64 b, .slice Al xs.length cl] w _
    generalize capF l.length c = c
    have HXX := Lib.hid hX
    clear hX
    by_cases hk : k = 1
    · subst hk
      have ht1 := ht.1 rfl
      obtain rfl := ht1.2.2
      have hb : Below w.heap.size w (w.alloc (.cells #[.int .i64 1, .int .i64 n, .string s, .slice A 0 c] 24)) := (Below.refl _ w).alloc (Nat.le_refl _) _
      have HXb := Lib.hid (HXX.out.below hb (Nat.le_refl _))
      clear ht ih hd hs hI
      show Calls Try.prog 38 #[.agg #[.int .i64 1, .int .i64 n, .string s, .slice A 0 c], .int .i64 b, .slice Al xs.length cl] w _
      by_cases hn : b ≤ n
      · have HE : Hid (rfE (.node 1 n s []) b xs = insL xs (n - b)) := by
          refine Lib.hid ?_
          rw [rfE, fvE, if_pos rfl, if_pos (by omega)]; rfl
        have HW := Lib.hid (with_any Al cl xs (n - b) _ HXb.out (by omega) (by omega) (by omega))
        go_enter Try.func38, Try.ntmps38
        go_wp2_with fail
        refine HW.out.mono ?_
        rintro e w2 ⟨A2, c2, rfl, hr2, hb2⟩
        go_wp2_with fail
        go_ret
        exact ⟨A2, c2, by rw [HE.out]; rfl, by rw [HE.out]; exact rowI_own hr2, hb.trans (hb2.mono hb.size)⟩
      · have HE : Hid (rfE (.node 1 n s []) b xs = xs) := by
          refine Lib.hid ?_
          rw [rfE, fvE, if_pos rfl, if_neg (by omega)]; rfl
        go_enter Try.func38, Try.ntmps38
        go_wp2_with fail
        go_ret
        exact ⟨Al, cl, by rw [HE.out]; rfl, by rw [HE.out]; exact HXb.out, hb⟩
    · have hk1 : (k == 1) = false := by simpa using hk
      obtain ⟨mo, hmoe⟩ : ∃ mo, mo = moreE k n := ⟨_, rfl⟩
      have HE : Hid (rfE (.node k n s l) b xs = rfEL l (b + mo) xs) := by
        refine Lib.hid ?_
        rw [rfE, fvE, if_neg hk, hmoe]; rfl
      have hn6 := ht.2.1
      have HT := Lib.hid ht.2.2
      have HI := Lib.hid hI
      clear hI ht hd hs
      obtain ⟨m, hm⟩ : ∃ m, m = l.length := ⟨_, rfl⟩
      rw [← hm]
      have hm1 : m ≤ l.length := by omega
      have hm2 : l.length ≤ m := by omega
      clear hm
      have hb0 : Below w.heap.size w (w.alloc (.cells #[.int .i64 k, .int .i64 n, .string s, .slice A m c] 24)) := (Below.refl _ w).alloc (Nat.le_refl _) _
      have l0 := Lies.new w 24 #[.int .i64 k, .int .i64 n, .string s, .slice A m c]
      have HXb := Lib.hid (HXX.out.below hb0 (Nat.le_refl _))
      clear HXX
      by_cases hk2 : k = 2
      · have hmo : mo = 1 := by rw [hmoe, moreE, if_pos hk2]
        clear hmoe
        subst hmo hk2
        clear hn6 hk1 hk
        go_enter Try.func38, Try.ntmps38
        go_wp2_with fail
        go_loopw [2, 7] (fun v x wr => ∃ (i : Nat) (Av : Option Addr) (cv : Nat), i ≤ m ∧ x = .int .i64 i ∧ v = .slice Av (rfEL (l.take i) (b + 1) xs).length cv ∧ RowI wr Av (rfEL (l.take i) (b + 1) xs) ∧ Lies wr w.heap.size 24 #[.int .i64 2, .int .i64 n, .string s, .slice A m c] ∧ Below w.heap.size w wr) (fun _ x _ => m - (intOf x).toNat)
        case atStart => exact ⟨0, Al, cl, by omega, rfl, by simp [rfEL, fvEL], by simpa [rfEL, fvEL] using HXb.out, l0, hb0⟩
        case round =>
          obtain ⟨i, Av, cv, hi, rfl, rfl, hrow, l2, hbw⟩ := hrel
          have hbs := hbw.size
          have c3 := l2.cell 3
          simp at c3
          by_cases hlt : i < m
          · have hia : i < l.length := by omega
            obtain ⟨g, o, A', c', ⟨hA, _⟩, d0, d1, d2, d3, hIn⟩ := EIn.part (EIn.below _ HI.out hbw (Nat.le_refl _)) i hia
            subst hA
            have hm3 := depthEL_mem l (l[i]'hia) (List.getElem_mem hia)
            have hm4 := sizeEL_take_add l i hia
            have hm5 := rfEL_len (l.take i) (b + 1) xs
            have ht5 := tameEL_mem l (l[i]'hia) (List.getElem_mem hia) HT.out
            have HS := Lib.hid (rfEL_take l i (b + 1) xs hia)
            simp only [Te.parts] at d0 d1 d2 d3 hIn
            obtain ⟨tr, hu⟩ : ∃ tr, tr = l[i]'hia := ⟨_, rfl⟩
            rw [← hu] at d0 d1 d2 d3 hIn hm3 hm4 HS ht5
            clear hu
            obtain ⟨ys, hys⟩ : ∃ ys, ys = rfEL (l.take i) (b + 1) xs := ⟨_, rfl⟩
            rw [← hys] at hrow hm5 HS ⊢
            clear hys
            obtain ⟨tk, tn, ts, tl⟩ := tr
            simp only [Te.kind, Te.n, Te.name] at d0 d1 d2 d3
            have HIH := Lib.hid (ih (.node tk tn ts tl) A' c' (b + 1) ys Av cv wr (by omega) (by omega) (by omega) ht5 (by omega) (by omega) hIn hrow)
            have L2 := Lib.hid l2
            clear l2 hIn ht5 hrow
            go_wp2_with fail
            refine HIH.out.mono ?_
            rintro e w2 ⟨A2, c2, rfl, hr2, hb2⟩
            go_wp2_with fail
            go_roundw
            case rel => exact ⟨i + 1, A2, c2, by omega, by go_num, by rw [HS.out], by rw [HS.out]; exact hr2, L2.out.below hb2 L2.out.lt, hbw.trans (hb2.mono hbs)⟩
            case measure => simp [intOf]; omega
          · go_wp2_with fail
            go_ret
            obtain rfl : i = m := by omega
            have hE : rfE (.node 2 n s l) b xs = rfEL (l.take l.length) (b + 1) xs := by rw [HE.out, List.take_length]
            have hl9 : i = l.length := by omega
            rw [hl9] at hrow ⊢
            exact ⟨Av, cv, by rw [hE]; rfl, by rw [hE]; exact hrow, hbw⟩
      · have hk3 : (k == 2) = false := by simpa using hk2
        by_cases hk6 : k = 6
        · have hmo : n = mo := by rw [hmoe, hk6, moreE, if_neg (by decide), if_pos rfl]
          have hn7 := hn6 hk6
          clear hmoe
          subst hmo hk6
          clear hn6 hk1 hk hk3 hk2
          go_enter Try.func38, Try.ntmps38
          go_wp2_with fail
          go_loopw [2, 7] (fun v x wr => ∃ (i : Nat) (Av : Option Addr) (cv : Nat), i ≤ m ∧ x = .int .i64 i ∧ v = .slice Av (rfEL (l.take i) (b + n) xs).length cv ∧ RowI wr Av (rfEL (l.take i) (b + n) xs) ∧ Lies wr w.heap.size 24 #[.int .i64 6, .int .i64 n, .string s, .slice A m c] ∧ Below w.heap.size w wr) (fun _ x _ => m - (intOf x).toNat)
          case atStart => exact ⟨0, Al, cl, by omega, rfl, by simp [rfEL, fvEL], by simpa [rfEL, fvEL] using HXb.out, l0, hb0⟩
          case round =>
            obtain ⟨i, Av, cv, hi, rfl, rfl, hrow, l2, hbw⟩ := hrel
            have hbs := hbw.size
            have c3 := l2.cell 3
            simp at c3
            by_cases hlt : i < m
            · have hia : i < l.length := by omega
              obtain ⟨g, o, A', c', ⟨hA, _⟩, d0, d1, d2, d3, hIn⟩ := EIn.part (EIn.below _ HI.out hbw (Nat.le_refl _)) i hia
              subst hA
              have hm3 := depthEL_mem l (l[i]'hia) (List.getElem_mem hia)
              have hm4 := sizeEL_take_add l i hia
              have hm5 := rfEL_len (l.take i) (b + n) xs
              have ht5 := tameEL_mem l (l[i]'hia) (List.getElem_mem hia) HT.out
              have HS := Lib.hid (rfEL_take l i (b + n) xs hia)
              simp only [Te.parts] at d0 d1 d2 d3 hIn
              obtain ⟨tr, hu⟩ : ∃ tr, tr = l[i]'hia := ⟨_, rfl⟩
              rw [← hu] at d0 d1 d2 d3 hIn hm3 hm4 HS ht5
              clear hu
              obtain ⟨ys, hys⟩ : ∃ ys, ys = rfEL (l.take i) (b + n) xs := ⟨_, rfl⟩
              rw [← hys] at hrow hm5 HS ⊢
              clear hys
              obtain ⟨tk, tn, ts, tl⟩ := tr
              simp only [Te.kind, Te.n, Te.name] at d0 d1 d2 d3
              have HIH := Lib.hid (ih (.node tk tn ts tl) A' c' (b + n) ys Av cv wr (by omega) (by omega) (by omega) ht5 (by omega) (by omega) hIn hrow)
              have L2 := Lib.hid l2
              clear l2 hIn ht5 hrow
              go_wp2_with fail
              refine HIH.out.mono ?_
              rintro e w2 ⟨A2, c2, rfl, hr2, hb2⟩
              go_wp2_with fail
              go_roundw
              case rel => exact ⟨i + 1, A2, c2, by omega, by go_num, by rw [HS.out], by rw [HS.out]; exact hr2, L2.out.below hb2 L2.out.lt, hbw.trans (hb2.mono hbs)⟩
              case measure => simp [intOf]; omega
            · go_wp2_with fail
              go_ret
              obtain rfl : i = m := by omega
              have hE : rfE (.node 6 n s l) b xs = rfEL (l.take l.length) (b + n) xs := by rw [HE.out, List.take_length]
              have hl9 : i = l.length := by omega
              rw [hl9] at hrow ⊢
              exact ⟨Av, cv, by rw [hE]; rfl, by rw [hE]; exact hrow, hbw⟩
        · have hk4 : (k == 6) = false := by simpa using hk6
          have hmo : mo = 0 := by rw [hmoe, moreE, if_neg hk2, if_neg hk6]
          have HE0 := Lib.hid (show b + 0 = b by omega)
          clear hmoe
          subst hmo
          clear hn6 hk hk2 hk6
          simp only [Int.add_zero] at HE
          go_enter Try.func38, Try.ntmps38
          go_wp2_with fail
          go_loopw [2, 7] (fun v x wr => ∃ (i : Nat) (Av : Option Addr) (cv : Nat), i ≤ m ∧ x = .int .i64 i ∧ v = .slice Av (rfEL (l.take i) b xs).length cv ∧ RowI wr Av (rfEL (l.take i) b xs) ∧ Lies wr w.heap.size 24 #[.int .i64 k, .int .i64 n, .string s, .slice A m c] ∧ Below w.heap.size w wr) (fun _ x _ => m - (intOf x).toNat)
          case atStart => exact ⟨0, Al, cl, by omega, rfl, by simp [rfEL, fvEL], by simpa [rfEL, fvEL] using HXb.out, l0, hb0⟩
          case round =>
            obtain ⟨i, Av, cv, hi, rfl, rfl, hrow, l2, hbw⟩ := hrel
            have hbs := hbw.size
            have c3 := l2.cell 3
            simp at c3
            by_cases hlt : i < m
            · have hia : i < l.length := by omega
              obtain ⟨g, o, A', c', ⟨hA, _⟩, d0, d1, d2, d3, hIn⟩ := EIn.part (EIn.below _ HI.out hbw (Nat.le_refl _)) i hia
              subst hA
              have hm3 := depthEL_mem l (l[i]'hia) (List.getElem_mem hia)
              have hm4 := sizeEL_take_add l i hia
              have hm5 := rfEL_len (l.take i) b xs
              have ht5 := tameEL_mem l (l[i]'hia) (List.getElem_mem hia) HT.out
              have HS := Lib.hid (rfEL_take l i b xs hia)
              simp only [Te.parts] at d0 d1 d2 d3 hIn
              obtain ⟨tr, hu⟩ : ∃ tr, tr = l[i]'hia := ⟨_, rfl⟩
              rw [← hu] at d0 d1 d2 d3 hIn hm3 hm4 HS ht5
              clear hu
              obtain ⟨ys, hys⟩ : ∃ ys, ys = rfEL (l.take i) b xs := ⟨_, rfl⟩
              rw [← hys] at hrow hm5 HS ⊢
              clear hys
              obtain ⟨tk, tn, ts, tl⟩ := tr
              simp only [Te.kind, Te.n, Te.name] at d0 d1 d2 d3
              have HIH := Lib.hid (ih (.node tk tn ts tl) A' c' b ys Av cv wr (by omega) (by omega) (by omega) ht5 (by omega) (by omega) hIn hrow)
              have L2 := Lib.hid l2
              clear l2 hIn ht5 hrow
              go_wp2_with fail
              refine HIH.out.mono ?_
              rintro e w2 ⟨A2, c2, rfl, hr2, hb2⟩
              go_wp2_with fail
              go_roundw
              case rel => exact ⟨i + 1, A2, c2, by omega, by go_num, by rw [HS.out], by rw [HS.out]; exact hr2, L2.out.below hb2 L2.out.lt, hbw.trans (hb2.mono hbs)⟩
              case measure => simp [intOf]; omega
            · go_wp2_with fail
              go_ret
              obtain rfl : i = m := by omega
              have hE : rfE (.node k n s l) b xs = rfEL (l.take l.length) b xs := by rw [HE.out, List.take_length]
              have hl9 : i = l.length := by omega
              rw [hl9] at hrow ⊢
              exact ⟨Av, cv, by rw [hE]; rfl, by rw [hE]; exact hrow, hbw⟩
theorem rowI_nil (w : World) (A : Option Addr) : RowI w A [] := fun j hj => by simp at hj
/-- The document's Free. -/
def rfreeE (t : Te) : List Int := rfE t 0 []
theorem rFree_any (t : Te) (A : Option Addr) (c : Nat) (w : World) (hd : depthE t ≤ 4000) (hs : sizeE t ≤ 1000000) (ht : tameE 1099511627776 1099511627776 t) (hI : EIn w Any t A) :
    Calls Try.prog 15 #[ev t A c] w (GivesR (rfreeE t) w) := by
  obtain ⟨k, n, s, l⟩ := t
  have hb : Below w.heap.size w (w.alloc (.cells #[.int .i64 k, .int .i64 n, .string s, .slice A l.length (capF l.length c)] 24)) := (Below.refl _ w).alloc (Nat.le_refl _) _
  have HM := Lib.hid (rfree_any (depthE (.node k n s l)) (.node k n s l) A c 0 [] none 0 (w.alloc (.cells #[.int .i64 k, .int .i64 n, .string s, .slice A l.length (capF l.length c)] 24)) (Nat.le_refl _) hd (by simp; omega) ht (by omega) (by omega) (EIn.below _ hI hb (Nat.le_refl _)) (rowI_nil _ _))
  clear hI
  show Calls Try.prog 15 #[.agg #[.int .i64 k, .int .i64 n, .string s, .slice A l.length (capF l.length c)]] w _
  go_enter Try.func15, Try.ntmps15
  go_wp2_with fail
  refine HM.out.mono ?_
  rintro e w2 ⟨A2, c2, rfl, hr2, hb2⟩
  go_wp2_with fail
  go_ret
  exact ⟨A2, c2, rfl, hr2, hb.trans (hb2.mono hb.size)⟩
end Lx
end Go.Proofs.Ytcefopaphaeejaa
