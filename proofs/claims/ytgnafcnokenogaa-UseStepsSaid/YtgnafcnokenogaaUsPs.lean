/-
  Plainly: a step of a closed term none of whose variables is used twice.
-/
import Derived.Test.YtgnafcnokenogaaC18
import Derived.Test.YtgnafcnokenogaaC17
namespace Go.Proofs.Ytgnafcnokenogaa
open Go Go.RowKit
namespace Lx
set_option maxRecDepth 100000
mutual
theorem cl_more : ∀ (t : Te) (f g : Int), clE t f → f ≤ g → clE t g
  | .node k n s l, f, g, h, hg => by
    rw [clE] at h ⊢
    exact ⟨fun hk => ⟨(h.1 hk).1, by have := (h.1 hk).2.1; omega, (h.1 hk).2.2⟩, h.2.1, clL_more l _ _ h.2.2 (by omega)⟩
theorem clL_more : ∀ (l : List Te) (f g : Int), clEL l f → f ≤ g → clEL l g
  | [], _, _, _, _ => by rw [clEL]; trivial
  | t :: r, f, g, h, hg => by rw [clEL] at h ⊢; exact ⟨cl_more t f g h.1 hg, clL_more r f g h.2 hg⟩
end
mutual
/-- A closed term put: how often the other free ones are used. -/
theorem put_usesU : ∀ (t : Te) (b j : Int) (s : Te) (f : Int), clE s 0 → clE t f → 0 ≤ b → 0 ≤ j → usesE (chE (putF 0 s) t b) (b + j) = usesE t (b + j + 1)
  | .node k' n z l, b, j, s, f, hs, ht, hb, hj => by
    rw [clE] at ht
    rw [chE, usesE]
    by_cases hk : k' = 1
    · rw [if_pos hk, if_pos hk, putF]
      by_cases h1 : n = 0 + b
      · rw [if_pos h1, upE, up_cl s b 0 hs, uses_cl s 0 (b + j) hs (by omega), if_neg (by omega)]
      · rw [if_neg h1, usesE, if_pos rfl]
        by_cases h2 : 0 + b < n
        · rw [if_pos h2]
          by_cases h3 : n - 1 = b + j
          · rw [if_pos h3, if_pos (by omega)]
          · rw [if_neg h3, if_neg (by omega)]
        · rw [if_neg h2, if_neg (by omega), if_neg (by omega)]
    · have hm := more_nn (k := k') (n := n) (fun h => (ht.2.1 h).1)
      rw [if_neg hk, if_neg hk, usesE, if_neg hk]
      have := put_usesUL l (b + moreE k' n) j s _ hs ht.2.2 (by omega) hj
      rw [show b + j + moreE k' n = b + moreE k' n + j from by omega, show b + j + 1 + moreE k' n = b + moreE k' n + j + 1 from by omega]
      exact this
theorem put_usesUL : ∀ (l : List Te) (b j : Int) (s : Te) (f : Int), clE s 0 → clEL l f → 0 ≤ b → 0 ≤ j → usesEL (chEL (putF 0 s) l b) (b + j) = usesEL l (b + j + 1)
  | [], _, _, _, _, _, _, _, _ => by rw [chEL, usesEL, usesEL]
  | t :: r, b, j, s, f, hs, ht, hb, hj => by
    rw [clEL] at ht
    rw [chEL, usesEL, usesEL, put_usesU t b j s f hs ht.1 hb hj, put_usesUL r b j s f hs ht.2 hb hj]
end
mutual
theorem put_cl : ∀ (t : Te) (b f : Int) (s : Te), clE s 0 → 0 ≤ b → 0 ≤ f → clE t (f + b + 1) → clE (chE (putF 0 s) t b) (f + b)
  | .node k' n z l, b, f, s, hs, hb, hf, ht => by
    rw [clE] at ht
    rw [chE]
    by_cases hk : k' = 1
    · rw [if_pos hk, putF]
      have h9 := ht.1 hk
      by_cases h1 : n = 0 + b
      · rw [if_pos h1, upE, up_cl s b 0 hs]
        exact cl_more s 0 (f + b) hs (by omega)
      · rw [if_neg h1, clE]
        refine ⟨fun _ => ⟨?_, ?_, rfl⟩, fun h => absurd h (by decide), by rw [clEL]; trivial⟩
        · split <;> omega
        · split <;> omega
    · rw [if_neg hk, clE]
      have hm := more_nn (k := k') (n := n) (fun h => (ht.2.1 h).1)
      refine ⟨fun h => absurd h hk, ht.2.1, ?_⟩
      have := put_clL l (b + moreE k' n) f s hs (by omega) hf (by rw [show f + (b + moreE k' n) + 1 = f + b + 1 + moreE k' n from by omega]; exact ht.2.2)
      rw [show f + b + moreE k' n = f + (b + moreE k' n) from by omega]
      exact this
theorem put_clL : ∀ (l : List Te) (b f : Int) (s : Te), clE s 0 → 0 ≤ b → 0 ≤ f → clEL l (f + b + 1) → clEL (chEL (putF 0 s) l b) (f + b)
  | [], _, _, _, _, _, _, _ => by rw [chEL, clEL]; trivial
  | t :: r, b, f, s, hs, hb, hf, ht => by
    rw [clEL] at ht
    rw [chEL, clEL]
    exact ⟨put_cl t b f s hs hb hf ht.1, put_clL r b f s hs hb hf ht.2⟩
end
theorem clEL_of : ∀ (l : List Te) (f : Int), clEL l f → ∀ u ∈ l, clE u f
  | [], _, _, u, hu => by simp at hu
  | t :: r, f, h, u, hu => by
    rw [clEL] at h
    rcases List.mem_cons.1 hu with rfl | hu
    · exact h.1
    · exact clEL_of r f h.2 u hu
theorem fansL_nn : ∀ l : List Int, 0 ≤ fansL l
  | [] => by simp [fansL]
  | x :: r => by rw [fansL]; have := fansL_nn r; omega
theorem fansL_le : ∀ (l : List Int), fansL l = 0 → ∀ x ∈ l, x ≤ 1
  | [], _, x, hx => by simp at hx
  | y :: r, h, x, hx => by
    rw [fansL] at h
    have := fansL_nn r
    rcases List.mem_cons.1 hx with rfl | hx
    · omega
    · exact fansL_le r (by omega) x hx
theorem fans_parts : ∀ (l : List Te), fansL (ofEL l) = 0 → ∀ u ∈ l, fansL (ofE u) = 0
  | [], _, u, hu => by simp at hu
  | t :: r, h, u, hu => by
    rw [ofEL, fansL_app] at h
    have h1 := fansL_nn (ofE t)
    have h2 := fansL_nn (ofEL r)
    rcases List.mem_cons.1 hu with rfl | hu
    · omega
    · exact fans_parts r (by omega) u hu
theorem fans_node {k n : Int} {s : ByteArray} {l : List Te} (h : fansL (ofE (.node k n s l)) = 0) : fansL (ownE k n l) = 0 ∧ fansL (ofEL l) = 0 := by
  rw [ofE, fansL_app] at h
  have h1 := fansL_nn (ownE k n l)
  have h2 := fansL_nn (ofEL l)
  omega
theorem fans_set : ∀ (l : List Te) (i : Nat) (x : Te), i < l.length → fansL (ofEL (l.set i x)) + fansL (ofE (prt l i)) = fansL (ofEL l) + fansL (ofE x)
  | [], _, _, h => by simp at h
  | a :: r, 0, x, _ => by simp only [List.set, ofEL, fansL_app, prt, List.getD_cons_zero]; omega
  | a :: r, i + 1, x, h => by
    have := fans_set r i x (by simpa using h)
    simp only [List.set, ofEL, fansL_app, prt, List.getD_cons_succ] at this ⊢
    omega
theorem put_aff {t x : Te} {f : Int} (hx : clE x 0) (ht : clE t f) (ft : fansL (ofE t) = 0) (fx : fansL (ofE x) = 0) (hu : usesE t 0 ≤ 1) : fansL (ofE (putE t 0 x)) = 0 ∧ sizeE (putE t 0 x) ≤ sizeE t + sizeE x := by
  refine ⟨by rw [put_fans t x f hx ht, ft, fx]; simp, ?_⟩
  have := put_size t 0 x 0 (clE_wf x 0 hx) (clE_wf t f ht)
  rw [show (0 : Int) + 0 = 0 from rfl] at this
  rw [putE]
  rcases (by omega : usesE t 0 = 0 ∨ usesE t 0 = 1) with h | h
  · rw [h] at this; omega
  · rw [h] at this; omega
/-- Closed terms in the places of all that an alternative binds. -/
theorem inst_aff : ∀ (m : Nat) (l : List Te) (t : Te), l.length = m → (∀ u ∈ l, clE u 0 ∧ fansL (ofE u) = 0) → clE t (m : Int) → fansL (ofE t) = 0 → (∀ j : Nat, j < m → usesE t (j : Int) ≤ 1) →
    fansL (ofE (instE t l)) = 0 ∧ sizeE (instE t l) ≤ sizeE t + sizeEL l
  | 0, l, t, hl, _, hc, hf, _ => by
    obtain rfl := List.eq_nil_of_length_eq_zero hl
    rw [inst_nil (clE_wf t _ hc)]
    exact ⟨hf, by rw [sizeEL]; omega⟩
  | m + 1, l, t, hl, hu, hc, hf, hj => by
    rcases List.eq_nil_or_concat l with rfl | ⟨r, x, rfl⟩
    · simp at hl
    · rw [List.concat_eq_append] at hl hu ⊢
      have hx := hu x (by simp)
      rw [inst_step (clE_wf t _ hc) (clE_wf x _ hx.1), upE, up_cl x _ 0 hx.1, sizeEL_snoc]
      have h1 := put_aff hx.1 hc hf hx.2 (hj 0 (by omega))
      have hrl : r.length = m := by simpa using hl
      have hc2 : clE (putE t 0 x) (m : Int) := by
        have := put_cl t 0 (m : Int) x hx.1 (by omega) (by omega) (by rw [show (m : Int) + 0 + 1 = ((m + 1 : Nat) : Int) from by omega]; exact hc)
        rw [show (m : Int) + 0 = m from by omega] at this
        exact this
      have h2 := inst_aff m r (putE t 0 x) hrl (fun u h => hu u (by simp [h])) hc2 h1.1 (fun j hjm => by
        have h3 := put_usesU t 0 (j : Int) x _ hx.1 hc (by omega) (by omega)
        have h4 := hj (j + 1) (by omega)
        rw [show (0 : Int) + (j : Int) + 1 = ((j + 1 : Nat) : Int) from by omega] at h3
        rw [show (0 : Int) + (j : Int) = (j : Int) from by omega] at h3
        rw [putE, h3]
        exact h4)
      exact ⟨h2.1, by have := h1.2; have := h2.2; omega⟩
theorem fail_aff : fansL (ofE failE) = 0 ∧ sizeE failE = 1 := by decide
theorem num_aff (n : Int) : fansL (ofE (numE n)) = 0 ∧ sizeE (numE n) = 1 := by
  constructor
  · rw [numE, ofE, ownE, ofEL]; rfl
  · rw [numE, sizeE, sizeEL]
theorem truth_aff (b : Bool) : fansL (ofE (truthE b)) = 0 ∧ sizeE (truthE b) = 1 := by cases b <;> decide
theorem op_aff (s : ByteArray) (a b : Int) : fansL (ofE (opE s a b)) = 0 ∧ sizeE (opE s a b) = 1 := by
  unfold opE
  repeat' split
  all_goals first | exact num_aff _ | exact truth_aff _
theorem alt_body {u : Te} {f : Int} (h : mayQ u f true = true) : ∃ n s c, u = .node 6 n s [c] ∧ 0 ≤ n ∧ n ≤ 8 := by
  have h6 := may_kind h
  obtain ⟨k, n, s, l⟩ := u
  obtain rfl : k = 6 := h6
  have h9 := (may_len h).2.2.2.1 rfl
  obtain ⟨c, rfl⟩ := List.length_eq_one_iff.1 h9.1
  exact ⟨n, s, c, rfl, h9.2.1, h9.2.2.1⟩
theorem own_uses6 {n : Int} {s : ByteArray} {c : Te} (h0 : 0 ≤ n) (h8 : n ≤ 8) (hf : fansL (ofE (.node 6 n s [c])) = 0) (j : Nat) (hj : (j : Int) < n) : usesE c (j : Int) ≤ 1 := by
  have h1 := fansL_le _ (fans_node hf).1 (usesE c (j : Int) : Int) (by
    rw [ownE, List.mem_map]
    have hm : moreE 6 n = n := by rw [moreE, if_neg (by decide), if_pos rfl]
    refine ⟨(n - 1 - j).toNat, List.mem_range.2 ?_, ?_⟩
    · rw [toldN, hm]; omega
    · rw [hm]
      congr 2
      omega)
  omega
theorem own_uses2 {n : Int} {s : ByteArray} {c : Te} (hf : fansL (ofE (.node 2 n s [c])) = 0) : usesE c 0 ≤ 1 := by
  have h1 := fansL_le _ (fans_node hf).1 (usesE c 0 : Int) (by
    rw [ownE, List.mem_map]
    have hm : moreE 2 n = 1 := by rw [moreE, if_pos rfl]
    refine ⟨0, List.mem_range.2 ?_, ?_⟩
    · rw [toldN, hm]; decide
    · rw [hm]; rfl)
  omega
theorem pick_aff (s : Te) (hs : ∀ u ∈ s.parts, clE u 0 ∧ fansL (ofE u) = 0) : ∀ (l : List Te), (∀ u ∈ l, mayQ u 0 true = true ∧ fansL (ofE u) = 0) →
    fansL (ofE (pickE s l).1) = 0 ∧ sizeE (pickE s l).1 ≤ 1 + sizeEL l + sizeEL s.parts
  | [], _ => by
    rw [pickE]
    exact ⟨fail_aff.1, by rw [fail_aff.2]; omega⟩
  | u :: r, h => by
    rw [pickE]
    split
    · rename_i hn
      obtain ⟨h1, h2⟩ := h u (by simp)
      have hcl := may_cl u 0 true h1
      obtain ⟨n, z, c, rfl, g0, g8⟩ := alt_body h1
      have hm : moreE 6 n = n := by rw [moreE, if_neg (by decide), if_pos rfl]
      have hn2 : n = s.parts.length := hn.2
      rw [clE, clEL, hm] at hcl
      have hfc : fansL (ofE c) = 0 := fans_parts [c] (fans_node h2).2 c (by simp)
      have h3 := inst_aff s.parts.length s.parts c rfl hs (by rw [← hn2]; have := hcl.2.2.1; rw [Int.zero_add] at this; exact this) hfc (fun j hj => own_uses6 g0 g8 h2 j (by omega))
      have hp : prt (Te.node 6 n z [c]).parts 0 = c := rfl
      rw [hp]
      refine ⟨h3.1, ?_⟩
      have := h3.2
      show sizeE (instE c s.parts) ≤ _
      rw [sizeEL, sizeE, sizeEL]
      omega
    · have := pick_aff s hs r (fun v hv => h v (by simp [hv]))
      refine ⟨this.1, ?_⟩
      have := this.2
      rw [sizeEL]
      omega
theorem more_none {k n : Int} (h : k = 3 ∨ k = 5 ∨ k = 8) : moreE k n = 0 := by
  rw [moreE, if_neg (by omega), if_neg (by omega)]
theorem own_no3 {k n : Int} {l : List Te} (h : k = 3 ∨ k = 5 ∨ k = 8) : ownE k n l = [] := by
  cases l with
  | nil => rfl
  | cons t r => rw [ownE, toldN, more_none h]; rfl
theorem act_aff {t : Te} (hm : mayQ t 0 false = true) (hf : fansL (ofE t) = 0) : fansL (ofE (actE t).1) = 0 ∧ sizeE (actE t).1 ≤ sizeE t ∧ ((actE t).2 ≠ 0 → sizeE (actE t).1 < sizeE t) := by
  obtain ⟨k, n, s, l⟩ := t
  have hcl := may_cl _ _ _ hm
  rw [clE] at hcl
  have hfp := fans_parts l (fans_node hf).2
  have ht1 : sizeE (.node k n s l) = sizeEL l + 1 := by rw [sizeE]
  by_cases h3 : k = 3
  · subst h3
    obtain ⟨a, b, rfl⟩ : ∃ a b, l = [a, b] := by
      have := (may_len hm).2.1 (.inl rfl)
      match l, this with
      | [a, b], _ => exact ⟨a, b, rfl⟩
    have hact : actE (.node 3 n s [a, b]) = applyE a b := rfl
    rw [hact]
    rw [sizeEL, sizeEL, sizeEL] at ht1
    rw [clEL, clEL, more_none (.inl rfl)] at hcl
    have hb1 := sizeE_pos b
    have ha1 := sizeE_pos a
    unfold applyE
    split
    · rename_i h2
      obtain ⟨ak, an, as_, al⟩ := a
      obtain rfl : ak = 2 := h2
      have hma := may_at 3 [] [.node 2 an as_ al, b] _ 0 (by simp) (may_node hm).2
      simp [moreE] at hma
      obtain ⟨c, rfl⟩ := List.length_eq_one_iff.1 ((may_len hma).1 rfl)
      have hfa := hfp (.node 2 an as_ [c]) (by simp)
      have hca := hcl.2.2.1
      rw [clE, clEL] at hca
      have hfc : fansL (ofE c) = 0 := fans_parts [c] (fans_node hfa).2 c (by simp)
      have h9 := put_aff (by simpa using hcl.2.2.2.1) hca.2.2.1 hfc (hfp b (by simp)) (own_uses2 hfa)
      show fansL (ofE (putE c 0 b)) = 0 ∧ sizeE (putE c 0 b) ≤ _ ∧ _
      have hsa : sizeE (.node 2 an as_ [c]) = sizeE c + 1 := by simp [sizeE, sizeEL]
      exact ⟨h9.1, by have := h9.2; omega, fun _ => by show sizeE (putE c 0 b) < _; have := h9.2; omega⟩
    · exact ⟨fail_aff.1, by show sizeE failE ≤ _; rw [fail_aff.2]; omega, fun _ => by show sizeE failE < _; rw [fail_aff.2]; omega⟩
  · by_cases h5 : k = 5
    · subst h5
      have hl := (may_len hm).2.2.1 rfl
      obtain ⟨a, r, rfl⟩ : ∃ a r, l = a :: r := by
        cases l with
        | nil => simp at hl
        | cons a r => exact ⟨a, r, rfl⟩
      have hact : actE (.node 5 n s (a :: r)) = chooseE a r := rfl
      rw [hact]
      rw [sizeEL] at ht1
      have ha1 := sizeE_pos a
      unfold chooseE
      split
      · obtain ⟨ak, an, as_, al⟩ := a
        rename_i h4
        obtain rfl : ak = 4 := h4
        rw [clEL, more_none (.inr (.inl rfl))] at hcl
        have hca := hcl.2.2.1
        rw [clE] at hca
        have hm4 : moreE 4 an = 0 := by rw [moreE, if_neg (by decide), if_neg (by decide)]
        rw [hm4] at hca
        have hfa := hfp (.node 4 an as_ al) (by simp)
        have h9 := pick_aff (.node 4 an as_ al) (fun u hu => ⟨by have := clEL_of al _ hca.2.2 u hu; simpa using this, fans_parts al (fans_node hfa).2 u hu⟩) r (fun u hu => by
          refine ⟨?_, hfp u (by simp [hu])⟩
          obtain ⟨i, hi, rfl⟩ := List.mem_iff_getElem.1 hu
          have := may_at 5 [] (.node 4 an as_ al :: r) _ (i + 1) (by simpa using hi) (may_node hm).2
          simpa [moreE] using this)
        have hsz : sizeE (.node 4 an as_ al) = sizeEL al + 1 := by rw [sizeE]
        have h10 := h9.2
        have hpp : (Te.node 4 an as_ al).parts = al := rfl
        rw [hpp] at h10
        exact ⟨h9.1, by omega, fun _ => by omega⟩
      · exact ⟨fail_aff.1, by show sizeE failE ≤ _; rw [fail_aff.2]; omega, fun _ => by show sizeE failE < _; rw [fail_aff.2]; omega⟩
    · by_cases h8 : k = 8
      · subst h8
        obtain ⟨a, b, rfl⟩ : ∃ a b, l = [a, b] := by
          have := (may_len hm).2.1 (.inr rfl)
          match l, this with
          | [a, b], _ => exact ⟨a, b, rfl⟩
        have hact : actE (.node 8 n s [a, b]) = reckonE s a b := rfl
        rw [hact]
        rw [sizeEL, sizeEL, sizeEL] at ht1
        have hb1 := sizeE_pos b
        unfold reckonE
        split
        · have h9 := op_aff s a.n b.n
          exact ⟨h9.1, by show sizeE (opE s a.n b.n) ≤ _; omega, fun _ => by show sizeE (opE s a.n b.n) < _; omega⟩
        · exact ⟨fail_aff.1, by show sizeE failE ≤ _; rw [fail_aff.2]; omega, fun _ => by show sizeE failE < _; rw [fail_aff.2]; omega⟩
      · have hact : actE (.node k n s l) = (.node k n s l, 0) := by
          show (if k = 3 then _ else if k = 5 then _ else if k = 8 then _ else _) = _
          rw [if_neg h3, if_neg h5, if_neg h8]
        rw [hact]
        exact ⟨hf, Nat.le_refl _, fun h => absurd rfl h⟩
theorem step_aff : ∀ (d : Nat) (t : Te), depthE t ≤ d → mayQ t 0 false = true → fansL (ofE t) = 0 →
    fansL (ofE (stepE t).1) = 0 ∧ sizeE (stepE t).1 ≤ sizeE t ∧ ((stepE t).2 ≠ 0 → sizeE (stepE t).1 < sizeE t)
  | 0, t, h, _, _ => by have := depthE_pos t; omega
  | d + 1, t, h, hm, hf => by
    cases hw : waitE t with
    | none => rw [stepE_act hw]; exact act_aff hm hf
    | some i =>
      rw [stepE_wait hw]
      have hi := wait_lt hm hw
      have hp := may_wait hm hw
      have hk := (wait_kind hw).2
      obtain ⟨k, n, s, l⟩ := t
      simp only [Te.parts, Te.kind] at hi hp hk ⊢
      have hl : fansL (ofEL l) = 0 := (fans_node hf).2
      have hget : prt l i = l[i]'hi := by rw [prt, List.getD_eq_getElem?_getD, List.getElem?_eq_getElem hi]; rfl
      have hmem : prt l i ∈ l := by rw [hget]; exact List.getElem_mem hi
      have hdl := depthEL_mem l _ hmem
      rw [depthE] at h
      have ih := step_aff d (prt l i) (by omega) hp (fans_parts l hl _ hmem)
      have hs := sizeEL_set l i (stepE (prt l i)).1 hi
      have hfs := fans_set l i (stepE (prt l i)).1 hi
      have hpf := fans_parts l hl _ hmem
      refine ⟨?_, ?_, fun hne => ?_⟩
      · show fansL (ofE (.node k n s (l.set i (stepE (prt l i)).1))) = 0
        rw [ofE, own_no3 hk, List.nil_append]
        have := ih.1
        omega
      · show sizeE (.node k n s (l.set i (stepE (prt l i)).1)) ≤ sizeE (.node k n s l)
        rw [sizeE, sizeE]
        have := ih.2.1
        omega
      · show sizeE (.node k n s (l.set i (stepE (prt l i)).1)) < sizeE (.node k n s l)
        rw [sizeE, sizeE]
        have := ih.2.2 hne
        omega
end Lx
end Go.Proofs.Ytgnafcnokenogaa
