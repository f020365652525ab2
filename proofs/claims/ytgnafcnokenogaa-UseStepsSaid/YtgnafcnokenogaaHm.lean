/-
  What may be stays so: inst, a step. Plainly.
-/
import Derived.Test.YtgnafcnokenogaaC17
namespace Go.Proofs.Ytgnafcnokenogaa
open Go.RowKit
namespace Lx
theorem may_free {t : Te} {f : Int} {a : Bool} (h : mayQ t f a = true) : 0 ≤ f := by
  obtain ⟨k, n, s, l⟩ := t
  rw [mayQ, Bool.and_eq_true] at h
  simpa using h.1
theorem may_inst {t : Te} {l : List Te} {f : Int} (hf : 0 ≤ f) (h : mayQ t (f + l.length) false = true) (hx : ∀ x ∈ l, mayQ x f false = true) : mayQ (instE t l) f false = true := by
  have := may_ch (F := instF l) (p := 0) (f := f + l.length) (f' := f) hf (fun n s b hb h => by
    have hq := head_var h
    have hs : s.toList.isEmpty = true := by simp only [headR] at h; simp at h; exact by simpa using h.1
    have hv : ∀ m : Int, 0 ≤ m → m < f + b → mayQ (.node 1 m s []) (f + b) false = true := fun m h0 h1 => by
      rw [mayQ, mayQL]
      simp [headR, hs]
      omega
    rw [instF]
    split
    · rename_i hc
      have hi : l.length - 1 - (n - (0 + b)).toNat < l.length := by omega
      have hm : lastE l (n - (0 + b)).toNat ∈ l := by
        rw [lastE, List.getD_eq_getElem?_getD, List.getElem?_eq_getElem hi]
        exact List.getElem_mem hi
      have := may_up hf hb (hx _ hm)
      simpa using this
    · split
      · exact hv _ (by omega) (by omega)
      · exact hv _ (by omega) (by omega)) t 0 false (by omega) (by rw [Int.add_zero]; exact h)
  simpa [instE] using this
theorem may_fail {f : Int} (h : 0 ≤ f) : mayQ failE f false = true := by
  rw [failE, mayQ, mayQL]
  simp [headR, h]
theorem may_num {f : Int} (h : 0 ≤ f) (n : Int) : mayQ (numE n) f false = true := by
  rw [numE, mayQ, mayQL]
  simp [headR, h]
theorem con_truth : conW ⟨#[84, 114, 117, 101]⟩ = true ∧ conW ⟨#[70, 97, 108, 115, 101]⟩ = true := by
  constructor <;> kernel_rfl
theorem may_truth {f : Int} (h : 0 ≤ f) (b : Bool) : mayQ (truthE b) f false = true := by
  cases b
  · show mayQ (.node 4 0 ⟨#[70, 97, 108, 115, 101]⟩ []) f false = true
    rw [mayQ, mayQL]
    simp [headR, h, con_truth.2]
  · show mayQ (.node 4 0 ⟨#[84, 114, 117, 101]⟩ []) f false = true
    rw [mayQ, mayQL]
    simp [headR, h, con_truth.1]
theorem may_op {f : Int} (h : 0 ≤ f) (s : ByteArray) (a b : Int) : mayQ (opE s a b) f false = true := by
  unfold opE
  repeat' split
  all_goals first | exact may_num h _ | exact may_truth h _
theorem may_prt {k n : Int} {s : ByteArray} {l : List Te} {f : Int} {a : Bool} (h : mayQ (.node k n s l) f a = true) (i : Nat) (hi : i < l.length) : mayQ (prt l i) (f + moreE k n) (decide (k = 5) && decide (0 < i)) = true := by
  have := may_at k [] l _ i hi (may_node h).2
  rw [prt, List.getD_eq_getElem?_getD, List.getElem?_eq_getElem hi]
  simpa using this
theorem may_pick {s : Te} {f : Int} (hf : 0 ≤ f) (hs : ∀ x ∈ s.parts, mayQ x f false = true) : ∀ l : List Te, (∀ a ∈ l, mayQ a f true = true) → mayQ (pickE s l).1 f false = true
  | [], _ => may_fail hf
  | a :: r, h => by
    rw [pickE]
    split
    · rename_i hc
      have ha := h a (by simp)
      obtain ⟨k, n, sa, l⟩ := a
      have hl := (may_node ha).1
      simp [headR] at hl
      have h0 := may_prt ha 0 (by omega)
      have hn : n = (s.parts.length : Int) := hc.2
      have hm : moreE k n = (s.parts.length : Int) := by rw [hl.1, moreE, if_neg (by decide), if_pos rfl, hn]
      rw [hm, hl.1] at h0
      exact may_inst hf (by show mayQ (prt l 0) _ _ = true; simpa using h0) hs
    · exact may_pick hf hs r fun x hx => h x (by simp [hx])
theorem may_apply {P R : Te} {f : Int} (p0 : mayQ P f false = true) (p1 : mayQ R f false = true) : mayQ (applyE P R).1 f false = true := by
  have hf := may_free p0
  obtain ⟨k2, n2, s2, l2⟩ := P
  by_cases hk : k2 = 2
  · have e : applyE (.node k2 n2 s2 l2) R = (putE (prt l2 0) 0 R, 1) := by rw [applyE]; exact if_pos hk
    have h3 := (may_len p0).1 hk
    have q0 := may_prt p0 0 (by omega)
    rw [hk] at q0
    simp [moreE] at q0
    rw [e]
    exact may_put hf (by omega) hf q0 p1
  · have e : applyE (.node k2 n2 s2 l2) R = (failE, 4) := by rw [applyE]; exact if_neg hk
    rw [e]
    exact may_fail hf
theorem may_choose {P : Te} {l : List Te} {f : Int} (p0 : mayQ P f false = true) (h : ∀ a ∈ l, mayQ a f true = true) : mayQ (chooseE P l).1 f false = true := by
  have hf := may_free p0
  obtain ⟨k2, n2, s2, l2⟩ := P
  by_cases hk : k2 = 4
  · have e : chooseE (.node k2 n2 s2 l2) l = pickE (.node k2 n2 s2 l2) l := by rw [chooseE]; exact if_pos hk
    rw [e]
    refine may_pick hf (fun x hx => ?_) l h
    obtain ⟨j, hj, rfl⟩ := List.getElem_of_mem hx
    have hj' : j < l2.length := hj
    have := may_prt p0 j hj'
    rw [hk, prt, List.getD_eq_getElem?_getD, List.getElem?_eq_getElem hj'] at this
    show mayQ (l2[j]'hj') f false = true
    simpa [moreE] using this
  · have e : chooseE (.node k2 n2 s2 l2) l = (failE, 4) := by rw [chooseE]; exact if_neg hk
    rw [e]
    exact may_fail hf
theorem may_reckon {P R : Te} {s : ByteArray} {f : Int} (hf : 0 ≤ f) : mayQ (reckonE s P R).1 f false = true := by
  unfold reckonE
  split
  · exact may_op hf _ _ _
  · exact may_fail hf
theorem act_may {t : Te} {f : Int} (h : mayQ t f false = true) : mayQ (actE t).1 f false = true := by
  have hf := may_free h
  obtain ⟨k, n, s, l⟩ := t
  have hl := may_len h
  by_cases h3 : k = 3
  · have e : actE (.node k n s l) = applyE (prt l 0) (prt l 1) := by rw [actE]; exact if_pos h3
    have h2 := hl.2.1 (.inl h3)
    have p0 := may_prt h 0 (by omega)
    have p1 := may_prt h 1 (by omega)
    rw [h3] at p0 p1
    rw [e]
    exact may_apply (by simpa [moreE] using p0) (by simpa [moreE] using p1)
  · by_cases h5 : k = 5
    · have e : actE (.node k n s l) = chooseE (prt l 0) (l.drop 1) := by rw [actE]; exact (if_neg h3).trans (if_pos h5)
      have h2 := hl.2.2.1 h5
      have p0 := may_prt h 0 (by omega)
      rw [h5] at p0
      rw [e]
      refine may_choose (by simpa [moreE] using p0) fun x hx => ?_
      obtain ⟨j, hj, rfl⟩ := List.getElem_of_mem hx
      rw [List.length_drop] at hj
      have hj' : 1 + j < l.length := by omega
      have := may_prt h (1 + j) hj'
      rw [h5, prt, List.getD_eq_getElem?_getD, List.getElem?_eq_getElem hj'] at this
      rw [List.getElem_drop]
      have h1 : decide (0 < 1 + j) = true := by simp; omega
      rw [h1] at this
      simpa [moreE] using this
    · by_cases h8 : k = 8
      · have e : actE (.node k n s l) = reckonE s (prt l 0) (prt l 1) := by rw [actE]; exact (if_neg h3).trans ((if_neg h5).trans (if_pos h8))
        rw [e]
        exact may_reckon hf
      · have e : actE (.node k n s l) = (.node k n s l, 0) := by rw [actE]; exact (if_neg h3).trans ((if_neg h5).trans (if_neg h8))
        rw [e]
        exact h
theorem step_mayF : ∀ (d : Nat) (t : Te) (f : Int), mayQ t f false = true → mayQ (stepF d t).1 f false = true
  | 0, _, _, h => h
  | d + 1, t, f, h => by
    rw [stepF]
    split
    · rename_i i hi
      exact may_setE h hi (step_mayF d _ f (may_wait h hi))
    · exact act_may h
/-- A closed term that has no step is a value. -/
theorem act_closed {t : Te} (h : mayQ t 0 false = true) (hv : valK t.kind = false) : t.kind = 3 ∨ t.kind = 5 ∨ t.kind = 8 := by
  obtain ⟨k, n, s, l⟩ := t
  have h1 := (may_node h).1
  by_cases e1 : k = 1
  · subst e1
    have := head_var h1
    omega
  · show k = 3 ∨ k = 5 ∨ k = 8
    have hv' : valK k = false := hv
    unfold headR at h1
    rw [if_neg (by decide), if_neg e1] at h1
    by_cases e2 : k = 2
    · subst e2; exact absurd hv' (by decide)
    · rw [if_neg e2] at h1
      by_cases e3 : k = 3
      · exact .inl e3
      · rw [if_neg e3] at h1
        by_cases e4 : k = 4
        · subst e4; exact absurd hv' (by decide)
        · rw [if_neg e4] at h1
          by_cases e5 : k = 5
          · exact .inr (.inl e5)
          · rw [if_neg e5] at h1
            by_cases e7 : k = 7
            · subst e7; exact absurd hv' (by decide)
            · rw [if_neg e7] at h1
              by_cases e8 : k = 8
              · exact .inr (.inr e8)
              · rw [if_neg e8] at h1
                by_cases e9 : k = 9
                · subst e9; exact absurd hv' (by decide)
                · rw [if_neg e9] at h1
                  cases h1
/-- What is closed stays closed. -/
theorem step_may {t : Te} {f : Int} (h : mayQ t f false = true) : mayQ (stepE t).1 f false = true := step_mayF _ t f h
end Lx
end Go.Proofs.Ytgnafcnokenogaa
