/-
  Texts that lie one behind the other: SuPn.
-/
import Derived.Test.YtcgiloccmehbeaaY9
namespace Go.Proofs.Ytcgiloccmehbeaa
namespace Lx
set_option maxRecDepth 100000
theorem ch_name (F : Int → ByteArray → Int → Te) (t : Te) (b : Int) (h : t.kind ≠ 1) : (chE F t b).name = t.name := by
  obtain ⟨k, n, s, l⟩ := t
  rw [chE, if_neg (show ¬ k = 1 from h)]; rfl
theorem dup_ch (F : Int → ByteArray → Int → Te) (b : Int) (s : ByteArray) : ∀ met : List Te, (∀ t ∈ met, t.kind ≠ 1) → dupAt (met.map (chE F · b)) s = dupAt met s
  | [], _ => rfl
  | t :: r, h => by
    have := dup_ch F b s r fun u hu => h u (by simp [hu])
    simp only [dupAt, List.map_cons, List.any_cons] at this ⊢
    rw [this, ch_name F t b (h t (by simp))]
theorem may_kind {t : Te} {f : Int} (h : mayQ t f true = true) : t.kind = 6 := by
  obtain ⟨k, n, s, l⟩ := t
  rw [mayQ, Bool.and_eq_true, Bool.and_eq_true] at h
  have := h.2.1
  simp [headR] at this
  exact this.1
mutual
theorem may_ch {F : Int → ByteArray → Int → Te} {p f f' : Int} (hf : 0 ≤ f') (hv : ∀ n s b, 0 ≤ b → headR 1 n s 0 (f + b) false = true → mayQ (F n s (p + b)) (f' + b) false = true) :
    ∀ (t : Te) (b : Int) (a : Bool), 0 ≤ b → mayQ t (f + b) a = true → mayQ (chE F t (p + b)) (f' + b) a = true
  | .node k n s l, b, a, hb, h => by
    rw [mayQ, Bool.and_eq_true, Bool.and_eq_true] at h
    obtain ⟨h0, h1, h2⟩ := h
    by_cases hk : k = 1
    · subst hk
      have hq := head_var h1
      rw [hq.2.2.2, hq.2.2.1] at h1
      rw [chE, if_pos rfl, hq.2.2.2]
      exact hv n s b hb h1
    · have hm := more_nn (fun e => ((head_facts h1).1 e).1)
      have := may_chL hf hv k [] l (b + moreE k n) (by omega) (by simp) (by rw [show f + (b + moreE k n) = f + b + moreE k n by omega]; exact h2)
      rw [show p + (b + moreE k n) = p + b + moreE k n by omega, show f' + (b + moreE k n) = f' + b + moreE k n by omega] at this
      rw [chE, if_neg hk, mayQ, chEL_length, head_free (g := f + b) hk, h1, decide_eq_true (by omega : 0 ≤ f' + b)]
      simpa using this
theorem may_chL {F : Int → ByteArray → Int → Te} {p f f' : Int} (hf : 0 ≤ f') (hv : ∀ n s b, 0 ≤ b → headR 1 n s 0 (f + b) false = true → mayQ (F n s (p + b)) (f' + b) false = true) (k : Int) :
    ∀ (met l : List Te) (b : Int), 0 ≤ b → (k = 5 → ∀ t ∈ met.drop 1, t.kind ≠ 1) → mayQL k met l (f + b) = true → mayQL k (met.map (chE F · (p + b))) (chEL F l (p + b)) (f' + b) = true
  | _, [], _, _, _, _ => by rw [chEL, mayQL]
  | met, t :: r, b, hb, hm, h => by
    rw [mayQL, Bool.and_eq_true, Bool.and_eq_true] at h
    obtain ⟨h1, h2, h3⟩ := h
    have e1 := may_ch hf hv t b _ hb h1
    have e3 := may_chL hf hv k (met ++ [t]) r b hb (fun h5 u hu => by
      cases met with
      | nil => simp at hu
      | cons a q =>
        simp only [List.cons_append, List.drop_succ_cons, List.drop_zero, List.mem_append, List.mem_singleton] at hu
        rcases hu with hu | rfl
        · exact hm h5 u (by simpa using hu)
        · rw [h5] at h1
          have := may_kind (t := u) (f := f + b) (by simpa using h1)
          omega) h3
    rw [chEL, mayQL, Bool.and_eq_true, Bool.and_eq_true]
    refine ⟨by simpa using e1, ?_, by simpa using e3⟩
    by_cases h5 : k = 5
    · subst h5
      cases met with
      | nil => simp [dupAt]
      | cons a q =>
        have hq : 0 < (a :: q).length := by simp
        have hk6 := may_kind (t := t) (f := f + b) (by simpa using h1)
        rw [ch_name F t (p + b) (by omega)]
        have := dup_ch F (p + b) t.name q (fun u hu => hm rfl u (by simpa using hu))
        simp only [List.map_cons, List.drop_succ_cons, List.drop_zero] at h2 ⊢
        rw [this]
        exact h2
    · simp [h5]
end
theorem may_up {t : Te} {f u : Int} (hf : 0 ≤ f) (hu : 0 ≤ u) (h : mayQ t f false = true) : mayQ (upE t u 0) (f + u) false = true := by
  have := may_ch (F := upF u) (p := 0) (f := f) (f' := f + u) (by omega) (fun n s b hb h => by
    have hq := head_var h
    have hs : s.toList.isEmpty = true := by simp only [headR] at h; simp at h; exact by simpa using h.1
    rw [upF, mayQ, mayQL]
    simp [headR, hs]
    split <;> omega) t 0 false (by omega) (by simpa using h)
  simpa [upE] using this
theorem may_put {t x : Te} {f k : Int} (hf : 0 ≤ f) (hk : 0 ≤ k) (hkf : k ≤ f) (ht : mayQ t (f + 1) false = true) (hx : mayQ x f false = true) : mayQ (putE t k x) f false = true := by
  have := may_ch (F := putF k x) (p := 0) (f := f + 1) (f' := f) hf (fun n s b hb h => by
    have hq := head_var h
    have hs : s.toList.isEmpty = true := by simp only [headR] at h; simp at h; exact by simpa using h.1
    rw [putF]
    split
    · rw [Int.zero_add]; exact may_up hf hb hx
    · rw [mayQ, mayQL]
      simp [headR, hs]
      split <;> omega) t 0 false (by omega) (by simpa using ht)
  simpa [putE] using this
end Lx
end Go.Proofs.Ytcgiloccmehbeaa
