/-
  Plain: each token stands where it is told; a text that is none is one up to the place that is told.
-/
import Derived.Test.YthfchcnmedklbaaDoorJoin
namespace Go.Proofs.YthfchcnmedklbaaDoor
namespace Lx
theorem run_of_take (P : Int → Bool) : ∀ (l : List UInt8) (m : Nat), run P l ≤ m → run P (l.take m) = run P l
  | [], m, _ => by simp
  | c :: l, 0, h => by
    cases hc : P (c.toNat : Int)
    · simp [run, hc]
    · simp [run, hc] at h
  | c :: l, m + 1, h => by
    cases hc : P (c.toNat : Int)
    · simp [run, hc]
    · simp [run, hc] at h
      have := run_of_take P l m h
      simp [run, hc, this]
theorem prefix_of_take : ∀ (g l : List UInt8) (m : Nat), Lib.hasPrefix (l.take m) g = (Lib.hasPrefix l g && decide (g.length ≤ m))
  | [], l, m => by simp [Lib.hasPrefix]
  | a :: g, [], m => by simp [Lib.hasPrefix]
  | a :: g, c :: l, 0 => by simp [Lib.hasPrefix]
  | a :: g, c :: l, m + 1 => by
    have := prefix_of_take g l m
    simp only [Lib.hasPrefix] at this ⊢
    simp [List.isPrefixOf, this, Bool.and_assoc]
theorem find_more {α : Type} (p q : α → Bool) (x : α) : ∀ L : List α, (∀ y ∈ L, q y = true → p y = true) → L.find? p = some x → q x = true → L.find? q = some x
  | [], _, h, _ => by simp at h
  | a :: L, hqp, h, hx => by
    cases ha : p a
    · have hq : q a = false := by
        cases hq : q a with
        | false => rfl
        | true => have := hqp a (by simp) hq; rw [ha] at this; cases this
      rw [List.find?_cons_of_neg (by simp [ha])] at h
      rw [List.find?_cons_of_neg (by simp [hq])]
      exact find_more p q x L (fun y hy => hqp y (by simp [hy])) h hx
    · rw [List.find?_cons_of_pos ha] at h
      cases h
      rw [List.find?_cons_of_pos hx]
theorem tok_of_take {l t : List UInt8} {kd n : Int} {m : Nat} (h : tokK l = .ok (kd, n, t)) (hm : t.length ≤ m) : tokK (l.take m) = .ok (kd, n, t) := by
  unfold tokK at h
  have hle := run_le ldR l
  split at h
  · rename_i h0
    split at h
    · rename_i k' n' h1
      simp only [Except.ok.injEq, Prod.mk.injEq] at h
      obtain ⟨rfl, rfl, rfl⟩ := h
      rw [List.length_take] at hm
      have hr := run_of_take ldR l m (by omega)
      unfold tokK
      rw [hr, if_pos h0, List.take_take, show min (run ldR l) m = run ldR l from by omega, h1]
    · cases h
  · rename_i h0
    split at h
    · rename_i g h1
      simp only [Except.ok.injEq, Prod.mk.injEq] at h
      obtain ⟨rfl, rfl, rfl⟩ := h
      have hr := run_of_take ldR l m (by omega)
      have hp := List.find?_some h1
      have hs : signOf (l.take m) = some g := by
        refine find_more _ _ g signsS (fun y _ hy => ?_) h1 ?_
        · rw [prefix_of_take] at hy
          simp only [Bool.and_eq_true] at hy
          exact hy.1
        · rw [prefix_of_take]
          simp only [Bool.and_eq_true, decide_eq_true_eq]
          exact ⟨hp, hm⟩
      unfold tokK
      rw [hr, if_neg h0, hs]
    · cases h

theorem scan_upto : ∀ (f : Nat) (l : List UInt8) (k j : Nat) (x : Int), scan f l k = .error ((j : Int), x) → k ≤ j → ∃ ts, scan f (l.take (j - k)) k = .ok ts := by
  intro f
  induction f with
  | zero => intro l k j x h; simp [scan] at h
  | succ f ih =>
    intro l k j x h hkj
    by_cases hl : l = []
    · subst hl; simp [scan_end] at h
    · cases ht : tokK l with
      | error e =>
        rw [scan_bad hl ht] at h
        simp only [Except.error.injEq, Prod.mk.injEq] at h
        have : j = k := by omega
        subst this
        exact ⟨[], by simp [scan_end]⟩
      | ok r =>
        obtain ⟨kd, n, t⟩ := r
        obtain ⟨h1, h2, _⟩ := tok_text ht
        simp only [scan, if_neg hl, ht] at h
        split at h
        · rename_i e1 h3
          cases h
          obtain ⟨q, hq, ha, hb⟩ := scan_place _ _ _ _ _ h3
          have hjq : j = q := by omega
          subst hjq
          obtain ⟨us, hu⟩ := ih _ _ _ _ h3 ha
          have hm : t.length ≤ j - k := by omega
          have htt := tok_of_take ht hm
          have hne : l.take (j - k) ≠ [] := by
            intro e
            have := congrArg List.length e
            rw [List.length_take] at this
            simp only [List.length_nil] at this
            omega
          have hd : (l.take (j - k)).drop t.length = (l.drop t.length).take (j - k - t.length) := by rw [List.drop_take]
          have hrb := run_of_take blkR (l.drop t.length) (j - k - t.length) (by omega)
          have hd2 : ((l.drop t.length).take (j - k - t.length)).drop (run blkR (l.drop t.length)) = ((l.drop t.length).drop (run blkR (l.drop t.length))).take (j - (k + t.length + run blkR (l.drop t.length))) := by
            rw [List.drop_take]
            congr 1
            omega
          refine ⟨⟨kd, t, n, k⟩ :: us, ?_⟩
          simp only [scan, if_neg hne, htt, hd, hrb, hd2, hu]
        · cases h
theorem allK_upto {l : List UInt8} {j : Nat} {x : Int} (h : allK l = .error ((j : Int), x)) : ∃ ts, allK (l.take j) = .ok ts := by
  have hle := run_le blkR l
  obtain ⟨q, hq, ha, hb⟩ := scan_place _ _ _ _ _ h
  have hjq : j = q := by omega
  subst hjq
  rw [List.length_drop] at hb
  obtain ⟨ts, ht⟩ := scan_upto _ _ _ _ _ h ha
  refine ⟨ts, ?_⟩
  unfold allK
  rw [run_of_take blkR l j ha, List.drop_take]
  rw [scan_fuel _ (l.length + 1) _ _ (by rw [List.length_take, List.length_drop, List.length_take]; omega) (by rw [List.length_take, List.length_drop]; omega)]
  exact ht

/-- From place k on the tokens stand in the text, with blanks alone between. -/
def Lay (l : List UInt8) : Nat → List Tok → Prop
  | k, [] => k ≤ l.length ∧ ∀ j, k ≤ j → ∀ h : j < l.length, blkR ((l[j]'h).toNat : Int) = true
  | k, t :: r => ∃ p : Nat, t.place = p ∧ k ≤ p ∧ p + t.text.length ≤ l.length ∧ 0 < t.text.length ∧ (∀ j, k ≤ j → j < p → ∀ h : j < l.length, blkR ((l[j]'h).toNat : Int) = true) ∧
      (l.drop p).take t.text.length = t.text ∧ Lay l (p + t.text.length) r
theorem blank_at {l : List UInt8} {k b : Nat} (hb : b = run blkR (l.drop k)) : ∀ j, k ≤ j → j < k + b → ∀ h : j < l.length, blkR ((l[j]'h).toNat : Int) = true := by
  intro j h1 h2 h
  have hm := run_take_all blkR (l.drop k) (l[j]'h) (by
    rw [← hb, List.mem_iff_getElem]
    refine ⟨j - k, by rw [List.length_take, List.length_drop]; omega, ?_⟩
    rw [List.getElem_take, List.getElem_drop]
    congr 1
    omega)
  exact hm
theorem lay_more {l : List UInt8} {k k' : Nat} {r : List Tok} (hk : k ≤ k') (hb : ∀ j, k ≤ j → j < k' → ∀ h : j < l.length, blkR ((l[j]'h).toNat : Int) = true) (h : Lay l k' r) : Lay l k r := by
  cases r with
  | nil =>
    refine ⟨by have := h.1; omega, fun j h1 h2 => ?_⟩
    by_cases hj : j < k'
    · exact hb j h1 hj h2
    · exact h.2 j (by omega) h2
  | cons t r =>
    obtain ⟨p, h1, h2, h3, h4, h5, h6⟩ := h
    refine ⟨p, h1, by omega, h3, h4, fun j a b c => ?_, h6⟩
    by_cases hj : j < k'
    · exact hb j a hj c
    · exact h5 j (by omega) b c
theorem scan_lay (l : List UInt8) : ∀ (f k : Nat) (ts : List Tok), k ≤ l.length → l.length - k < f → scan f (l.drop k) k = .ok ts → Lay l k ts := by
  intro f
  induction f with
  | zero => intro k ts _ h; omega
  | succ f ih =>
    intro k ts hk hf h
    by_cases hl : l.drop k = []
    · rw [hl, scan_end] at h
      cases h
      have := congrArg List.length hl
      simp only [List.length_drop, List.length_nil] at this
      exact ⟨hk, fun j h1 h2 => by omega⟩
    · cases ht : tokK (l.drop k) with
      | error e => rw [scan_bad hl ht] at h; cases h
      | ok r =>
        obtain ⟨kd, n, t⟩ := r
        obtain ⟨h1, h2, h3⟩ := tok_text ht
        rw [List.length_drop] at h2
        simp only [scan, if_neg hl, ht] at h
        split at h
        · cases h
        · rename_i r hr
          cases h
          have hle := run_le blkR (l.drop (k + t.length))
          rw [List.length_drop] at hle
          simp only [List.drop_drop] at hr
          have hlay := ih (k + t.length + run blkR (l.drop (k + t.length))) r (by omega) (by omega) (by rw [← hr])
          refine ⟨k, rfl, Nat.le_refl _, by show k + t.length ≤ _; omega, h1, fun j a b => by omega, h3, ?_⟩
          exact lay_more (by omega) (blank_at rfl) hlay
theorem allK_lay {l : List UInt8} {ts : List Tok} (h : allK l = .ok ts) : Lay l 0 ts := by
  have hle := run_le blkR l
  have h1 := scan_lay l _ _ _ hle (by omega) h
  refine lay_more (Nat.zero_le _) ?_ h1
  have := blank_at (l := l) (k := 0) (b := run blkR l) (by simp)
  intro j a b c
  exact this j a (by omega) c
end Lx
end Go.Proofs.YthfchcnmedklbaaDoor
