/-
  Plain: the tokens of two texts with a blank between; of a text with blanks ahead.
-/
import Derived.Test.YthfchcnmedklbaaDoorAgain
namespace Go.Proofs.YthfchcnmedklbaaDoor
namespace Lx
theorem run_cut (P : Int → Bool) (hP : P 32 = false) (t : List UInt8) : ∀ l : List UInt8, run P (l ++ 32 :: t) = run P l
  | [] => by simp [run, hP]
  | c :: l => by
    have := run_cut P hP t l
    simp [run, this]
theorem prefix_cut (t : List UInt8) : ∀ (g l : List UInt8), (32 : UInt8) ∉ g → Lib.hasPrefix (l ++ 32 :: t) g = Lib.hasPrefix l g
  | [], _, _ => rfl
  | a :: g, [], h => by
    have ha : a ≠ 32 := by intro e; subst e; exact h (by simp)
    simp [Lib.hasPrefix, List.isPrefixOf, ha]
  | a :: g, c :: l, h => by
    have := prefix_cut t g l (fun hm => h (by simp [hm]))
    simp only [Lib.hasPrefix] at this ⊢
    simp [List.isPrefixOf, this]
theorem find_congr {α : Type} (p q : α → Bool) : ∀ L : List α, (∀ x ∈ L, p x = q x) → L.find? p = L.find? q
  | [], _ => rfl
  | a :: L, h => by
    have h1 := h a (by simp)
    have h2 := find_congr p q L (fun x hx => h x (by simp [hx]))
    simp [List.find?, h1, h2]
theorem no_blank_sign : ∀ g ∈ signsS, (32 : UInt8) ∉ g := by decide
theorem sign_cut (l t : List UInt8) : signOf (l ++ 32 :: t) = signOf l :=
  find_congr _ _ _ (fun g hg => prefix_cut t g l (no_blank_sign g hg))
theorem tok_cut (l t : List UInt8) : tokK (l ++ 32 :: t) = tokK l := by
  have hr := run_cut ldR rfl t l
  have hle := run_le ldR l
  unfold tokK
  rw [hr, sign_cut, List.take_append_of_le_length hle]

theorem blk_all {l : List UInt8} (t : List UInt8) : (run blkR l = l.length → run blkR (l ++ t) = l.length + run blkR t) ∧ (run blkR l < l.length → run blkR (l ++ t) = run blkR l) := by
  induction l with
  | nil => simp [run]
  | cons c l ih =>
    cases hc : blkR (c.toNat : Int)
    · simp [run, hc]
    · have hle := run_le blkR l
      constructor
      · intro h
        simp [run, hc] at h
        have := ih.1 h
        simp [run, hc, this]
        omega
      · intro h
        simp [run, hc] at h
        have := ih.2 h
        simp [run, hc, this]
theorem run_drop_run (P : Int → Bool) : ∀ l : List UInt8, run P (l.drop (run P l)) = 0
  | [] => rfl
  | c :: l => by
    cases hc : P (c.toNat : Int)
    · simp [run, hc]
    · have := run_drop_run P l
      simp [run, hc, this]

/-- More fuel than bytes is enough. -/
theorem scan_fuel : ∀ (f g : Nat) (l : List UInt8) (k : Nat), l.length < f → l.length < g → scan f l k = scan g l k := by
  intro f
  induction f with
  | zero => intro g l k h; omega
  | succ f ih =>
    intro g l k hf hg
    obtain ⟨g, rfl⟩ : ∃ g', g = g' + 1 := ⟨g - 1, by omega⟩
    by_cases hl : l = []
    · subst hl; simp [scan_end]
    · cases ht : tokK l with
      | error e => rw [scan_bad hl ht, scan_bad hl ht]
      | ok r =>
        obtain ⟨kd, n, t⟩ := r
        obtain ⟨h1, h2, _⟩ := tok_text ht
        have := ih g ((l.drop t.length).drop (run blkR (l.drop t.length))) (k + t.length + run blkR (l.drop t.length)) (by simp only [List.length_drop]; omega) (by simp only [List.length_drop]; omega)
        simp only [scan, if_neg hl, ht, this]

def moved (d : Nat) (t : Tok) : Tok := { t with place := t.place + d }
def shift (d : Nat) : Except (Int × Int) (List Tok) → Except (Int × Int) (List Tok)
  | .ok r => .ok (r.map (moved d))
  | .error (p, x) => .error (p + d, x)
theorem scan_shift (d : Nat) : ∀ (f : Nat) (l : List UInt8) (k : Nat), scan f l (k + d) = shift d (scan f l k) := by
  intro f
  induction f with
  | zero => intro l k; simp [scan, shift]
  | succ f ih =>
    intro l k
    by_cases hl : l = []
    · subst hl; simp [scan_end, shift]
    · cases ht : tokK l with
      | error e => rw [scan_bad hl ht, scan_bad hl ht]; simp [shift]
      | ok r =>
        obtain ⟨kd, n, t⟩ := r
        have := ih ((l.drop t.length).drop (run blkR (l.drop t.length))) (k + t.length + run blkR (l.drop t.length))
        rw [show k + t.length + run blkR (l.drop t.length) + d = k + d + t.length + run blkR (l.drop t.length) from by omega] at this
        simp only [scan, if_neg hl, ht, this]
        cases scan f ((l.drop t.length).drop (run blkR (l.drop t.length))) (k + t.length + run blkR (l.drop t.length)) with
        | ok r => simp [shift, moved]
        | error e => obtain ⟨p, x⟩ := e; simp [shift]

/-- What follows behind tokens that were read. -/
def follow (r q : Except (Int × Int) (List Tok)) : Except (Int × Int) (List Tok) :=
  match r with
  | .ok a => glue a q
  | .error e => .error e
theorem glue_nil (q : Except (Int × Int) (List Tok)) : glue [] q = q := by cases q <;> simp [glue]
theorem scan_join (t : List UInt8) (F : Nat) (hF : t.length < F) : ∀ (f : Nat) (l : List UInt8) (k : Nat), l ≠ [] → run blkR l = 0 → l.length + t.length + 1 < f →
    scan f (l ++ 32 :: t) k = follow (scan f l k) (scan F (t.drop (run blkR t)) (k + l.length + 1 + run blkR t)) := by
  intro f
  induction f with
  | zero => intro l k _ _ h; omega
  | succ f ih =>
    intro l k hl hb hf
    have hne : l ++ 32 :: t ≠ [] := by simp
    cases ht : tokK l with
    | error e => rw [scan_bad hl ht, scan_bad hne (by rw [tok_cut]; exact ht)]; rfl
    | ok r =>
      obtain ⟨kd, n, x⟩ := r
      obtain ⟨h1, h2, _⟩ := tok_text ht
      have ht' : tokK (l ++ 32 :: t) = .ok (kd, n, x) := by rw [tok_cut]; exact ht
      have hd : (l ++ 32 :: t).drop x.length = l.drop x.length ++ 32 :: t := List.drop_append_of_le_length h2
      have hle := run_le blkR (l.drop x.length)
      have hll : (l.drop x.length).length = l.length - x.length := List.length_drop
      simp only [scan, if_neg hl, if_neg hne, ht, ht', hd]
      by_cases hc : run blkR (l.drop x.length) < (l.drop x.length).length
      · rw [(blk_all (32 :: t)).2 hc, List.drop_append_of_le_length hle]
        have h3 := ih ((l.drop x.length).drop (run blkR (l.drop x.length))) (k + x.length + run blkR (l.drop x.length))
          (by intro e; have := congrArg List.length e; rw [List.length_drop] at this; simp only [List.length_nil] at this; omega) (run_drop_run _ _) (by rw [List.length_drop]; omega)
        rw [h3]
        rw [show k + x.length + run blkR (l.drop x.length) + ((l.drop x.length).drop (run blkR (l.drop x.length))).length + 1 + run blkR t = k + l.length + 1 + run blkR t from by rw [List.length_drop]; omega]
        cases scan f ((l.drop x.length).drop (run blkR (l.drop x.length))) (k + x.length + run blkR (l.drop x.length)) with
        | error e => rfl
        | ok r => cases scan F (t.drop (run blkR t)) (k + l.length + 1 + run blkR t) <;> simp [follow, glue]
      · have he : run blkR (l.drop x.length) = (l.drop x.length).length := by omega
        have hb2 : run blkR (32 :: t) = run blkR t + 1 := rfl
        rw [(blk_all (32 :: t)).1 he, hb2]
        have hdd : (l.drop x.length ++ 32 :: t).drop ((l.drop x.length).length + (run blkR t + 1)) = t.drop (run blkR t) := by
          rw [List.drop_length_add_append]
          rfl
        have hdn : (l.drop x.length).drop (run blkR (l.drop x.length)) = [] := List.drop_eq_nil_of_le (by omega)
        rw [hdd, hdn, scan_end, scan_fuel f F _ _ (by rw [List.length_drop]; omega) (by rw [List.length_drop]; omega)]
        rw [show k + x.length + ((l.drop x.length).length + (run blkR t + 1)) = k + l.length + 1 + run blkR t from by omega]
        cases scan F (t.drop (run blkR t)) (k + l.length + 1 + run blkR t) <;> simp [follow, glue]

theorem allK_join (s t : List UInt8) : allK (s ++ 32 :: t) = follow (allK s) (shift (s.length + 1) (allK t)) := by
  have hle := run_le blkR s
  have hlt := run_le blkR t
  have hsh : scan (t.length + 1) (t.drop (run blkR t)) (s.length + 1 + run blkR t) = shift (s.length + 1) (allK t) := by
    rw [show s.length + 1 + run blkR t = run blkR t + (s.length + 1) from by omega, scan_shift]
    rfl
  unfold allK at hsh ⊢
  by_cases hc : run blkR s < s.length
  · rw [(blk_all (32 :: t)).2 hc, List.drop_append_of_le_length hle]
    have hlen : (s ++ 32 :: t).length = s.length + t.length + 1 := by simp; omega
    have hdl : (s.drop (run blkR s)).length = s.length - run blkR s := List.length_drop
    rw [scan_join t (t.length + 1) (by omega) ((s ++ 32 :: t).length + 1) (s.drop (run blkR s)) (run blkR s)
      (by intro e; have := congrArg List.length e; rw [List.length_drop] at this; simp only [List.length_nil] at this; omega) (run_drop_run _ _) (by omega)]
    rw [scan_fuel ((s ++ 32 :: t).length + 1) (s.length + 1) _ _ (by omega) (by omega)]
    rw [show run blkR s + (s.drop (run blkR s)).length + 1 + run blkR t = s.length + 1 + run blkR t from by omega, hsh]
  · have he : run blkR s = s.length := by omega
    have hb2 : run blkR (32 :: t) = run blkR t + 1 := rfl
    rw [(blk_all (32 :: t)).1 he, hb2]
    have hdd : (s ++ 32 :: t).drop (s.length + (run blkR t + 1)) = t.drop (run blkR t) := by
      rw [List.drop_length_add_append]
      rfl
    have hdn : s.drop (run blkR s) = [] := List.drop_eq_nil_of_le (by omega)
    rw [hdd, hdn, scan_end]
    have hlen : (s ++ 32 :: t).length = s.length + t.length + 1 := by simp; omega
    rw [scan_fuel ((s ++ 32 :: t).length + 1) (t.length + 1) _ _ (by rw [List.length_drop]; omega) (by rw [List.length_drop]; omega)]
    rw [show s.length + (run blkR t + 1) = s.length + 1 + run blkR t from by omega, hsh]
    simp [follow, glue_nil]

/-- Blanks ahead. -/
theorem allK_ahead (g s : List UInt8) (hg : run blkR g = g.length) : allK (g ++ s) = shift g.length (allK s) := by
  have hle := run_le blkR s
  unfold allK
  rw [(blk_all s).1 hg]
  have hdd : (g ++ s).drop (g.length + run blkR s) = s.drop (run blkR s) := by rw [List.drop_length_add_append]
  rw [hdd, scan_fuel ((g ++ s).length + 1) (s.length + 1) _ _ (by simp; omega) (by simp; omega), Nat.add_comm g.length, scan_shift]
theorem allK_blank (g : List UInt8) (hg : run blkR g = g.length) : allK g = .ok [] := by
  unfold allK
  rw [hg, List.drop_length, scan_end]
theorem scan_place : ∀ (f : Nat) (l : List UInt8) (k : Nat) (p x : Int), scan f l k = .error (p, x) → ∃ j : Nat, p = j ∧ k ≤ j ∧ j < k + l.length := by
  intro f
  induction f with
  | zero => intro l k p x h; simp [scan] at h
  | succ f ih =>
    intro l k p x h
    by_cases hl : l = []
    · subst hl; simp [scan_end] at h
    · have hpos := List.length_pos_iff.2 hl
      cases ht : tokK l with
      | error e =>
        rw [scan_bad hl ht] at h
        cases h
        exact ⟨k, rfl, Nat.le_refl _, by omega⟩
      | ok r =>
        obtain ⟨kd, n, t⟩ := r
        obtain ⟨h1, h2, _⟩ := tok_text ht
        have hle := run_le blkR (l.drop t.length)
        simp only [scan, if_neg hl, ht] at h
        split at h
        · rename_i e1 h3
          cases h
          obtain ⟨j, hj, a, b⟩ := ih _ _ _ _ h3
          simp only [List.length_drop] at b hle
          exact ⟨j, hj, by omega, by omega⟩
        · cases h
theorem allK_place {l : List UInt8} {p x : Int} (h : allK l = .error (p, x)) : ∃ j : Nat, p = j ∧ j < l.length := by
  have hle := run_le blkR l
  obtain ⟨j, hj, a, b⟩ := scan_place _ _ _ _ _ h
  rw [List.length_drop] at b
  exact ⟨j, hj, by omega⟩
theorem scan_places : ∀ (f : Nat) (l : List UInt8) (k : Nat) (ts : List Tok), scan f l k = .ok ts → (∀ t ∈ ts, ∃ j : Nat, t.place = j ∧ k ≤ j ∧ j + t.text.length ≤ k + l.length) ∧ ts.length ≤ l.length := by
  intro f
  induction f with
  | zero => intro l k ts h; simp [scan] at h; subst h; simp
  | succ f ih =>
    intro l k ts h
    by_cases hl : l = []
    · subst hl; simp [scan_end] at h; subst h; simp
    · cases ht : tokK l with
      | error e => rw [scan_bad hl ht] at h; cases h
      | ok r =>
        obtain ⟨kd, n, t⟩ := r
        obtain ⟨h1, h2, _⟩ := tok_text ht
        have hle := run_le blkR (l.drop t.length)
        simp only [scan, if_neg hl, ht] at h
        split at h
        · cases h
        · rename_i r h3
          cases h
          obtain ⟨ha, hb⟩ := ih _ _ _ h3
          simp only [List.length_drop] at ha hb hle
          refine ⟨fun u hu => ?_, by simp only [List.length_cons]; omega⟩
          rcases List.mem_cons.1 hu with rfl | hu
          · exact ⟨k, rfl, Nat.le_refl _, by show k + t.length ≤ _; omega⟩
          · obtain ⟨j, hj, a, b⟩ := ha u hu
            exact ⟨j, hj, by omega, by omega⟩
theorem allK_places {l : List UInt8} {ts : List Tok} (h : allK l = .ok ts) : (∀ t ∈ ts, ∃ j : Nat, t.place = j ∧ j + t.text.length ≤ l.length) ∧ ts.length ≤ l.length := by
  have hle := run_le blkR l
  obtain ⟨a, b⟩ := scan_places _ _ _ _ h
  rw [List.length_drop] at a b
  refine ⟨fun t ht => ?_, by omega⟩
  obtain ⟨j, hj, _, c⟩ := a t ht
  exact ⟨j, hj, by omega⟩
end Lx
end Go.Proofs.YthfchcnmedklbaaDoor
