/-
  Plain: tokens that were read, and written with a blank between any two, are read again, but for places.
-/
import Derived.Test.YtnljlocogfacfaaDoorScan
namespace Go.Proofs.YtnljlocogfacfaaDoor
namespace Lx
set_option maxRecDepth 100000
theorem run_app (P : Int → Bool) (r : List UInt8) (hr : run P r = 0) : ∀ t : List UInt8, (∀ c ∈ t, P (c.toNat : Int) = true) → run P (t ++ r) = t.length
  | [], _ => by simpa using hr
  | c :: t, h => by
    have h1 := run_app P r hr t (fun d hd => h d (by simp [hd]))
    have h2 := h c (by simp)
    simp [run, h1, h2]
theorem run_take_all (P : Int → Bool) : ∀ l : List UInt8, ∀ c ∈ l.take (run P l), P (c.toNat : Int) = true
  | [], c, h => by simp at h
  | a :: l, c, h => by
    by_cases ha : P (a.toNat : Int) = true
    · simp only [run, ha, if_true, List.take_succ_cons, List.mem_cons] at h
      rcases h with rfl | h
      · exact ha
      · exact run_take_all P l c h
    · simp [run, ha] at h

/-- What may stand behind a token: nothing, or a blank. -/
def Gap (r : List UInt8) : Prop := r = [] ∨ ∃ q, r = 32 :: q
theorem gap_ld {r : List UInt8} (h : Gap r) : run ldR r = 0 := by
  rcases h with rfl | ⟨q, rfl⟩ <;> rfl

theorem sign_gap {r : List UInt8} (h : Gap r) : ∀ g ∈ signsS, run ldR (g ++ r) = 0 ∧ signOf (g ++ r) = some g := by
  rcases h with rfl | ⟨q, rfl⟩
  · intro g hg
    simp only [signsS, List.mem_cons, List.not_mem_nil, or_false] at hg
    rcases hg with rfl | rfl | rfl | rfl | rfl | rfl | rfl | rfl | rfl | rfl | rfl | rfl | rfl | rfl | rfl <;> exact ⟨rfl, rfl⟩
  · intro g hg
    simp only [signsS, List.mem_cons, List.not_mem_nil, or_false] at hg
    rcases hg with rfl | rfl | rfl | rfl | rfl | rfl | rfl | rfl | rfl | rfl | rfl | rfl | rfl | rfl | rfl <;> exact ⟨rfl, rfl⟩

theorem tok_gap {l t r : List UInt8} {kd n : Int} (h : tokK l = .ok (kd, n, t)) (hr : Gap r) : tokK (t ++ r) = .ok (kd, n, t) := by
  unfold tokK at h
  split at h
  · rename_i h0
    split at h
    · rename_i k' n' h1
      simp only [Except.ok.injEq, Prod.mk.injEq] at h
      obtain ⟨rfl, rfl, rfl⟩ := h
      have hall := run_take_all ldR l
      have hrun := run_app ldR r (gap_ld hr) (l.take (run ldR l)) hall
      have hle := run_le ldR l
      have hpos : 0 < (l.take (run ldR l)).length := by rw [List.length_take]; omega
      generalize l.take (run ldR l) = t at *
      unfold tokK
      rw [hrun, if_pos hpos, List.take_left, h1]
    · cases h
  · split at h
    · rename_i g h1
      simp only [Except.ok.injEq, Prod.mk.injEq] at h
      obtain ⟨rfl, rfl, rfl⟩ := h
      obtain ⟨h2, h3⟩ := sign_gap hr g (List.mem_of_find?_eq_some h1)
      unfold tokK
      rw [h2, if_neg (by omega), h3]
    · cases h

/-- A token that was read somewhere. -/
def Good (t : Tok) : Prop := ∃ l, tokK l = .ok (t.kind, t.n, t.text)
theorem scan_all_good : ∀ (f : Nat) (l : List UInt8) (k : Nat) (ts : List Tok), scan f l k = .ok ts → ∀ t ∈ ts, Good t := by
  intro f
  induction f with
  | zero => intro l k ts h; simp [scan] at h; subst h; simp
  | succ f ih =>
    intro l k ts h
    unfold scan at h
    split at h
    · cases h; simp
    · split at h
      · cases h
      · rename_i kd n t ht
        split at h
        · cases h
        · rename_i r hr
          cases h
          intro u hu
          rcases List.mem_cons.1 hu with rfl | hu
          · exact ⟨l, ht⟩
          · exact ih _ _ _ hr u hu

/-- The tokens' texts, with one blank between any two. -/
def textS : List Tok → List UInt8
  | [] => []
  | [t] => t.text
  | t :: u :: r => t.text ++ 32 :: textS (u :: r)
theorem good_pos {t : Tok} (h : Good t) : 0 < t.text.length := by
  obtain ⟨l, h⟩ := h
  exact (tok_text h).1
theorem blk_head {c : UInt8} {l t : List UInt8} {kd n : Int} (h : tokK (c :: l) = .ok (kd, n, t)) : blkR (c.toNat : Int) = false := by
  cases hb : blkR (c.toNat : Int) with
  | false => rfl
  | true =>
    exfalso
    have hc : c = 32 ∨ c = 10 ∨ c = 9 := by
      simp only [blkR, Bool.or_eq_true, beq_iff_eq] at hb
      rcases hb with (hb | hb) | hb
      · exact .inl (UInt8.toNat_inj.1 (by simpa using Int.ofNat_inj.1 hb))
      · exact .inr (.inl (UInt8.toNat_inj.1 (by simpa using Int.ofNat_inj.1 hb)))
      · exact .inr (.inr (UInt8.toNat_inj.1 (by simpa using Int.ofNat_inj.1 hb)))
    rcases hc with rfl | rfl | rfl <;> cases h
theorem text_blk {ts : List Tok} (h : ∀ t ∈ ts, Good t) : run blkR (textS ts) = 0 := by
  have key : ∀ (t : Tok), Good t → ∀ r, run blkR (t.text ++ r) = 0 := by
    intro t ht r
    have hp := good_pos ht
    obtain ⟨l, hl⟩ := ht
    have h2 := tok_gap (r := []) hl (.inl rfl)
    rw [List.append_nil] at h2
    cases htx : t.text with
    | nil => rw [htx] at hp; simp at hp
    | cons c q =>
      rw [htx] at h2
      have := blk_head h2
      simp [run, this]
  match ts, h with
  | [], _ => rfl
  | [t], h =>
    have := key t (h t (by simp)) []
    simpa [textS] using this
  | t :: u :: r, h => exact key t (h t (by simp)) _

theorem scan_text : ∀ (ts : List Tok), (∀ t ∈ ts, Good t) → ∀ f k, ts.length ≤ f → ∃ us, scan f (textS ts) k = .ok us ∧ us.map (fun t => (t.kind, t.text, t.n)) = ts.map (fun t => (t.kind, t.text, t.n))
  | [], _, f, k, _ => ⟨[], scan_end f k, rfl⟩
  | [t], h, f, k, hf => by
    obtain ⟨f, rfl⟩ : ∃ g, f = g + 1 := ⟨f - 1, by simp at hf; omega⟩
    have hp := good_pos (h t (by simp))
    obtain ⟨l, hl⟩ := h t (by simp)
    have h2 := tok_gap (r := []) hl (.inl rfl)
    rw [List.append_nil] at h2
    have hne : t.text ≠ [] := by intro e; rw [e] at hp; simp at hp
    refine ⟨[⟨t.kind, t.text, t.n, k⟩], ?_, rfl⟩
    simp [textS, scan, hne, h2, run, scan_end]
  | t :: u :: r, h, f, k, hf => by
    obtain ⟨f, rfl⟩ : ∃ g, f = g + 1 := ⟨f - 1, by simp at hf; omega⟩
    have hp := good_pos (h t (by simp))
    obtain ⟨l, hl⟩ := h t (by simp)
    have h2 := tok_gap (r := 32 :: textS (u :: r)) hl (.inr ⟨_, rfl⟩)
    have hb : run blkR (textS (u :: r)) = 0 := text_blk (fun x hx => h x (by simp [List.mem_cons.1 hx]))
    have hb1 : run blkR (32 :: textS (u :: r)) = 1 := by
      rw [run, hb]; rfl
    obtain ⟨us, hs, hm⟩ := scan_text (u :: r) (fun x hx => h x (by simp [List.mem_cons.1 hx])) f (k + t.text.length + 1) (by simp at hf ⊢; omega)
    refine ⟨⟨t.kind, t.text, t.n, k⟩ :: us, ?_, by simp [hm]⟩
    have hne : t.text ++ 32 :: textS (u :: r) ≠ [] := by simp
    rw [textS, scan, if_neg hne, h2]
    simp only [List.drop_left, hb1, List.drop_succ_cons, List.drop_zero, hs]

theorem textS_len : ∀ (ts : List Tok), (∀ t ∈ ts, Good t) → ts.length ≤ (textS ts).length
  | [], _ => by simp
  | [t], h => by have := good_pos (h t (by simp)); simp [textS]; omega
  | t :: u :: r, h => by
    have h1 := good_pos (h t (by simp))
    have h2 := textS_len (u :: r) (fun x hx => h x (by simp [List.mem_cons.1 hx]))
    simp [textS] at h2 ⊢
    omega
theorem textS_bound : ∀ (f : Nat) (l : List UInt8) (k : Nat) (ts : List Tok), scan f l k = .ok ts → (textS ts).length + 1 ≤ 2 * l.length + 1 := by
  intro f
  induction f with
  | zero => intro l k ts h; simp [scan] at h; subst h; simp [textS]
  | succ f ih =>
    intro l k ts h
    unfold scan at h
    split at h
    · cases h; simp [textS]
    · split at h
      · cases h
      · rename_i kd n t ht
        split at h
        · cases h
        · rename_i r hr
          cases h
          obtain ⟨h1, h2, _⟩ := tok_text ht
          have h3 := ih _ _ _ hr
          have h4 := run_le blkR (l.drop t.length)
          simp only [List.length_drop] at h3 h4
          cases r with
          | nil => simp [textS] at h3 ⊢; omega
          | cons u r => simp [textS] at h3 ⊢; omega

/-- The stage's theorem, plainly. -/
theorem allK_again {l : List UInt8} {ts : List Tok} (h : allK l = .ok ts) : ∃ us, allK (textS ts) = .ok us ∧ us.map (fun t => (t.kind, t.text, t.n)) = ts.map (fun t => (t.kind, t.text, t.n)) := by
  have hg := scan_all_good _ _ _ _ h
  obtain ⟨us, hs, hm⟩ := scan_text ts hg ((textS ts).length + 1) 0 (by have := textS_len ts hg; omega)
  refine ⟨us, ?_, hm⟩
  unfold allK
  rw [text_blk hg]
  exact hs
theorem textS_eq : ∀ (us ts : List Tok), us.map (fun t => (t.kind, t.text, t.n)) = ts.map (fun t => (t.kind, t.text, t.n)) → textS us = textS ts
  | [], [], _ => rfl
  | [], _ :: _, h => by simp at h
  | _ :: _, [], h => by simp at h
  | [a], [b], h => by simp at h; simp [textS, h.2.1]
  | [a], b :: c :: r, h => by simp at h
  | a :: b :: r, [c], h => by simp at h
  | a :: b :: r, c :: d :: q, h => by
    simp only [List.map_cons, List.cons.injEq, Prod.mk.injEq] at h
    have := textS_eq (b :: r) (d :: q) (by simp only [List.map_cons, List.cons.injEq, Prod.mk.injEq]; exact h.2)
    simp [textS, this, h.1.2.1]
theorem numK_err {l : List UInt8} {x : Int} (h : numK l = .error x) : x = 10 ∨ x = 11 := by
  unfold numK at h
  split at h
  · cases h; exact .inl rfl
  · split at h
    · cases h; exact .inr rfl
    · cases h
theorem runK_err {l : List UInt8} {x : Int} (h : runK l = .error x) : x = 10 ∨ x = 11 := by
  unfold runK at h
  split at h
  · exact numK_err h
  · split at h
    · cases h; exact .inr rfl
    · split at h
      · cases h
      · split at h <;> cases h
theorem tokK_err {l : List UInt8} {x : Int} (h : tokK l = .error x) : x = 10 ∨ x = 11 := by
  unfold tokK at h
  split at h
  · split at h
    · cases h
    · rename_i h1
      cases h
      exact runK_err h1
  · split at h
    · cases h
    · cases h; exact .inl rfl
theorem scan_err : ∀ (f : Nat) (l : List UInt8) (k : Nat) (p x : Int), scan f l k = .error (p, x) → x = 10 ∨ x = 11 := by
  intro f
  induction f with
  | zero => intro l k p x h; simp [scan] at h
  | succ f ih =>
    intro l k p x h
    unfold scan at h
    split at h
    · cases h
    · split at h
      · rename_i h1
        cases h
        exact tokK_err h1
      · split at h
        · rename_i h1
          cases h
          exact ih _ _ _ _ h1
        · cases h
theorem err_code {l : List UInt8} {p x : Int} (h : allK l = .error (p, x)) : x = 10 ∨ x = 11 := scan_err _ _ _ _ _ h
end Lx
end Go.Proofs.YtnljlocogfacfaaDoor
