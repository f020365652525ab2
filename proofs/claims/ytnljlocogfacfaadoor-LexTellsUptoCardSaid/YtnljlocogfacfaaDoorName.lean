/-
  Plain: when a text is one token by itself, of kind 1 or 2.
-/
import Derived.Test.YtnljlocogfacfaaDoorAgain
import Derived.Test.YtnljlocogfacfaaDoorTr
namespace Go.Proofs.YtnljlocogfacfaaDoor
namespace Lx
set_option maxRecDepth 100000
/-- The program's reckoning, and the reference's. -/
def isTokV (l : List UInt8) (k : Int) : Bool := match allK l with | .ok [t] => decide (t.kind = k) && (t.text == l) | _ => false
def refTokV (l : List UInt8) (k : Int) : Bool := match tokK l with | .ok (kd, _, t) => decide (kd = k) && (t == l) | .error _ => false
def kindV (k : Int) (l : List UInt8) : Bool := if k = 1 then nameV l else conV l

theorem tok_cons {c : UInt8} {r : List UInt8} {kd n : Int} (h : tokK (c :: r) = .ok (kd, n, c :: r)) : allK (c :: r) = .ok [⟨kd, c :: r, n, 0⟩] := by
  have hb := blk_head h
  have h0 : run blkR (c :: r) = 0 := by simp [run, hb]
  unfold allK
  rw [h0, List.drop_zero]
  simp only [List.length_cons]
  rw [scan]
  simp only [h]
  have hd : List.drop (c :: r).length (c :: r) = [] := List.drop_length
  rw [hd]
  simp [run, scan_end]
theorem all_single {l : List UInt8} {t : Tok} (hl : l ≠ []) (h : allK l = .ok [t]) (ht : t.text = l) : ∃ n, tokK l = .ok (t.kind, n, l) := by
  unfold allK at h
  rw [scan] at h
  split at h
  · cases h
  · split at h
    · cases h
    · rename_i kd n x hx
      have h1 := tok_text hx
      split at h
      · cases h
      · rename_i rest hr
        have h2 := Except.ok.inj h
        have h3 := (List.cons.inj h2).1
        rw [← h3] at ht ⊢
        have ht' : x = l := ht
        rw [ht'] at h1 hx
        have hlen := h1.2.1
        simp only [List.length_drop] at hlen
        have hpos := List.length_pos_iff.2 hl
        have h0 : run blkR l = 0 := by omega
        rw [h0, List.drop_zero] at hx
        exact ⟨n, hx⟩
theorem allK_nil : allK [] = .ok [] := rfl
theorem isTok_ref (l : List UInt8) (k : Int) (hl : l ≠ []) : isTokV l k = refTokV l k := by
  unfold isTokV refTokV
  cases ht : tokK l with
  | error x =>
    simp only
    split
    · rename_i t ha
      by_cases he : t.text = l
      · obtain ⟨n, h⟩ := all_single hl ha he
        rw [ht] at h; cases h
      · simp [he]
    · rfl
  | ok r =>
    obtain ⟨kd, n, x⟩ := r
    simp only
    by_cases hx : x = l
    · subst hx
      obtain ⟨c, q, rfl⟩ := List.exists_cons_of_ne_nil hl
      rw [tok_cons ht]
    · have e : (x == l) = false := by simpa using hx
      rw [e, Bool.and_false]
      split
      · rename_i t ha
        by_cases he : t.text = l
        · obtain ⟨n', h⟩ := all_single hl ha he
          rw [ht] at h
          simp only [Except.ok.injEq, Prod.mk.injEq] at h
          exact absurd h.2.2 hx
        · simp [he]
      · rfl
theorem isTok_nil (k : Int) : isTokV [] k = false := rfl

theorem run_pos_iff (P : Int → Bool) (c : UInt8) (r : List UInt8) : (0 < run P (c :: r)) ↔ P (c.toNat : Int) = true := by
  cases h : P (c.toNat : Int) <;> simp [run, h]
theorem numK_kind {l : List UInt8} {kd n : Int} (h : numK l = .ok (kd, n)) : kd = 3 := by
  unfold numK at h
  split at h
  · cases h
  · split at h
    · cases h
    · cases h; rfl
theorem refTok_kind (l : List UInt8) (k : Int) (hk : k = 1 ∨ k = 2) (hl : l ≠ []) : refTokV l k = kindV k l := by
  obtain ⟨c, q, rfl⟩ := List.exists_cons_of_ne_nil hl
  have hle := run_le ldR (c :: q)
  unfold refTokV
  by_cases hw : run ldR (c :: q) = (c :: q).length
  · have hp : 0 < run ldR (c :: q) := by rw [hw]; simp
    have ht : (c :: q).take (run ldR (c :: q)) = c :: q := by rw [hw]; exact List.take_length
    have hL : ldR (c.toNat : Int) = true := (run_pos_iff _ _ _).1 hp
    unfold tokK
    rw [if_pos hp, ht]
    unfold kindV nameV conV
    rw [hw]
    unfold runK
    simp only [run_pos_iff]
    by_cases hd : digR (c.toNat : Int) = true
    · have e1 : lowR (c.toNat : Int) = false := by simp [digR] at hd; simp [lowR]; omega
      have e2 : upR (c.toNat : Int) = false := by simp [digR] at hd; simp [upR]; omega
      rw [if_pos hd]
      cases hn : numK (c :: q) with
      | error x => simp [e1, e2]
      | ok r =>
        obtain ⟨kd, n⟩ := r
        have := numK_kind hn
        subst this
        rcases hk with rfl | rfl <;> simp [e1, e2]
    · rw [if_neg hd]
      by_cases h16 : 16 < (c :: q).length
      · rw [if_pos h16]
        have e : decide ((c :: q).length ≤ 16) = false := by simp only [decide_eq_false_iff_not]; omega
        rcases hk with rfl | rfl <;> simp only [e] <;> simp
      · rw [if_neg h16]
        have e : decide ((c :: q).length ≤ 16) = true := by simp only [decide_eq_true_eq]; omega
        by_cases hwd : wordS (c :: q) = true
        · rw [if_pos hwd]
          have hlow : lowR (c.toNat : Int) = true := by
            simp [wordS] at hwd
            rcases hwd with ⟨rfl, _⟩ | ⟨rfl, _⟩ | ⟨rfl, _⟩ | ⟨rfl, _⟩ | ⟨rfl, _⟩ <;> rfl
          have hup : upR (c.toNat : Int) = false := by simp [lowR] at hlow; simp [upR]; omega
          rcases hk with rfl | rfl <;> simp [hwd, hup]
        · rw [if_neg hwd]
          have hwd' : wordS (c :: q) = false := by simpa using hwd
          cases hlow : lowR (c.toNat : Int)
          · have hup : upR (c.toNat : Int) = true := by
              simp [ldR, hlow, hd] at hL
              exact hL
            rcases hk with rfl | rfl <;> simp only [e, hup, hwd'] <;> simp
          · have hup : upR (c.toNat : Int) = false := by simp [lowR] at hlow; simp [upR]; omega
            rcases hk with rfl | rfl <;> simp only [e, hup, hwd'] <;> simp
  · have hf : kindV k (c :: q) = false := by
      unfold kindV nameV conV
      have e : decide (run ldR (c :: q) = (c :: q).length) = false := by simpa using hw
      rcases hk with rfl | rfl <;> simp only [e] <;> simp
    rw [hf]
    cases ht : tokK (c :: q) with
    | error x => rfl
    | ok r =>
      obtain ⟨kd, n, x⟩ := r
      simp only
      unfold tokK at ht
      split at ht
      · split at ht
        · simp only [Except.ok.injEq, Prod.mk.injEq] at ht
          obtain ⟨rfl, rfl, rfl⟩ := ht
          have e : ((c :: q).take (run ldR (c :: q)) == c :: q) = false := by
            rw [beq_eq_false_iff_ne]
            intro e
            have := congrArg List.length e
            rw [List.length_take] at this
            omega
          rw [e, Bool.and_false]
        · cases ht
      · split at ht
        · simp only [Except.ok.injEq, Prod.mk.injEq] at ht
          obtain ⟨rfl, rfl, rfl⟩ := ht
          rcases hk with rfl | rfl <;> rfl
        · cases ht
theorem isTok_kind (l : List UInt8) (k : Int) (hk : k = 1 ∨ k = 2) : isTokV l k = kindV k l := by
  by_cases hl : l = []
  · subst hl; rcases hk with rfl | rfl <;> rfl
  · rw [isTok_ref l k hl, refTok_kind l k hk hl]
theorem kindV_long (l : List UInt8) (k : Int) (h : 16 < l.length) : kindV k l = false := by
  unfold kindV nameV conV
  have e : decide (l.length ≤ 16) = false := by simp only [decide_eq_false_iff_not]; omega
  split <;> simp [e]
end Lx
end Go.Proofs.YtnljlocogfacfaaDoor
