/-
  Texts that lie one behind the other: TextLen6 From6.
-/
import Derived.Test.YteagbndjoklogaaDoorKJ
namespace Go.Proofs.YteagbndjoklogaaDoor
open Go.RowKit Go.Sort
namespace Lx
set_option maxRecDepth 100000
mutual
/-- The letters of all names. -/
def namesE : Te → Nat
  | .node _ _ s l => s.size + namesEL l
def namesEL : List Te → Nat
  | [] => 0
  | t :: r => namesE t + namesEL r
end
mutual
/-- All numbers are ints. -/
def rngE : Te → Prop
  | .node _ n _ l => (-9223372036854775808 ≤ n ∧ n ≤ 9223372036854775807) ∧ rngEL l
def rngEL : List Te → Prop
  | [] => True
  | t :: r => rngE t ∧ rngEL r
end
mutual
theorem ein_rng : ∀ (t : Te) {w : World} {X : Nat → Prop} {A : Option Addr}, EIn w X t A → rngE t
  | .node k n s l, w, X, A, h => by
    rw [EIn] at h
    rw [rngE]
    exact ⟨h.1.2, elin_rng l h.2.2⟩
theorem elin_rng : ∀ (l : List Te) {w : World} {X : Nat → Prop} {A : Option Addr} {i : Nat}, ELIn w X l A i → rngEL l
  | [], w, X, A, i, _ => by rw [rngEL]; trivial
  | t :: r, w, X, A, i, h => by
    rw [ELIn] at h
    obtain ⟨⟨_, _, _, _, _, _, _, _, _, ht⟩, hr⟩ := h
    rw [rngEL]
    exact ⟨ein_rng t ht, elin_rng r hr⟩
end
theorem dec_short : ∀ (k u : Nat), 0 < k → u < 10 ^ k → (Lib.decDigits u).length ≤ k
  | 0, u, h, _ => by omega
  | k + 1, u, _, h => by
    by_cases hu : u < 10
    · rw [Lib.decDigits, dif_pos hu]; simp
    · rw [Lib.decDigits, dif_neg hu, List.length_append]
      have h1 : u / 10 < 10 ^ k := by rw [Nat.pow_succ] at h; omega
      have hk : 0 < k := by
        rcases Nat.eq_zero_or_pos k with rfl | h2
        · simp at h; omega
        · exact h2
      have := dec_short k (u / 10) hk h1
      simp; omega
theorem itoa_short {n : Int} (h0 : -9223372036854775808 ≤ n) (h1 : n ≤ 9223372036854775807) : (Lib.itoa n).length ≤ 21 := by
  unfold Lib.itoa
  split
  · have := dec_short 20 n.natAbs (by omega) (by have : (10 : Nat) ^ 20 = 100000000000000000000 := by decide
                                                 omega)
    simp; omega
  · have := dec_short 20 n.toNat (by omega) (by have : (10 : Nat) ^ 20 = 100000000000000000000 := by decide
                                                omega)
    omega
theorem word_short {k n : Int} (s : List UInt8) (h0 : -9223372036854775808 ≤ n) (h1 : n ≤ 9223372036854775807) : (wordE k n s).length ≤ s.length + 22 := by
  have := itoa_short h0 h1
  unfold wordE
  split
  · simp
  · split
    · simp
    · split
      · simp
      · split
        · omega
        · split
          · simp; omega
          · simp
mutual
theorem text_short : ∀ t : Te, rngE t → (textE t).length + 1 ≤ namesE t + 60 * sizeE t
  | .node k n s l, h => by
    rw [rngE] at h
    have hi := itoa_short h.1.1 h.1.2
    have hw := word_short (k := k) s.data.toList h.1.1 h.1.2
    have hl := text_shortL l h.2
    have hs : s.data.toList.length = s.size := by simp
    rw [textE, namesE, sizeE]
    split
    · simp; omega
    · split
      · omega
      · split
        · simp; omega
        · simp only [List.length_cons, List.length_append, List.length_nil]; omega
theorem text_shortL : ∀ l : List Te, rngEL l → (textEL l).length ≤ namesEL l + 60 * sizeEL l
  | [], _ => by simp [textEL]
  | t :: r, h => by
    rw [rngEL] at h
    have h1 := text_short t h.1
    have h2 := text_shortL r h.2
    rw [textEL, namesEL, sizeEL]
    simp only [List.length_cons, List.length_append]; omega
end
theorem con_short {s : List UInt8} (h : conV s = true) : s.length ≤ 16 := by
  unfold conV at h
  simp only [Bool.and_eq_true, decide_eq_true_eq] at h
  exact h.2.2
theorem fmt_short {k n : Int} {s : List UInt8} {m : Nat} (h : fmtN k n s m) : s.length ≤ 16 := by
  rcases h with ⟨_, rfl, _⟩ | ⟨_, rfl, _⟩ | ⟨_, rfl, _⟩ | ⟨_, rfl, _⟩ | ⟨_, rfl, _⟩ | ⟨_, rfl, _⟩ | ⟨_, hc, _⟩ | ⟨_, ho, _⟩ | ⟨_, hc⟩
  · simp
  · simp
  · simp
  · simp
  · simp
  · simp
  · exact con_short hc
  · simp only [opV, Bool.or_eq_true, beq_iff_eq] at ho
    rcases ho with rfl | rfl | rfl | rfl | rfl | rfl <;> decide
  · exact con_short hc
mutual
theorem names_short : ∀ t : Te, fmtE t → namesE t ≤ 16 * sizeE t
  | .node k n s l, h => by
    rw [fmtE] at h
    have h1 := fmt_short h.1
    have h2 := names_shortL l h.2
    have hs : s.data.toList.length = s.size := by simp
    rw [namesE, sizeE]; omega
theorem names_shortL : ∀ l : List Te, fmtEL l → namesEL l ≤ 16 * sizeEL l
  | [], _ => by simp [namesEL]
  | t :: r, h => by
    rw [fmtEL] at h
    have h1 := names_short t h.1
    have h2 := names_shortL r h.2
    rw [namesEL, sizeEL]; omega
end
end Lx
end Go.Proofs.YteagbndjoklogaaDoor
namespace Go.Proofs.YteagbndjoklogaaDoor
open Go.RowKit
namespace Lx
theorem Calls.fromB {f : FuncId} {args : Array Value} {B : Nat} {W0 W : World} {v : Value} (h : Below B W0 W) (hB : B ≤ W.heap.size) (hc : Calls Tryd.prog f args W fun e w' => e = .returned v ∧ Below W.heap.size W w') : Calls Tryd.prog f args W fun e w' => e = .returned v ∧ Below B W0 w' :=
  hc.mono fun _ _ h2 => ⟨h2.1, h.trans (h2.2.mono hB)⟩
end Lx
end Go.Proofs.YteagbndjoklogaaDoor
