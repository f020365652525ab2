/-
  Plainly: the free ones of a function and of what is applied; the law's in; a row of another's appended.
-/
import Derived.Test.YtikchgigakbeiaaUsPc
namespace Go.Proofs.Ytikchgigakbeiaa
open Go Go.RowKit
namespace Lx
set_option maxRecDepth 100000
mutual
theorem fv_shift : ∀ (t : Te) (b x : Int), x ∈ fvE t b ↔ (x = 0 ∧ 0 < usesE t b) ∨ (0 ≤ x - 1 ∧ x - 1 ∈ fvE t (b + 1))
  | .node k n z l, b, x => by
    rw [fvE, fvE, usesE]
    by_cases hk : k = 1
    · rw [if_pos hk, if_pos hk, if_pos hk]
      by_cases h1 : 0 ≤ n - b
      · rw [if_pos h1]
        by_cases h2 : n = b
        · rw [if_pos h2, if_neg (by omega)]
          simp
          omega
        · rw [if_neg h2, if_pos (by omega)]
          simp
          omega
      · rw [if_neg h1, if_neg (by omega), if_neg (by omega)]
        simp
    · rw [if_neg hk, if_neg hk, if_neg hk, show b + 1 + moreE k n = b + moreE k n + 1 from by omega]
      exact fvL_shift l _ x
theorem fvL_shift : ∀ (l : List Te) (b x : Int), x ∈ fvEL l b ↔ (x = 0 ∧ 0 < usesEL l b) ∨ (0 ≤ x - 1 ∧ x - 1 ∈ fvEL l (b + 1))
  | [], b, x => by simp [fvEL, usesEL]
  | t :: r, b, x => by
    rw [fvEL, fvEL, usesEL, List.mem_append, List.mem_append, fv_shift t b x, fvL_shift r b x]
    constructor
    · rintro ((⟨h1, h2⟩ | h) | (⟨h1, h2⟩ | h))
      · exact .inl ⟨h1, by omega⟩
      · exact .inr ⟨h.1, .inl h.2⟩
      · exact .inl ⟨h1, by omega⟩
      · exact .inr ⟨h.1, .inr h.2⟩
    · rintro (⟨h1, h2⟩ | ⟨h0, h | h⟩)
      · by_cases hu : 0 < usesE t b
        · exact .inl (.inl ⟨h1, hu⟩)
        · exact .inr (.inl ⟨h1, by omega⟩)
      · exact .inl (.inr ⟨h0, h⟩)
      · exact .inr (.inr ⟨h0, h⟩)
end
/-- The numbers one further on. -/
def onL (l : List Int) : List Int := l.map (· + 1)
theorem fv_lam (t : Te) : fvE (lamE t) 0 = fvE t 1 := by
  rw [lamE, fvE, if_neg (by decide), fvEL, fvEL, List.append_nil, show (0 : Int) + moreE 2 0 = 1 from by decide]
theorem fv_app (t u : Te) : fvE (appE t u) 0 = fvE t 0 ++ fvE u 0 := by
  rw [appE, fvE, if_neg (by decide), fvEL, fvEL, fvEL, List.append_nil, show (0 : Int) + moreE 3 0 = 0 from by decide]
theorem free_lam (t : Te) : freeE t = (if 0 < usesE t 0 then [0] else []) ++ onL (freeE (lamE t)) := by
  rw [freeE]
  have hp : ∀ x ∈ freeE (lamE t), 0 ≤ x := fun x hx => fvE_pos _ _ _ ((freeE_mem _ _).1 hx)
  have hs : (onL (freeE (lamE t))).Pairwise (· < ·) := by
    rw [onL, List.pairwise_map]
    exact (freeE_strict (lamE t)).imp fun h => by omega
  have hm : ∀ x, x ∈ onL (freeE (lamE t)) ↔ 0 ≤ x - 1 ∧ x - 1 ∈ fvE t (0 + 1) := fun x => by
    rw [onL, List.mem_map]
    constructor
    · rintro ⟨y, hy, rfl⟩
      rw [show y + 1 - 1 = y from by omega]
      refine ⟨hp y hy, ?_⟩
      have := (freeE_mem _ _).1 hy
      rwa [fv_lam] at this
    · rintro ⟨h0, h1⟩
      refine ⟨x - 1, (freeE_mem _ _).2 ?_, by omega⟩
      rw [fv_lam]
      exact h1
  refine once_eq _ _ ?_ fun x => ?_
  · split
    · rw [List.singleton_append, List.pairwise_cons]
      exact ⟨fun x hx => by have := ((hm x).1 hx).1; omega, hs⟩
    · exact hs
  · rw [fv_shift, List.mem_append, hm]
    split
    · rename_i h
      simp [h]
    · rename_i h
      simp [h]
theorem free_app_mem (t u : Te) (x : Int) : x ∈ freeE (appE t u) ↔ x ∈ freeE t ∨ x ∈ freeE u := by rw [freeE_mem, fv_app, List.mem_append, freeE_mem, freeE_mem]
theorem strict_le : ∀ (p h : List Int), p.Pairwise (· < ·) → h.Pairwise (· < ·) → (∀ x ∈ h, x ∈ p) → h.length ≤ p.length
  | [], h, _, _, hm => by
    cases h with
    | nil => exact Nat.le_refl _
    | cons x r => have := hm x (by simp); simp at this
  | y :: p, [], _, _, _ => Nat.zero_le _
  | y :: p, x :: h, hp, hh, hm => by
    rw [List.pairwise_cons] at hp
    by_cases hxy : x = y
    · rw [List.pairwise_cons] at hh
      have := strict_le p h hp.2 hh.2 fun z hz => by
        rcases List.mem_cons.1 (hm z (List.mem_cons_of_mem _ hz)) with e | h'
        · have := hh.1 z hz; omega
        · exact h'
      simp only [List.length_cons]
      omega
    · have := strict_le p (x :: h) hp.2 hh fun z hz => by
        rcases List.mem_cons.1 (hm z hz) with e | h'
        · rcases List.mem_cons.1 (hm x (by simp)) with e2 | h2
          · exact absurd e2 hxy
          · have h3 := hp.1 x h2
            rw [List.pairwise_cons] at hh
            rcases List.mem_cons.1 hz with e3 | h3'
            · omega
            · have := hh.1 z h3'; omega
        · exact h'
      simp only [List.length_cons] at this ⊢
      omega
theorem free_app_len (t u : Te) : (freeE (appE t u)).length ≤ (freeE t).length + (freeE u).length := by
  have hs := freeE_strict (appE t u)
  have h1 := strict_le (freeE t) ((freeE (appE t u)).filter fun x => decide (x ∈ freeE t)) (freeE_strict t) (hs.filter _) fun x hx => of_decide_eq_true (List.mem_filter.1 hx).2
  have h2 := strict_le (freeE u) ((freeE (appE t u)).filter fun x => !decide (x ∈ freeE t)) (freeE_strict u) (hs.filter _) fun x hx => by
    have h := List.mem_filter.1 hx
    rcases (free_app_mem t u x).1 h.1 with h3 | h3
    · simp [h3] at h
    · exact h3
  have h3 : ∀ l : List Int, l.length = (l.filter fun x => decide (x ∈ freeE t)).length + (l.filter fun x => !decide (x ∈ freeE t)).length := fun l => by
    induction l with
    | nil => rfl
    | cons x r ih =>
      by_cases hx : x ∈ freeE t
      · simp [hx]; omega
      · simp [hx]; omega
  have := h3 (freeE (appE t u))
  omega
set_option maxHeartbeats 4000000 in
theorem in_any (A : Option Addr) (c : Nat) (xs : List Int) (n : Int) (w : World) (hx : RowI w A xs) (hxl : xs.length ≤ 1000000000000) :
    Calls Try.prog 13 #[.slice A xs.length c, .int .i64 n] w fun e w' => e = .returned (.bool (decide (n ∈ xs))) ∧ Below w.heap.size w w' := by
  have HX := Lib.hid hx
  clear hx
  obtain ⟨m, hm⟩ : ∃ m, m = xs.length := ⟨_, rfl⟩
  rw [← hm] at hxl ⊢
  have hm1 : m ≤ xs.length := by omega
  have hm2 : xs.length ≤ m := by omega
  clear hm
  go_enter Try.func13, Try.ntmps13
  go_wp2_with fail
  go_loopw [5] (fun x wr => ∃ i : Nat, i ≤ m ∧ x = .int .i64 i ∧ Hid (n ∉ xs.take i) ∧ Below w.heap.size w wr) (fun x _ => m - (intOf x).toNat)
  case atStart => exact ⟨0, Nat.zero_le _, rfl, Lib.hid (by simp), Below.refl _ _⟩
  case round =>
    obtain ⟨i, hi, rfl, hT, hb⟩ := hrel
    by_cases hlt : i < m
    · have hix : i < xs.length := by omega
      obtain ⟨g, o, rfl, c0⟩ := HX.out i hix
      have hgl := World.block_lt_of_cell? w _ c0
      replace c0 := (hb.cell (p := ⟨g, o + i, none⟩) hgl).trans c0
      have HTK : Hid (xs.take (i + 1) = xs.take i ++ [xs[i]'hix]) := Lib.hid (List.take_succ_eq_append_getElem hix)
      have HME : Hid (xs[i]'hix ∈ xs) := Lib.hid (List.getElem_mem hix)
      obtain ⟨x, hxe⟩ : ∃ x, x = xs[i]'hix := ⟨_, rfl⟩
      rw [← hxe] at c0 HTK HME
      clear hxe hgl
      by_cases hne : x = n
      · have hne1 : (x == n) = true := by simp [hne]
        have hD : decide (n ∈ xs) = true := decide_eq_true (hne ▸ HME.out)
        clear hne
        go_wp2_with fail
        go_ret
        exact ⟨by rw [hD]; rfl, hb⟩
      · have hne1 : (x == n) = false := by simp [hne]
        have HT1 : Hid (n ∉ xs.take (i + 1)) := Lib.hid (by rw [HTK.out, List.mem_append]; exact fun h => h.elim hT.out (fun h => hne (by simp at h; exact h.symm)))
        clear hne
        go_wp2_with fail
        go_roundw
        case rel => exact ⟨i + 1, by omega, by go_num, HT1, hb⟩
        case measure => simp [intOf]; omega
    · go_wp2_with fail
      go_ret
      have hD : decide (n ∈ xs) = false := decide_eq_false (by have := hT.out; rwa [List.take_of_length_le (by omega)] at this)
      exact ⟨by rw [hD]; rfl, hb⟩
/-- Nothing appended. -/
theorem run_append_none {P : Program} {t e ty : TypeId} {i : TypeInfo} (ht : P.underlying t = some (.slice e)) (hi : P.info? e = some i) (g n cap : Nat) (hc : n ≤ cap) (w : World) :
    (Builtin.append_ #[t, t] ty #[.slice (some ⟨g, 0, none⟩) n cap, .slice none 0 0]).run P w = .ok (.slice (some ⟨g, 0, none⟩) n cap) w := by
  simp [Builtin.append_, run_underlying ht, sizeOf, typeInfo, hi, Builtin.lenOf, Builtin.firstCells, loadCells, storeCells, hc]
end Lx
end Go.Proofs.Ytikchgigakbeiaa
