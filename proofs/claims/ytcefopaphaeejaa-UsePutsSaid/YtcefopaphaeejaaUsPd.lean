/-
  Plainly: a closed term put.
-/
import Derived.Test.YtcefopaphaeejaaUsPc
namespace Go.Proofs.Ytcefopaphaeejaa
open Go Go.RowKit
namespace Lx
set_option maxRecDepth 100000
mutual
theorem uses_cl : ∀ (s : Te) (f j : Int), clE s f → f ≤ j → usesE s j = 0
  | .node k n z l, f, j, h, hj => by
    rw [clE] at h
    rw [usesE]
    split
    · rename_i hk
      rw [if_neg (by have := h.1 hk; omega)]
    · exact usesL_cl l _ _ h.2.2 (by omega)
theorem usesL_cl : ∀ (l : List Te) (f j : Int), clEL l f → f ≤ j → usesEL l j = 0
  | [], _, _, _, _ => by rw [usesEL]
  | t :: r, f, j, h, hj => by rw [clEL] at h; rw [usesEL, uses_cl t f j h.1 hj, usesL_cl r f j h.2 hj]
end
mutual
theorem fv_cl : ∀ (s : Te) (f c : Int), clE s f → f ≤ c → fvE s c = []
  | .node k n z l, f, c, h, hj => by
    rw [clE] at h
    rw [fvE]
    split
    · rename_i hk
      rw [if_neg (by have := h.1 hk; omega)]
    · exact fvL_cl l _ _ h.2.2 (by omega)
theorem fvL_cl : ∀ (l : List Te) (f c : Int), clEL l f → f ≤ c → fvEL l c = []
  | [], _, _, _, _ => by rw [fvEL]
  | t :: r, f, c, h, hj => by rw [clEL] at h; rw [fvEL, fv_cl t f c h.1 hj, fvL_cl r f c h.2 hj]; rfl
end
mutual
theorem up_cl : ∀ (s : Te) (u f : Int), clE s f → chE (upF u) s f = s
  | .node k n z l, u, f, h => by
    rw [clE] at h
    rw [chE]
    split
    · rename_i hk
      have := h.1 hk
      rw [upF, if_neg (by omega), this.2.2, hk]
    · rw [upL_cl l u _ h.2.2]
theorem upL_cl : ∀ (l : List Te) (u f : Int), clEL l f → chEL (upF u) l f = l
  | [], _, _, _ => by rw [chEL]
  | t :: r, u, f, h => by rw [clEL] at h; rw [chEL, up_cl t u f h.1, upL_cl r u f h.2]
end
mutual
theorem put_uses : ∀ (t : Te) (k b j : Int) (s : Te) (f : Int), clE s 0 → clE t f → 0 ≤ j → j < k + b → usesE (chE (putF k s) t b) j = usesE t j
  | .node k' n z l, k, b, j, s, f, hs, ht, hj, hb => by
    rw [clE] at ht
    rw [chE, usesE]
    by_cases hk : k' = 1
    · rw [if_pos hk, if_pos hk, putF]
      by_cases h1 : n = k + b
      · rw [if_pos h1, upE, up_cl s b 0 hs, uses_cl s 0 j hs hj, if_neg (by omega)]
      · rw [if_neg h1, usesE, if_pos rfl]
        by_cases h2 : k + b < n
        · rw [if_pos h2, if_neg (by omega), if_neg (by omega)]
        · rw [if_neg h2]
    · have hm := more_nn (k := k') (n := n) (fun h => (ht.2.1 h).1)
      rw [if_neg hk, if_neg hk, usesE, if_neg hk]
      exact put_usesL l k (b + moreE k' n) (j + moreE k' n) s _ hs ht.2.2 (by omega) (by omega)
theorem put_usesL : ∀ (l : List Te) (k b j : Int) (s : Te) (f : Int), clE s 0 → clEL l f → 0 ≤ j → j < k + b → usesEL (chEL (putF k s) l b) j = usesEL l j
  | [], _, _, _, _, _, _, _, _, _ => by rw [chEL]
  | t :: r, k, b, j, s, f, hs, ht, hj, hb => by
    rw [clEL] at ht
    rw [chEL, usesEL, usesEL, put_uses t k b j s f hs ht.1 hj hb, put_usesL r k b j s f hs ht.2 hj hb]
end
theorem put_own (k' n : Int) (l : List Te) (k b : Int) (s : Te) (f : Int) (hs : clE s 0) (ht : clEL l f) (_hm : 0 ≤ moreE k' n) (hb : 0 ≤ k + b) : ownE k' n (chEL (putF k s) l (b + moreE k' n)) = ownE k' n l := by
  cases l with
  | nil => rw [chEL]
  | cons t r =>
    rw [clEL] at ht
    rw [chEL, ownE, ownE]
    refine List.map_congr_left fun i hi => ?_
    have hi2 := List.mem_range.1 hi
    rw [toldN] at hi2
    rw [put_uses t k (b + moreE k' n) _ s f hs ht.1 (by omega) (by omega)]
section
variable (φ : List Int → Int) (h0 : φ [] = 0) (ha : ∀ l m, φ (l ++ m) = φ l + φ m)
include h0 ha
mutual
theorem put_of : ∀ (t : Te) (k b : Int) (s : Te) (f : Int), clE s 0 → clE t f → 0 ≤ k + b → φ (ofE (chE (putF k s) t b)) = φ (ofE t) + (usesE t (k + b) : Int) * φ (ofE s)
  | .node k' n z l, k, b, s, f, hs, ht, hb => by
    rw [clE] at ht
    rw [chE, usesE]
    by_cases hk : k' = 1
    · have hl := (ht.1 hk).2.2
      subst hl
      subst hk
      rw [if_pos rfl, if_pos rfl, putF]
      by_cases h1 : n = k + b
      · rw [if_pos h1, if_pos h1, upE, up_cl s b 0 hs, ofE, ownE, ofEL, List.append_nil, h0]
        simp
      · rw [if_neg h1, if_neg h1, ofE, ofE, ownE, ownE, ofEL, List.append_nil, h0]
        simp
    · have hm := more_nn (k := k') (n := n) (fun h => (ht.2.1 h).1)
      rw [if_neg hk, if_neg hk, ofE, ofE, ha, ha, put_own k' n l k b s _ hs ht.2.2 hm hb, put_ofL l k (b + moreE k' n) s _ hs ht.2.2 (by omega), show k + (b + moreE k' n) = k + b + moreE k' n from by omega]
      omega
theorem put_ofL : ∀ (l : List Te) (k b : Int) (s : Te) (f : Int), clE s 0 → clEL l f → 0 ≤ k + b → φ (ofEL (chEL (putF k s) l b)) = φ (ofEL l) + (usesEL l (k + b) : Int) * φ (ofE s)
  | [], _, _, _, _, _, _, _ => by rw [chEL, ofEL, usesEL, h0]; simp
  | t :: r, k, b, s, f, hs, ht, hb => by
    rw [clEL] at ht
    rw [chEL, ofEL, ofEL, usesEL, ha, ha, put_of t k b s f hs ht.1 hb, put_ofL r k b s f hs ht.2 hb, Int.natCast_add, Int.add_mul]
    omega
end
end
/-- The numbers beyond the first one, one less. -/
def offL (l : List Int) : List Int := (l.filter fun x => decide (0 < x)).map (· - 1)
theorem offL_app (l m : List Int) : offL (l ++ m) = offL l ++ offL m := by simp [offL]
mutual
theorem put_fv : ∀ (t : Te) (k b : Int) (s : Te) (f : Int), clE s 0 → clE t f → 0 ≤ k + b → fvE (chE (putF k s) t b) (k + b) = offL (fvE t (k + b))
  | .node k' n z l, k, b, s, f, hs, ht, hb => by
    rw [clE] at ht
    have e : fvE (.node k' n z l) (k + b) = if k' = 1 then (if 0 ≤ n - (k + b) then [n - (k + b)] else []) else fvEL l (k + b + moreE k' n) := by rw [fvE]
    rw [chE, e]
    by_cases hk : k' = 1
    · rw [if_pos hk, if_pos hk, putF]
      by_cases h1 : n = k + b
      · rw [if_pos h1, upE, up_cl s b 0 hs, fv_cl s 0 (k + b) hs hb, if_pos (by omega)]
        simp [offL, h1]
      · rw [if_neg h1, fvE, if_pos rfl]
        by_cases h2 : k + b < n
        · rw [if_pos h2, if_pos (by omega), if_pos (by omega)]
          have h3 : 0 < n - (k + b) := by omega
          simp only [offL, List.filter_cons, List.filter_nil, decide_eq_true h3, if_true, List.map_cons, List.map_nil]
          congr 1
          omega
        · rw [if_neg h2, if_neg (by omega)]
          rfl
    · rw [if_neg hk, if_neg hk, fvE, if_neg hk]
      have hm := more_nn (k := k') (n := n) (fun h => (ht.2.1 h).1)
      have := put_fvL l k (b + moreE k' n) s _ hs ht.2.2 (by omega)
      rw [show k + b + moreE k' n = k + (b + moreE k' n) from by omega]
      exact this
theorem put_fvL : ∀ (l : List Te) (k b : Int) (s : Te) (f : Int), clE s 0 → clEL l f → 0 ≤ k + b → fvEL (chEL (putF k s) l b) (k + b) = offL (fvEL l (k + b))
  | [], _, _, _, _, _, _, _ => by rw [chEL, fvEL]; rfl
  | t :: r, k, b, s, f, hs, ht, hb => by
    rw [clEL] at ht
    rw [chEL, fvEL, fvEL, put_fv t k b s f hs ht.1 hb, put_fvL r k b s f hs ht.2 hb, offL_app]
end
theorem offL_strict : ∀ l : List Int, l.Pairwise (· < ·) → (offL l).Pairwise (· < ·) := fun l h => by
  rw [offL, List.pairwise_map]
  exact (h.filter _).imp fun h => by omega
theorem offL_mem (l : List Int) (x : Int) : x ∈ offL l ↔ 0 ≤ x ∧ x + 1 ∈ l := by
  rw [offL, List.mem_map]
  constructor
  · rintro ⟨y, hy, rfl⟩
    have := List.mem_filter.1 hy
    have h2 := of_decide_eq_true this.2
    exact ⟨by omega, by rw [show y - 1 + 1 = y from by omega]; exact this.1⟩
  · rintro ⟨h1, h2⟩
    exact ⟨x + 1, List.mem_filter.2 ⟨h2, decide_eq_true (by omega)⟩, by omega⟩
theorem put_free (t s : Te) (f : Int) (hs : clE s 0) (ht : clE t f) : freeE (putE t 0 s) = offL (freeE t) := by
  have h := put_fv t 0 0 s f hs ht (by omega)
  rw [freeE, putE]
  refine once_eq _ _ (offL_strict _ (freeE_strict t)) fun x => ?_
  rw [show (0 : Int) + 0 = 0 from rfl] at h
  rw [h, offL_mem, offL_mem, freeE_mem]
theorem put_fans (t s : Te) (f : Int) (hs : clE s 0) (ht : clE t f) : fansL (ofE (putE t 0 s)) = fansL (ofE t) + (usesE t 0 : Int) * fansL (ofE s) := put_of fansL rfl fansL_app t 0 0 s f hs ht (by omega)
theorem put_drops (t s : Te) (f : Int) (hs : clE s 0) (ht : clE t f) : dropsL (ofE (putE t 0 s)) = dropsL (ofE t) + (usesE t 0 : Int) * dropsL (ofE s) := put_of dropsL rfl dropsL_app t 0 0 s f hs ht (by omega)
theorem put_len (t s : Te) (f : Int) (hs : clE s 0) (ht : clE t f) : ((ofE (putE t 0 s)).length : Int) = (ofE t).length + (usesE t 0 : Int) * (ofE s).length := put_of (fun l => (l.length : Int)) rfl (fun l m => by simp) t 0 0 s f hs ht (by omega)
end Lx
end Go.Proofs.Ytcefopaphaeejaa
