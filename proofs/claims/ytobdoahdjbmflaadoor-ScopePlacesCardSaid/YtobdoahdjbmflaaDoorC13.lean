/-
  Texts that lie one behind the other: ScW Few ScX ScT GMod Par5.
-/
import Derived.Test.YtobdoahdjbmflaaDoorC12
import Derived.Test.YtobdoahdjbmflaaDoorC8
import Derived.Test.YtobdoahdjbmflaaDoorC1
import Derived.Test.YtobdoahdjbmflaaDoorC7
import Derived.Deep.QuietTactic
import Derived.BigQuiet
import Derived.Deep.Cut
namespace Go.Proofs.YtobdoahdjbmflaaDoor
namespace Lx
set_option maxRecDepth 100000
/-! Parts of what is checked. -/
def likeS (x : Spot) : Tr × Bool := (x.t, x.twin)
mutual
theorem spots_like : ∀ (t : Tr) (b b' : List ByteArray) (tw : Bool), (spotsT b' tw t).map likeS = (spotsT b tw t).map likeS
  | .node k s n a l, b, b', tw => by
    rw [spotsT, spotsT, List.map_cons, List.map_cons, spots_likeL l k n s l b b' 0 []]
    rfl
theorem spots_likeL : ∀ (l : List Tr) (k n : Int) (s : ByteArray) (all : List Tr) (b b' : List ByteArray) (i : Nat) (ah : List ByteArray), (spotsL k n s all b' i ah l).map likeS = (spotsL k n s all b i ah l).map likeS
  | [], _, _, _, _, _, _, _, _ => by rw [spotsL, spotsL]
  | t :: r, k, n, s, all, b, b', i, ah => by
    rw [spotsL, spotsL]
    split
    · exact spots_likeL r k n s all b b' (i + 1) ah
    · rw [List.map_append, List.map_append, spots_like t (innerN k n s i all b) (innerN k n s i all b') _, spots_likeL r k n s all b b' (i + 1) _]
end
theorem spot_like {t : Tr} {b b' : List ByteArray} {tw : Bool} {y : Spot} (h : y ∈ spotsT b' tw t) : ∃ x ∈ spotsT b tw t, x.t = y.t ∧ x.twin = y.twin := by
  have h1 : likeS y ∈ (spotsT b' tw t).map likeS := List.mem_map.2 ⟨y, h, rfl⟩
  rw [spots_like t b b' tw, List.mem_map] at h1
  obtain ⟨x, hx, e⟩ := h1
  exact ⟨x, hx, congrArg Prod.fst e, congrArg Prod.snd e⟩
theorem spots_part (k n : Int) (s : ByteArray) (all : List Tr) (b : List ByteArray) : ∀ (l : List Tr) (i : Nat) (ah : List ByteArray) (p : Tr), p ∈ l → fromN k n ≤ i → p.kind ≠ 8 → ∃ b', ∀ x ∈ spotsT b' false p, x ∈ spotsL k n s all b i ah l
  | [], _, _, _, h, _, _ => by cases h
  | t :: r, i, ah, p, h, hi, h8 => by
    rw [spotsL, if_neg (by omega)]
    rcases List.mem_cons.1 h with rfl | h
    · refine ⟨innerN k n s i all b, fun x hx => List.mem_append.2 (.inl ?_)⟩
      rw [decide_eq_false h8, Bool.false_and]
      exact hx
    · obtain ⟨b', hb⟩ := spots_part k n s all b r (i + 1) (if t.kind = 8 then ah ++ [t.name] else ah) p h (by omega) h8
      exact ⟨b', fun x hx => List.mem_append.2 (.inr (hb x hx))⟩
theorem ofN_mem : ∀ (l : List (ByteArray × Int)) (s : ByteArray), 0 ≤ ofN l s → (s, ofN l s) ∈ l
  | [], s, h => by rw [ofN] at h; omega
  | (x, n) :: r, s, h => by
    rw [ofN] at h ⊢
    by_cases e : x = s
    · subst e; rw [if_pos rfl]; exact List.mem_cons_self
    · rw [if_neg e] at h ⊢; exact List.mem_cons_of_mem _ (ofN_mem r s h)
theorem met_spot {t : Tr} {p : ByteArray × Int} (h : p ∈ metT t) : ∃ x ∈ spotsT [] false t, 0 ≤ ownN x.t.kind x.t.n x.t.parts ∧ x.t.name = p.1 ∧ ownN x.t.kind x.t.n x.t.parts = p.2 := by
  rw [← mets_spots t [] false, metsS, List.mem_filterMap] at h
  obtain ⟨x, hx, e⟩ := h
  split at e
  · rename_i h0
    injection e with e
    exact ⟨x, hx, h0, congrArg Prod.fst e, congrArg Prod.snd e⟩
  · cases e
theorem spot_met {t : Tr} {b : List ByteArray} {tw : Bool} {x : Spot} (h : x ∈ spotsT b tw t) (h0 : 0 ≤ ownN x.t.kind x.t.n x.t.parts) : (x.t.name, ownN x.t.kind x.t.n x.t.parts) ∈ metT t := by
  rw [← mets_spots t b tw, metsS, List.mem_filterMap]
  exact ⟨x, h, by rw [if_pos h0]⟩
theorem met_nn (t : Tr) : ∀ p ∈ metT t, 0 ≤ p.2 := fun p hp => by
  rw [← mets_spots t [] false] at hp
  exact mets_nn _ p hp
theorem badS_zero {A : List (ByteArray × Int)} {x : Spot} (h : badS A x = 0) : (0 ≤ ownN x.t.kind x.t.n x.t.parts → ofN A x.t.name = ownN x.t.kind x.t.n x.t.parts) ∧ ¬ (x.twin = true ∨ (x.t.kind = 8 ∧ twiceN (varsN x.t.n x.t.parts) = true)) := by
  unfold badS at h
  split at h
  · omega
  · split at h
    · omega
    · rename_i h1
      split at h
      · omega
      · rename_i h2
        refine ⟨fun h3 => ?_, h2⟩
        by_cases e : ofN A x.t.name = ownN x.t.kind x.t.n x.t.parts
        · exact e
        · exact absurd ⟨h3, e⟩ h1
theorem part_may {t p : Tr} (h : mayV t = true) (hp : p ∈ t.parts) (h8 : p.kind ≠ 8) : mayV p = true := by
  obtain ⟨k, s, n, a, l⟩ := t
  unfold mayV at h ⊢
  simp only [Bool.and_eq_true, decide_eq_true_eq] at h ⊢
  exact ⟨h8, mayL_memT k n l 0 (may_inv h.2).2.2.2 p hp⟩
theorem part_checked {t p : Tr} (h : mayV t = true) (hb : (badT (consT t) [] [] t).2 = 0) (hp : p ∈ t.parts) (h8 : p.kind ≠ 8) : (badT (consT p) [] [] p).2 = 0 ∨ (badT (consT p) [] [] p).2 = 50 := by
  have hm := part_may h hp h8
  rw [bad_first t h] at hb
  rw [bad_first p hm]
  have hz := first_zero _ _ hb
  have hk := mayV_kind t h
  obtain ⟨k, s, n, a, l⟩ := t
  have hk8 : k ≠ 8 := hk
  obtain ⟨b', hb'⟩ := spots_part k n s l [] l 0 [] p hp (by unfold fromN; rw [if_neg hk8]; omega) h8
  have hin : ∀ y ∈ spotsT [] false p, ∃ x ∈ spotsT [] false (.node k s n a l), x.t = y.t ∧ x.twin = y.twin := fun y hy => by
    obtain ⟨x, hx, e⟩ := spot_like (b := b') hy
    refine ⟨x, ?_, e⟩
    rw [spotsT]
    exact List.mem_cons_of_mem _ (hb' x hx)
  have h1 : ∀ y ∈ spotsT [] false p, 0 ≤ ownN y.t.kind y.t.n y.t.parts → ofN (consT (.node k s n a l)) y.t.name = ownN y.t.kind y.t.n y.t.parts := fun y hy h0 => by
    obtain ⟨x, hx, e, _⟩ := hin y hy
    have := (badS_zero (hz x hx)).1
    rw [e] at this
    exact this h0
  have h2 : ∀ y ∈ spotsT [] false p, 0 ≤ ownN y.t.kind y.t.n y.t.parts → ofN (consT p) y.t.name = ownN y.t.kind y.t.n y.t.parts := fun y hy h0 => by
    have hge : 0 ≤ ofN (consT p) y.t.name := ofN_once_mem (metT p) heads5 goodA_heads (met_nn p) _ (spot_met hy h0)
    have hm1 := ofN_mem _ _ hge
    generalize ofN (consT p) y.t.name = v at hm1 hge ⊢
    rcases once_mem _ _ _ hm1 with hh | hh
    · have hv : v = 0 ∧ ofN (consT (.node k s n a l)) y.t.name = 0 := by
        have h0 : 0 ≤ ofN heads5 y.t.name ∧ v = ofN heads5 y.t.name := by
          unfold heads5 at hh
          simp only [List.mem_cons, List.not_mem_nil, or_false, Prod.mk.injEq] at hh
          rcases hh with ⟨e1, e2⟩ | ⟨e1, e2⟩
          · rw [e1, e2]; decide
          · rw [e1, e2]; decide
        have h3 : v = 0 := by
          unfold heads5 at hh
          simp only [List.mem_cons, List.not_mem_nil, or_false, Prod.mk.injEq] at hh
          rcases hh with ⟨e1, e2⟩ | ⟨e1, e2⟩ <;> exact e2
        refine ⟨h3, ?_⟩
        show ofN (onceN heads5 _) _ = 0
        rw [ofN_once_mono _ _ _ h0.1, ← h0.2, h3]
      have := h1 y hy h0
      omega
    · obtain ⟨z, hz1, hz2, hz3, hz4⟩ := met_spot hh
      have e1 := h1 z hz1 hz2
      have e2 := h1 y hy h0
      simp only at hz3 hz4
      rw [hz3] at e1
      omega
  rcases first_is (consT p) (spotsT [] false p) with h3 | ⟨y, hy, hy0, h3⟩
  · exact .inl h3
  · right
    rw [h3]
    obtain ⟨x, hx, e, et⟩ := hin y hy
    have hx2 := (badS_zero (hz x hx)).2
    rw [e, et] at hx2
    unfold badS at hy0 ⊢
    by_cases hf : y.free = true
    · rw [if_pos hf]
    · rw [if_neg hf, if_neg (fun hc => hc.2 (h2 y hy hc.1)), if_neg hx2] at hy0
      exact absurd rfl hy0
/-! Bare trees. -/
theorem vars_bare : ∀ (l : List Tr) (n : Int), varsN n (bareL l) = varsN n l
  | [], n => by rw [bareL]
  | t :: r, n => by rw [bareL, varsN, varsN, vars_bare r, bareT_name]
theorem inner_bare (k n : Int) (s : ByteArray) (i : Nat) (l : List Tr) (b : List ByteArray) : innerN k n s i (bareL l) b = innerN k n s i l b := by
  unfold innerN
  rw [vars_bare]
theorem own_bare (k n : Int) (l : List Tr) : ownN k n (bareL l) = ownN k n l := by
  unfold ownN
  rw [bareL_length]
mutual
theorem loose_bare : ∀ (t : Tr) (b : List ByteArray), looseT b (bareT t) = looseT b t
  | .node k s n a l, b => by rw [bareT, looseT, looseT, loose_bareL l k n s l b 0]
theorem loose_bareL : ∀ (l : List Tr) (k n : Int) (s : ByteArray) (all : List Tr) (b : List ByteArray) (i : Nat), looseL k n s (bareL all) b i (bareL l) = looseL k n s all b i l
  | [], _, _, _, _, _, _ => by rw [bareL, looseL, looseL]
  | t :: r, k, n, s, all, b, i => by
    rw [bareL, looseL, looseL, inner_bare, loose_bare t, loose_bareL r]
end
mutual
theorem met_bare : ∀ t : Tr, metT (bareT t) = metT t
  | .node k s n a l => by rw [bareT, metT, metT, met_bareL l k n 0, own_bare]
theorem met_bareL : ∀ (l : List Tr) (k n : Int) (i : Nat), metL k n i (bareL l) = metL k n i l
  | [], _, _, _ => by rw [bareL, metL]
  | t :: r, k, n, i => by rw [bareL, metL, metL, met_bare t, met_bareL r]
end
mutual
theorem bad_bare (A : List (ByteArray × Int)) : ∀ (t : Tr) (b ah : List ByteArray), badT A b ah (bareT t) = (0, (badT A b ah t).2)
  | .node k s n a l, b, ah => by
    rw [bareT, badT, badT, own_bare, vars_bare, bad_bareL A l k n s l b 0 []]
    split
    · rfl
    · split
      · rfl
      · split
        · rfl
        · rfl
theorem bad_bareL (A : List (ByteArray × Int)) : ∀ (l : List Tr) (k n : Int) (s : ByteArray) (all : List Tr) (b : List ByteArray) (i : Nat) (ah : List ByteArray), badL A k n s (bareL all) b i ah (bareL l) = (0, (badL A k n s all b i ah l).2)
  | [], _, _, _, _, _, _, _ => by rw [bareL, badL, badL]
  | t :: r, k, n, s, all, b, i, ah => by
    rw [bareL, badL, badL, inner_bare, bad_bare A t, bareT_name, bad_bareL A r, bad_bareL A r]
    split
    · rfl
    · split
      · rfl
      · rfl
end
mutual
theorem may_bareT : ∀ t : Tr, mayT t = true → mayT (bareT t) = true
  | .node k s n a l, h => by
    rw [mayT] at h
    rw [bareT, mayT, bareL_length]
    split at h
    · rename_i q hq
      simp only [Bool.and_eq_true] at h ⊢
      refine ⟨?_, may_bareL l k n 0 h.2⟩
      have h1 := h.1
      unfold fitsV at h1 ⊢
      by_cases hc : a < 0 ∨ n < 0 ∨ q.2.1 < n
      · rw [if_pos hc] at h1; cases h1
      · rw [if_neg hc] at h1
        rw [if_neg (by omega)]
        exact h1
    · cases h
theorem may_bareL : ∀ (l : List Tr) (k n : Int) (i : Nat), mayL k n i l = true → mayL k n i (bareL l) = true
  | [], _, _, _, _ => by rw [bareL, mayL]
  | t :: r, k, n, i, h => by
    rw [mayL] at h
    simp only [Bool.and_eq_true] at h
    rw [bareL, mayL, bareT_kind]
    simp only [Bool.and_eq_true]
    exact ⟨h.1, may_bareT t h.2.1, may_bareL r k n (i + 1) h.2.2⟩
end
theorem may_bareV {t : Tr} (h : mayV t = true) : mayV (bareT t) = true := by
  unfold mayV at h ⊢
  simp only [Bool.and_eq_true, decide_eq_true_eq] at h ⊢
  exact ⟨by rw [bareT_kind]; exact h.1, may_bareT t h.2⟩
theorem check_bare {t : Tr} (h : mayV t = true) : checkV (bareT t) = (0, (checkV t).2) := by
  unfold checkV
  rw [if_pos h, if_pos (may_bareV h), bad_bare]
  unfold consT
  rw [met_bare]
theorem free_bare {t : Tr} (h : mayV t = true) : freeV5 (bareT t) = freeV5 t := by
  unfold freeV5 freeT
  rw [if_pos h, if_pos (may_bareV h), loose_bare]
theorem cons_bare {t : Tr} (h : mayV t = true) : consV5 (bareT t) = consV5 t := by
  unfold consV5 consT
  rw [if_pos h, if_pos (may_bareV h), met_bare]
/-! Trees that are made of two. -/
def letT (k : Int) (s : ByteArray) (a b : Tr) : Tr := .node k s 0 0 [a, b]
theorem may_var (s : ByteArray) : mayV (.node 1 s 0 0 []) = nameV s.data.toList := by simp [mayV, Tr.kind, mayT, shapeV, fitsV, whatV, mayL]
theorem may_let (s : ByteArray) (a b : Tr) (ha : mayV a = true) (hb : mayV b = true) (hs : nameV s.data.toList = true) : mayV (letT 4 s a b) = true := by
  unfold mayV at ha hb
  simp only [Bool.and_eq_true, decide_eq_true_eq] at ha hb
  unfold mayV
  rw [show (letT 4 s a b).kind = 4 from rfl]
  simp [letT, mayT, shapeV, fitsV, whatV, mayL, standsV, ha, hb, hs]
theorem may_rec (s : ByteArray) (a b : Tr) (ha : mayV a = true) (hb : mayV b = true) (hs : nameV s.data.toList = true) : mayV (letT 5 s a b) = true := by
  unfold mayV at ha hb
  simp only [Bool.and_eq_true, decide_eq_true_eq] at ha hb
  unfold mayV
  rw [show (letT 5 s a b).kind = 5 from rfl]
  simp [letT, mayT, shapeV, fitsV, whatV, mayL, standsV, ha, hb, hs]
theorem may_app (a b : Tr) (ha : mayV a = true) (hb : mayV b = true) : mayV (letT 3 ⟨#[]⟩ a b) = true := by
  unfold mayV at ha hb
  simp only [Bool.and_eq_true, decide_eq_true_eq] at ha hb
  unfold mayV
  rw [show (letT 3 ⟨#[]⟩ a b).kind = 3 from rfl]
  simp [letT, mayT, shapeV, fitsV, whatV, mayL, standsV, ha, hb]
theorem may_less (a b : Tr) (ha : mayV a = true) (hb : mayV b = true) : mayV (letT 10 ⟨#[60]⟩ a b) = true := by
  unfold mayV at ha hb
  simp only [Bool.and_eq_true, decide_eq_true_eq] at ha hb
  have : opV [60] = true := by decide
  unfold mayV
  rw [show (letT 10 ⟨#[60]⟩ a b).kind = 10 from rfl]
  simp [letT, mayT, shapeV, fitsV, whatV, mayL, standsV, ha, hb, this]
theorem depth_two (k : Int) (s : ByteArray) (a b : Tr) : depthT (letT k s a b) = max (depthT a) (depthT b) + 1 := by simp [letT, depthT, depthL]
theorem size_two (k : Int) (s : ByteArray) (a b : Tr) : sizeT (letT k s a b) = sizeT a + sizeT b + 1 := by simp [letT, sizeT, sizeL]
theorem loose_two (k : Int) (s : ByteArray) (a b : Tr) (h : k = 3 ∨ k = 4 ∨ k = 5) : looseT [] (letT k s a b) = looseT (if k = 5 then [s] else []) a ++ looseT (if k = 3 then [] else [s]) b := by
  rw [letT, looseT, looseL, looseL, looseL]
  rcases h with rfl | rfl | rfl <;> simp [fromN, innerN]
theorem met_two (k : Int) (s : ByteArray) (a b : Tr) (h : k = 3 ∨ k = 10) : metT (letT k s a b) = metT a ++ metT b := by
  rw [letT, metT, metL, metL, metL]
  rcases h with rfl | rfl <;> simp [fromN, ownN]
theorem loose_one_mem (s x : ByteArray) (t : Tr) : x ∈ looseT [s] t ↔ x ∈ looseT [] t ∧ ¬ x = s := by
  rw [loose_nil [s] t, List.mem_filter, Bool.not_eq_true', Bool.eq_false_iff, ne_eq, inN_mem, List.mem_singleton]
theorem let_mem (s x : ByteArray) (a b : Tr) : x ∈ freeT (letT 4 s a b) ↔ x ∈ freeT a ∨ (x ∈ freeT b ∧ ¬ x = s) := by
  rw [free_mem, free_mem, free_mem, loose_two 4 s a b (by omega), List.mem_append, if_neg (by omega), if_neg (by omega), loose_one_mem]
theorem rec_mem (s x : ByteArray) (a b : Tr) : x ∈ freeT (letT 5 s a b) ↔ (x ∈ freeT a ∨ x ∈ freeT b) ∧ ¬ x = s := by
  rw [free_mem, free_mem, free_mem, loose_two 5 s a b (by omega), List.mem_append, if_pos rfl, if_neg (by omega), loose_one_mem, loose_one_mem, or_and_right]
theorem app_mem (x : ByteArray) (a b : Tr) : x ∈ freeT (letT 3 ⟨#[]⟩ a b) ↔ x ∈ freeT a ∨ x ∈ freeT b := by
  rw [free_mem, free_mem, free_mem, loose_two 3 _ a b (by omega), List.mem_append, if_neg (by omega), if_pos rfl]
/-! Constructors of both. -/
/-- Those that are more than h. -/
def moreN : List (ByteArray × Int) → List (ByteArray × Int) → List (ByteArray × Int)
  | _, [] => []
  | h, p :: r => if ofN h p.1 < 0 then p :: moreN (h ++ [p]) r else moreN h r
theorem once_more : ∀ (l h : List (ByteArray × Int)), onceN h l = h ++ moreN h l
  | [], h => by rw [onceN, moreN, List.append_nil]
  | (s, n) :: r, h => by
    rw [onceN, moreN]
    by_cases e : ofN h s < 0
    · rw [if_pos e, if_pos e, once_more r, List.append_assoc]; rfl
    · rw [if_neg e, if_neg e, once_more r]
theorem more_none : ∀ (l h : List (ByteArray × Int)), (∀ p ∈ h, 0 ≤ p.2) → (∀ p ∈ l, 0 ≤ p.2) → ∀ q ∈ moreN h l, ofN h q.1 < 0
  | [], h, _, _, q, hq => by rw [moreN] at hq; cases hq
  | (s, n) :: r, h, hh, hl, q, hq => by
    rw [moreN] at hq
    have hr : ∀ p ∈ r, 0 ≤ p.2 := fun p hp => hl p (List.mem_cons_of_mem _ hp)
    have hn : 0 ≤ n := hl (s, n) List.mem_cons_self
    by_cases e : ofN h s < 0
    · rw [if_pos e] at hq
      rcases List.mem_cons.1 hq with rfl | hq
      · exact e
      · have h1 := more_none r (h ++ [(s, n)]) (fun p hp => by
          rcases List.mem_append.1 hp with hp | hp
          · exact hh p hp
          · rw [List.mem_singleton] at hp; subst hp; exact hn) hr q hq
        exact ((ofN_snoc h s q.1 n hn hh).1 h1).1
    · rw [if_neg e] at hq
      exact more_none r h hh hr q hq
theorem more_in : ∀ (l h x : List (ByteArray × Int)), (∀ p ∈ h, 0 ≤ p.2) → (∀ p ∈ x, 0 ≤ p.2) → (∀ p ∈ l, 0 ≤ p.2) → (∀ s, ofN x s < 0 → ofN h s < 0) → moreN x l = (moreN h l).filter (fun p => decide (ofN x p.1 < 0))
  | [], h, x, _, _, _, _ => by rw [moreN, moreN]; rfl
  | (s, n) :: r, h, x, hh, hx, hl, hs => by
    have hr : ∀ p ∈ r, 0 ≤ p.2 := fun p hp => hl p (List.mem_cons_of_mem _ hp)
    have hn : 0 ≤ n := hl (s, n) List.mem_cons_self
    have hh2 : ∀ p ∈ h ++ [(s, n)], 0 ≤ p.2 := fun p hp => by
      rcases List.mem_append.1 hp with hp | hp
      · exact hh p hp
      · rw [List.mem_singleton] at hp; subst hp; exact hn
    have hx2 : ∀ p ∈ x ++ [(s, n)], 0 ≤ p.2 := fun p hp => by
      rcases List.mem_append.1 hp with hp | hp
      · exact hx p hp
      · rw [List.mem_singleton] at hp; subst hp; exact hn
    rw [moreN, moreN]
    by_cases e : ofN x s < 0
    · rw [if_pos e, if_pos (hs s e), List.filter_cons, if_pos (by exact decide_eq_true e)]
      congr 1
      rw [more_in r (h ++ [(s, n)]) (x ++ [(s, n)]) hh2 hx2 hr fun v hv => by
        rw [ofN_snoc x s v n hn hx] at hv
        rw [ofN_snoc h s v n hn hh]
        exact ⟨hs v hv.1, hv.2⟩]
      refine List.filter_congr fun q hq => ?_
      have h1 := more_none r _ hh2 hr q hq
      rw [ofN_snoc h s q.1 n hn hh] at h1
      rw [decide_eq_decide, ofN_snoc x s q.1 n hn hx]
      exact ⟨fun h => h.1, fun h => ⟨h, h1.2⟩⟩
    · rw [if_neg e]
      by_cases e2 : ofN h s < 0
      · rw [if_pos e2, List.filter_cons, if_neg (by simpa using e)]
        refine more_in r (h ++ [(s, n)]) x hh2 hx hr fun v hv => ?_
        rw [ofN_snoc h s v n hn hh]
        exact ⟨hs v hv, fun ev => e (ev ▸ hv)⟩
      · rw [if_neg e2]
        exact more_in r h x hh hx hr hs
theorem cons_nn (t : Tr) : ∀ p ∈ consT t, 0 ≤ p.2 := (goodA_heads.once (metT t) (met_nn t)).1
theorem heads_in (t : Tr) (s : ByteArray) (h : ofN (consT t) s < 0) : ofN heads5 s < 0 := by
  by_cases e : ofN heads5 s < 0
  · exact e
  · have := ofN_once_mono (metT t) heads5 s (by omega)
    unfold consT at h
    omega
/-- What is made of both has the first one's, and behind them those of the second one that are others. -/
theorem cons_two (k : Int) (s : ByteArray) (a b : Tr) (h : k = 3 ∨ k = 10) : consT (letT k s a b) = consT a ++ (consT b).filter (fun p => decide (ofN (consT a) p.1 < 0)) := by
  have h1 : consT (letT k s a b) = consT a ++ moreN (consT a) (metT b) := by
    unfold consT
    rw [met_two k s a b h, onceN_app, ← once_more]
  have h2 : consT b = heads5 ++ moreN heads5 (metT b) := once_more (metT b) heads5
  rw [h1, more_in (metT b) heads5 (consT a) goodA_heads.1 (cons_nn a) (met_nn b) (heads_in a), h2, List.filter_append]
  have h3 : heads5.filter (fun p => decide (ofN (consT a) p.1 < 0)) = [] := by
    rw [List.filter_eq_nil_iff]
    intro p hp hd
    have h4 := heads_in a p.1 (by simpa using hd)
    unfold heads5 at hp
    simp only [List.mem_cons, List.not_mem_nil, or_false] at hp
    rcases hp with rfl | rfl
    · exact absurd h4 (by decide)
    · exact absurd h4 (by decide)
  rw [h3, List.nil_append]
theorem cons_two_len (t : Tr) : 2 ≤ (consT t).length := by
  have := (onceN_len heads5 (metT t)).1
  exact this
end Lx
end Go.Proofs.YtobdoahdjbmflaaDoor
namespace Go.Proofs.YtobdoahdjbmflaaDoor
open Go.RowKit
namespace Lx
set_option maxRecDepth 100000
set_option maxHeartbeats 1000000 in
theorem few_stop (k n a L D : Int) (s : ByteArray) (A : Option Addr) (m c : Nat) (w : World) (h : L < 1 ∨ D < 1) :
    Calls Tryd.prog 16 #[.agg #[.int .i64 k, .string s, .int .i64 n, .int .i64 a, .slice A m c], .int .i64 L, .int .i64 D] w fun e w' => e = .returned (.int .i64 (-1)) ∧ Below w.heap.size w w' := by
  have hb : Below w.heap.size w (w.alloc (.cells #[.int .i64 k, .string s, .int .i64 n, .int .i64 a, .slice A m c] 24)) := (Below.refl _ w).alloc (Nat.le_refl _) _
  by_cases h1 : L < 1
  · clear h
    go_enter Tryd.func16, Tryd.ntmps16
    go_wp2_with fail
    go_ret
    exact ⟨rfl, hb⟩
  · have h2 : D < 1 := h.resolve_left h1
    clear h
    go_enter Tryd.func16, Tryd.ntmps16
    go_wp2_with fail
    go_ret
    exact ⟨rfl, hb⟩

set_option maxHeartbeats 1000000 in
theorem few_any (d : Nat) : ∀ (t : Tr) (A : Option Addr) (c : Nat) (L D : Int) (w : World), depthT t ≤ d → TIn w Any t A → -1000 ≤ L → L ≤ 100000 → -1000 ≤ D → D ≤ 1000 →
    Calls Tryd.prog 16 #[tv t A c, .int .i64 L, .int .i64 D] w fun e w' => e = .returned (.int .i64 (fewT t L D)) ∧ Below w.heap.size w w' := by
  induction d with
  | zero => intro t A c _ _ w h; have := depth_pos t; omega
  | succ d ih =>
    intro t A c L D w hd hI hL1 hL2 hD1 hD2
    obtain ⟨k, s, n, a, l⟩ := t
    have hdL : depthL l ≤ d := by rw [depthT] at hd; omega
    have hlen : l.length ≤ 140737488351232 := by rw [TIn] at hI; exact hI.2.1
    have HI := Lib.hid hI
    clear hI hd
    show Calls Tryd.prog 16 #[.agg #[.int .i64 k, .string s, .int .i64 n, .int .i64 a, .slice A l.length (capF l.length c)], .int .i64 L, .int .i64 D] w _
    generalize capF l.length c = c
    by_cases hst : L < 1 ∨ D < 1
    · refine (few_stop k n a L D s A _ c w hst).mono ?_
      rintro e w' ⟨rfl, hb⟩
      exact ⟨ret_int (by rw [fewT, if_pos hst]), hb⟩
    · have hL3 : ¬ L < 1 := fun h => hst (.inl h)
      have hD3 : ¬ D < 1 := fun h => hst (.inr h)
      have HE : Hid (fewT (.node k s n a l) L D = fewL l (L - 1) (D - 1)) := by
        show _ = _
        rw [fewT, if_neg hst]
      clear hst
      obtain ⟨m, hm⟩ : ∃ m, m = l.length := ⟨_, rfl⟩
      rw [← hm] at hlen ⊢
      have hm1 : m ≤ l.length := by omega
      have hm2 : l.length ≤ m := by omega
      clear hm
      go_enter Tryd.func16, Tryd.ntmps16
      go_wp2_with fail
      go_loopw [1, 7] (fun v x wr => ∃ (i : Nat) (F : Int), i ≤ m ∧ x = .int .i64 i ∧ v = .int .i64 F ∧ 0 ≤ F ∧ F ≤ 100000 ∧ Hid (fewL l (L - 1) (D - 1) = fewL (l.drop i) F (D - 1)) ∧ Below (w.heap.size + 1) (w.alloc (.cells #[.int .i64 k, .string s, .int .i64 n, .int .i64 a, .slice A m c] 24)) wr) (fun _ x _ => m - (intOf x).toNat)
      case atStart => exact ⟨0, L - 1, by omega, rfl, rfl, by omega, by omega, by exact rfl, Below.refl _ _⟩
      case round =>
        obtain ⟨i, F, hi, rfl, rfl, hF1, hF2, HQ, hbx⟩ := hrel
        have hbw : Below w.heap.size w wr := below_ac (by simpa using hbx)
        have c4 := ((Lies.new w 24 #[.int .i64 k, .string s, .int .i64 n, .int .i64 a, .slice A m c]).below hbx (by omega)).cell 4
        have hbxs := hbx.size
        simp at c4 hbxs
        by_cases hlt : i < m
        · have hia : i < l.length := by omega
          obtain ⟨g, o, A', c', ⟨hA, _⟩, d0, d1, d2, d3, d4, hIn⟩ := TIn.part (TIn.below _ HI.out hbw (Nat.le_refl _)) i hia
          subst hA
          have hm3 := depthL_mem l (l[i]'hia) (List.getElem_mem hia)
          have HS : Hid (fewL (l.drop i) F (D - 1) = if fewT (l[i]'hia) F (D - 1) < 0 then -1 else fewL (l.drop (i + 1)) (fewT (l[i]'hia) F (D - 1)) (D - 1)) := by
            show _ = _
            rw [List.drop_eq_getElem_cons hia, fewL]
          have hfs := few_size (l[i]'hia) F (D - 1)
          simp only [Tr.parts] at d0 d1 d2 d3 d4 hIn
          obtain ⟨tr, hu⟩ : ∃ tr, tr = l[i]'hia := ⟨_, rfl⟩
          rw [← hu] at d0 d1 d2 d3 d4 hIn hm3 HS hfs
          clear hu
          obtain ⟨tk, ts, tn, ta, tl⟩ := tr
          simp only [Tr.kind, Tr.name, Tr.n, Tr.place] at d0 d1 d2 d3 d4
          obtain ⟨G, hG⟩ : ∃ G, G = fewT (.node tk ts tn ta tl) F (D - 1) := ⟨_, rfl⟩
          rw [← hG] at HS hfs
          have hih := ih (.node tk ts tn ta tl) A' c' F (D - 1) wr (by omega) hIn (by omega) (by omega) (by omega) (by omega)
          rw [← hG] at hih
          have HG := Lib.hid hG
          have HIH := Lib.hid hih
          have HFS := Lib.hid hfs
          clear hG hih hfs
          by_cases hneg : G < 0
          · go_wp2_with fail
            refine HIH.out.mono ?_
            rintro e w2 ⟨rfl, hb2⟩
            go_wp2_with fail
            go_ret
            refine ⟨ret_int ?_, hbw.trans (hb2.mono (by omega))⟩
            rw [HE.out, HQ.out, HS.out, if_pos hneg]
          · go_wp2_with fail
            refine HIH.out.mono ?_
            rintro e w2 ⟨rfl, hb2⟩
            go_wp2_with fail
            go_roundw
            case rel =>
              have h1 := HFS.out (by omega)
              refine ⟨i + 1, G, by omega, by go_num, rfl, by omega, by omega, ?_, hbx.trans (hb2.mono (by omega))⟩
              show _ = _
              rw [HQ.out, HS.out, if_neg (by omega)]
            case measure => simp [intOf]; omega
        · go_wp2_with fail
          go_ret
          obtain rfl : i = m := by omega
          refine ⟨ret_int ?_, hbw⟩
          rw [HE.out, HQ.out, List.drop_eq_nil_of_le (by omega), fewL]

theorem tsmall_any (t : Tr) (A : Option Addr) (c : Nat) (L : Int) (w : World) (hI : TIn w Any t A) (hL1 : 0 ≤ L) (hL2 : L ≤ 100000) :
    Calls Tryd.prog 6 #[tv t A c, .int .i64 L] w fun e w' => e = .returned (.bool (decide (0 ≤ fewT t L 200))) ∧ Below w.heap.size w w' := by
  obtain ⟨k, s, n, a, l⟩ := t
  have hF := few_any (depthT (.node k s n a l)) (.node k s n a l) A c L 200 (w.alloc (.cells #[.int .i64 k, .string s, .int .i64 n, .int .i64 a, .slice A l.length (capF l.length c)] 24)) (Nat.le_refl _)
    (TIn.below _ hI ((Below.refl _ w).alloc (Nat.le_refl _) _) (Nat.le_refl _)) (by omega) hL2 (by omega) (by omega)
  have HF := Lib.hid hF
  clear hF hI
  show Calls Tryd.prog 6 #[.agg #[.int .i64 k, .string s, .int .i64 n, .int .i64 a, .slice A l.length (capF l.length c)], .int .i64 L] w _
  go_enter Tryd.func6, Tryd.ntmps6
  go_wp2_with fail
  refine HF.out.mono ?_
  rintro e w2 ⟨rfl, hb2⟩
  go_wp2_with fail
  go_ret
  exact ⟨rfl, below_ac hb2⟩
end Lx
end Go.Proofs.YtobdoahdjbmflaaDoor
namespace Go.Proofs.YtobdoahdjbmflaaDoor
open Go Go.RowKit
namespace Lx
set_option maxRecDepth 100000
theorem few5 {t : Tr} {L : Int} (h : decide (0 ≤ fewT t L 200) = true) : (sizeT t : Int) ≤ L ∧ depthT t ≤ 200 := by
  have h2 : 0 ≤ fewT t L 200 := by simpa using h
  have h1 := few_size t L 200 h2
  omega
theorem loose_len : ∀ t : Tr, (freeT t).length ≤ sizeT t := fun t => by
  have h1 : (looseT [] t).length ≤ sizeT t := by
    rw [← frees_spots t [] false, freesS, List.length_map]
    exact Nat.le_trans (List.length_filter_le _ _) (lenS t [] false)
  have h2 := onceB_len [] (looseT [] t)
  unfold freeT
  rw [sortB_len]
  simp only [List.length_nil, Nat.zero_add] at h2
  omega
theorem freeV_len (t : Tr) : (freeV5 t).length ≤ sizeT t := by
  unfold freeV5
  split
  · exact loose_len t
  · simp
theorem consV_len (t : Tr) : (consV5 t).length ≤ 2 + sizeT t := by
  unfold consV5
  split
  · exact cons_len t
  · simp
mutual
theorem depth_bareS : ∀ t : Tr, depthT (bareT t) = depthT t
  | .node k s n a l => by rw [bareT, depthT, depthT, depth_bareSL l]
theorem depth_bareSL : ∀ l : List Tr, depthL (bareL l) = depthL l
  | [] => by rw [bareL]
  | t :: r => by rw [bareL, depthL, depthL, depth_bareS t, depth_bareSL r]
end
mutual
theorem size_bareS : ∀ t : Tr, sizeT (bareT t) = sizeT t
  | .node k s n a l => by rw [bareT, sizeT, sizeT, size_bareSL l]
theorem size_bareSL : ∀ l : List Tr, sizeL (bareL l) = sizeL l
  | [] => by rw [bareL]
  | t :: r => by rw [bareL, sizeL, sizeL, size_bareS t, size_bareSL r]
end
theorem giveN_in {l : List ByteArray} {w w' : World} {e : Ending} (h : GiveN l w e w') : ∃ A c, e = .returned (.slice A l.length c) ∧ SIn w' Any l A ∧ Below w.heap.size w w' := by
  obtain ⟨A, c, he, hr, hb⟩ := h
  exact ⟨A, c, he, (SIn.owned hr).any, hb⟩
theorem giveA_in {l : List (ByteArray × Int)} {w w' : World} {e : Ending} (h : GiveA l w e w') : ∃ A c, e = .returned (.slice A l.length c) ∧ AIn w' Any l A ∧ Below w.heap.size w w' := by
  obtain ⟨A, c, he, hr, hb⟩ := h
  exact ⟨A, c, he, (AIn.owned hr).any, hb⟩
/-- A world in which a box of five cells is written. -/
def put5S (w : World) (g : Nat) (a b c d e : Value) : World := ((((w.setCell ⟨g, 0, none⟩ a).setCell ⟨g, 1, none⟩ b).setCell ⟨g, 2, none⟩ c).setCell ⟨g, 3, none⟩ d).setCell ⟨g, 4, none⟩ e
theorem Lies.put5 {w : World} {g : Nat} {t : TypeId} {a b c d e : Value} (h : Lies w g t #[a, b, c, d, e]) (x y z u v : Value) : Lies (put5S w g x y z u v) g t #[x, y, z, u, v] := by
  have h1 := Lies.put h 0 x
  have h2 := Lies.put h1 1 y
  have h3 := Lies.put h2 2 z
  have h4 := Lies.put h3 3 u
  have h5 := Lies.put h4 4 v
  unfold put5S; simpa using h5
theorem Lies.off5 {w : World} {g' : Nat} {t : TypeId} {cs : Array Value} (h : Lies w g' t cs) {g : Nat} (hg : g' ≠ g) (x y z u v : Value) : Lies (put5S w g x y z u v) g' t cs :=
  ((((h.far (p := ⟨g, 0, none⟩) hg x).far (p := ⟨g, 1, none⟩) hg y).far (p := ⟨g, 2, none⟩) hg z).far (p := ⟨g, 3, none⟩) hg u).far (p := ⟨g, 4, none⟩) hg v
theorem Below.put5 {B : Nat} {a w : World} (h : Below B a w) {g : Nat} (hg : B ≤ g) (x y z u v : Value) : Below B a (put5S w g x y z u v) :=
  ((((h.setCell (p := ⟨g, 0, none⟩) hg x).setCell (p := ⟨g, 1, none⟩) hg y).setCell (p := ⟨g, 2, none⟩) hg z).setCell (p := ⟨g, 3, none⟩) hg u).setCell (p := ⟨g, 4, none⟩) hg v
theorem put5_size (w : World) (g : Nat) (x y z u v : Value) : (put5S w g x y z u v).heap.size = w.heap.size := by simp [put5S, World.setCell]
theorem put5_cell (w : World) (g : Nat) (x y z u v : Value) (g' j : Nat) (h : g' ≠ g) : (put5S w g x y z u v).cell? ⟨g', j, none⟩ = w.cell? ⟨g', j, none⟩ := by
  have e : ∀ (w : World) (o : Nat) (a : Value), (w.setCell ⟨g, o, none⟩ a).cell? ⟨g', j, none⟩ = w.cell? ⟨g', j, none⟩ := fun w o a => World.cell?_setCell_other w ⟨g, o, none⟩ ⟨g', j, none⟩ a (fun e => by injection e with e; exact h e.symm)
  unfold put5S
  rw [e, e, e, e, e]
theorem TIn.put5 (t : Tr) {w : World} {X : Nat → Prop} {A : Option Addr} (h : TIn w X t A) {g : Nat} (hg : ¬ X g) (x y z u v : Value) : TIn (put5S w g x y z u v) X t A :=
  TIn.keep t h fun g' j hX _ => ⟨put5_cell w g x y z u v g' j (fun e => hg (e ▸ hX)), hX⟩
theorem SIn.put5 {w : World} {X : Nat → Prop} {l : List ByteArray} {A : Option Addr} (h : SIn w X l A) {g : Nat} (hg : ¬ X g) (x y z u v : Value) : SIn (put5S w g x y z u v) X l A :=
  h.keep fun g' j hX _ => ⟨put5_cell w g x y z u v g' j (fun e => hg (e ▸ hX)), hX⟩
end Lx
end Go.Proofs.YtobdoahdjbmflaaDoor
namespace Go.Proofs.YtobdoahdjbmflaaDoor
open Go Go.RowKit
attribute [local go_sem] Oper.semAt_some
namespace Lx
set_option maxRecDepth 100000
theorem SIn.of_own {w : World} {b n c : Nat} {A : Option Addr} {l : List ByteArray} (h : w.ownsRow b 9 1 (.slice A n c) n (cellsS l)) : SIn w (fun g => b ≤ g) l A := SIn.owned h
set_option maxHeartbeats 2000000 in
theorem names_any (l r : List ByteArray) (A B : Option Addr) (m n c d : Nat) (w : World) (hm : m = l.length) (hn : n = r.length) (hm2 : m ≤ 1000000) (_hn2 : n ≤ 1000000) (hI : SIn w Any l A) (hJ : SIn w Any r B) :
    Calls Tryd.prog 15 #[.slice A m c, .slice B n d] w fun e w' => e = .returned (.bool (decide (l = r))) ∧ Below w.heap.size w w' := by
  have HI := Lib.hid hI
  have HJ := Lib.hid hJ
  have HM := Lib.hid hm
  have HN := Lib.hid hn
  clear hI hJ hm hn
  by_cases hne : m = n
  · have hne2 : ((m : Int) != (n : Int)) = false := by simp [hne]
    have HE := Lib.hid hne
    clear hne
    go_enter Tryd.func15, Tryd.ntmps15
    go_wp2_with fail
    go_loopw [5] (fun x wr => ∃ i : Nat, i ≤ m ∧ x = .int .i64 i ∧ Hid (l.take i = r.take i) ∧ Below w.heap.size w wr) (fun x _ => m - (intOf x).toNat)
    case atStart => exact ⟨0, by omega, rfl, Lib.hid rfl, Below.refl _ w⟩
    case round =>
      obtain ⟨i, hi, rfl, HQ, hbw⟩ := hrel
      have hbs := hbw.size
      by_cases hlt : i < m
      · have hia : i < l.length := by have := HM.out; omega
        have hja : i < r.length := by have := HN.out; have := HE.out; omega
        obtain ⟨g, o, rfl, _, d0⟩ := (HI.out.below hbw (Nat.le_refl _)) i hia
        obtain ⟨g2, o2, rfl, _, e0⟩ := (HJ.out.below hbw (Nat.le_refl _)) i hja
        have hltn : i < n := by have := HE.out; omega
        have HD : Hid (l.take (i + 1) = l.take i ++ [l[i]'hia]) := Lib.hid (List.take_succ_eq_append_getElem hia)
        have HD2 : Hid (r.take (i + 1) = r.take i ++ [r[i]'hja]) := Lib.hid (List.take_succ_eq_append_getElem hja)
        have HDE : Hid (l = r → l[i]'hia = r[i]'hja) := Lib.hid (fun h => by subst h; rfl)
        obtain ⟨x, hx⟩ : ∃ x, x = l[i]'hia := ⟨_, rfl⟩
        obtain ⟨y, hy⟩ : ∃ y, y = r[i]'hja := ⟨_, rfl⟩
        rw [← hx] at d0 HD HDE
        rw [← hy] at e0 HD2 HDE
        clear hx hy
        by_cases hxs : x = y
        · subst hxs
          have h1 : (x.toList == x.toList) = true := BEq.rfl
          have h2 : (x.toList != x.toList) = false := by simp
          go_wp2_with fail
          go_quiet (fail)
          go_wp2_with fail
          go_roundw
          case rel => exact ⟨i + 1, by omega, by go_num, Lib.hid (by rw [HD.out, HD2.out, HQ.out]), below_drewN hbw _⟩
          case measure => simp [intOf]; omega
        · have h1 : (x.toList == y.toList) = false := by rw [ename_q, decide_eq_false hxs]
          have h2 : (x.toList != y.toList) = true := by rw [bne, h1]; rfl
          have HR : Hid (decide (l = r) = false) := Lib.hid (decide_eq_false fun h => hxs (HDE.out h))
          clear hxs
          go_wp2_with fail
          go_quiet (fail)
          go_wp2_with fail
          go_ret
          exact ⟨ret_bool HR.out.symm, below_drewN hbw _⟩
      · go_wp2_with fail
        go_ret
        refine ⟨ret_bool ?_, hbw⟩
        have h1 := HQ.out
        rw [List.take_of_length_le (by have := HM.out; omega), List.take_of_length_le (by have := HN.out; have := HE.out; omega)] at h1
        exact (decide_eq_true h1).symm
  · have hne2 : ((m : Int) != (n : Int)) = true := by simp; omega
    have HE : Hid (decide (l = r) = false) := Lib.hid (decide_eq_false fun h => hne (by rw [HM.out, HN.out, h]))
    clear hne
    go_enter Tryd.func15, Tryd.ntmps15
    go_wp2_with fail
    go_ret
    exact ⟨ret_bool HE.out.symm, Below.refl _ w⟩
end Lx
end Go.Proofs.YtobdoahdjbmflaaDoor
namespace Go.Proofs.YtobdoahdjbmflaaDoor
namespace Lx
set_option maxRecDepth 100000
abbrev GR := Except Nat (Tr × Nat)
def kAt (l : List Tok) (i : Nat) : Int := match l[i]? with | some t => t.kind | none => 0
def xAt (l : List Tok) (i : Nat) : List UInt8 := match l[i]? with | some t => if 4 ≤ t.kind then t.text else [] | none => []
def nmAt (l : List Tok) (i : Nat) : ByteArray := match l[i]? with | some t => ⟨t.text.toArray⟩ | none => ⟨#[]⟩
def plAt (l : List Tok) (i : Nat) : Int := match l[i]? with | some t => t.place | none => 0
def nuAt (l : List Tok) (i : Nat) : Int := match l[i]? with | some t => t.n | none => 0
def letS : List UInt8 := [108, 101, 116]
def letrecS : List UInt8 := [108, 101, 116, 114, 101, 99]
def caseS : List UInt8 := [99, 97, 115, 101]
def ofS : List UInt8 := [111, 102]
def inS : List UInt8 := [105, 110]
def signA (l : List Tok) (i : Nat) (lev : Int) : Bool :=
  if lev = 0 then xAt l i == [60] || xAt l i == [61, 61] else if lev = 1 then xAt l i == [43] || xAt l i == [45] else xAt l i == [42] || xAt l i == [47]
def atomicA (l : List Tok) (i : Nat) : Bool := (decide (1 ≤ kAt l i) && decide (kAt l i ≤ 3)) || xAt l i == [40]
/-- The variables of an alternative. -/
def gNames : Nat → List Tok → Nat → List Tr → Except Nat (List Tr × Nat)
  | 0, _, j, _ => .error j
  | f + 1, l, j, acc => if kAt l j = 1 then (if acc.length = 8 then .error j else gNames f l (j + 1) (acc ++ [.node 1 (nmAt l j) 0 (plAt l j) []])) else .ok (acc, j)
mutual
def gExpr : Nat → List Tok → Nat → GR
  | 0, _, i => .error i
  | f + 1, l, i => if xAt l i == [92] then gLam f l i else if xAt l i == letS || xAt l i == letrecS then gLet f l i else if xAt l i == caseS then gMatch f l i else gOps f l i 0
def gLam : Nat → List Tok → Nat → GR
  | 0, _, i => .error i
  | f + 1, l, i => if kAt l (i + 1) ≠ 1 then .error (i + 1) else if xAt l (i + 2) ≠ [46] then .error (i + 2) else
    match gExpr f l (i + 3) with
    | .error j => .error j
    | .ok (b, j) => .ok (.node 2 (nmAt l (i + 1)) 0 (plAt l i) [b], j)
def gLet : Nat → List Tok → Nat → GR
  | 0, _, i => .error i
  | f + 1, l, i => if kAt l (i + 1) ≠ 1 then .error (i + 1) else if xAt l (i + 2) ≠ [61] then .error (i + 2) else
    match gExpr f l (i + 3) with
    | .error j => .error j
    | .ok (a, j) => if xAt l j ≠ inS then .error j else
      match gExpr f l (j + 1) with
      | .error j2 => .error j2
      | .ok (b, j2) => .ok (.node (if nmAt l i = ⟨letrecS.toArray⟩ then 5 else 4) (nmAt l (i + 1)) 0 (plAt l i) [a, b], j2)
def gAlt : Nat → List Tok → Nat → GR
  | 0, _, i => .error i
  | f + 1, l, i => if kAt l i ≠ 2 then .error i else
    match gNames (l.length + 1) l (i + 1) [] with
    | .error j => .error j
    | .ok (vs, j) => if xAt l j ≠ [45, 62] then .error j else
      match gExpr f l (j + 1) with
      | .error j2 => .error j2
      | .ok (b, j2) => .ok (.node 8 (nmAt l i) vs.length (plAt l i) (vs ++ [b]), j2)
def gMatch : Nat → List Tok → Nat → GR
  | 0, _, i => .error i
  | f + 1, l, i =>
    match gExpr f l (i + 1) with
    | .error j => .error j
    | .ok (a, j) => if xAt l j ≠ ofS then .error j else if xAt l (j + 1) ≠ [123] then .error (j + 1) else gAlts f l i (j + 2) [a]
def gAlts : Nat → List Tok → Nat → Nat → List Tr → GR
  | 0, _, _, j, _ => .error j
  | f + 1, l, i, j, acc =>
    match gAlt f l j with
    | .error j2 => .error j2
    | .ok (b, j2) => if xAt l j2 = [125] then .ok (.node 7 ⟨#[]⟩ 0 (plAt l i) (acc ++ [b]), j2 + 1) else if xAt l j2 ≠ [124] ∨ acc.length = 8 then .error j2 else gAlts f l i (j2 + 1) (acc ++ [b])
def gOps : Nat → List Tok → Nat → Int → GR
  | 0, _, i, _ => .error i
  | f + 1, l, i, lev => if lev = 3 then gApp f l i else
    match gOps f l i (lev + 1) with
    | .error j => .error j
    | .ok (a, j) => gOpsL f l lev 0 a j
def gOpsL : Nat → List Tok → Int → Nat → Tr → Nat → GR
  | 0, _, _, _, _, j => .error j
  | f + 1, l, lev, n, a, j => if signA l j lev = true ∧ (0 < lev ∨ n < 1) then
      match gOps f l (j + 1) (lev + 1) with
      | .error j2 => .error j2
      | .ok (b, j2) => gOpsL f l lev (n + 1) (.node 10 (nmAt l j) 0 a.place [a, b]) j2
    else .ok (a, j)
def gApp : Nat → List Tok → Nat → GR
  | 0, _, i => .error i
  | f + 1, l, i =>
    match gAtom f l i with
    | .error j => .error j
    | .ok (a, j) => gAppL f l (decide (kAt l i = 2)) a j
def gAppL : Nat → List Tok → Bool → Tr → Nat → GR
  | 0, _, _, _, j => .error j
  | f + 1, l, con, a, j => if atomicA l j then (if con = true ∧ a.parts.length = 8 then .error j else
      match gAtom f l j with
      | .error j2 => .error j2
      | .ok (b, j2) => gAppL f l con (if con then .node a.kind a.name a.n a.place (a.parts ++ [b]) else .node 3 ⟨#[]⟩ 0 a.place [a, b]) j2)
    else .ok (a, j)
def gAtom : Nat → List Tok → Nat → GR
  | 0, _, i => .error i
  | f + 1, l, i => if xAt l i == [40] then
      match gExpr f l (i + 1) with
      | .error j => .error j
      | .ok (a, j) => if xAt l j ≠ [41] then .error j else .ok (a, j + 1)
    else if kAt l i = 1 then .ok (.node 1 (nmAt l i) 0 (plAt l i) [], i + 1) else if kAt l i = 2 then .ok (.node 6 (nmAt l i) 0 (plAt l i) [], i + 1)
    else if kAt l i = 3 then .ok (.node 9 ⟨#[]⟩ (nuAt l i) (plAt l i) [], i + 1) else .error i
end
/-- What Parse tells. -/
def parseG (s : List UInt8) (deep : Int) : Except (Int × Int) Tr :=
  if deep < 1 ∨ 200 < deep then .error (0, 1) else if 4096 < s.length then .error (0, 32) else
  match allK s with
  | .error pe => .error pe
  | .ok l => match gExpr (8 * l.length + 8) l 0 with
    | .error j => .error (if j < l.length then plAt l j else s.length, 30)
    | .ok (t, j) => if j < l.length then .error (plAt l j, 30) else if deep < depthT t then .error (0, 31) else .ok t

theorem xAt_lt {l : List Tok} {i : Nat} {s : List UInt8} (h : xAt l i = s) (hs : s ≠ []) : i < l.length := by
  unfold xAt at h
  rcases Nat.lt_or_ge i l.length with hlt | hge
  · exact hlt
  · rw [List.getElem?_eq_none hge] at h
    exact absurd h.symm hs
theorem kAt_lt {l : List Tok} {i : Nat} (h : kAt l i ≠ 0) : i < l.length := by
  unfold kAt at h
  rcases Nat.lt_or_ge i l.length with hlt | hge
  · exact hlt
  · rw [List.getElem?_eq_none hge] at h
    exact absurd rfl h
theorem names_prog : ∀ (f : Nat) (l : List Tok) (j : Nat) (acc vs : List Tr) (j2 : Nat), gNames f l j acc = .ok (vs, j2) → acc.length ≤ 8 → j ≤ j2 ∧ (j ≤ l.length → j2 ≤ l.length) ∧ vs.length ≤ 8
  | 0, l, j, acc, vs, j2, h, _ => by cases h
  | f + 1, l, j, acc, vs, j2, h, ha => by
    rw [gNames] at h
    split at h
    · rename_i hk
      split at h
      · cases h
      · have := names_prog f l (j + 1) _ vs j2 h (by simp; omega)
        have hlt := kAt_lt (l := l) (i := j) (by omega)
        omega
    · cases h
      exact ⟨Nat.le_refl _, id, ha⟩
/-- Readings go on, and end at the end at the latest. -/
def Prog (l : List Tok) (i : Nat) (r : GR) : Prop := ∀ t j, r = .ok (t, j) → i < j ∧ j ≤ l.length
theorem Prog.err (l : List Tok) (i j : Nat) : Prog l i (.error j) := fun _ _ h => by cases h
structure ProgAll (f : Nat) : Prop where
  expr : ∀ l i, Prog l i (gExpr f l i)
  lam : ∀ l i, Prog l i (gLam f l i)
  let_ : ∀ l i, Prog l i (gLet f l i)
  alt : ∀ l i, Prog l i (gAlt f l i)
  match_ : ∀ l i, Prog l i (gMatch f l i)
  alts : ∀ l i j acc, Prog l j (gAlts f l i j acc)
  ops : ∀ l i lev, Prog l i (gOps f l i lev)
  opsL : ∀ l lev n a i j, i < j → j ≤ l.length → Prog l i (gOpsL f l lev n a j)
  app : ∀ l i, Prog l i (gApp f l i)
  appL : ∀ l con a i j, i < j → j ≤ l.length → Prog l i (gAppL f l con a j)
  atom : ∀ l i, Prog l i (gAtom f l i)
theorem Prog.next {l : List Tok} {i k : Nat} {r : GR} (h : Prog l k r) (hk : i ≤ k) : Prog l i r := fun t j e => by
  have := h t j e
  omega
theorem prog_all : ∀ f, ProgAll f
  | 0 => by
    refine ⟨?_, ?_, ?_, ?_, ?_, ?_, ?_, ?_, ?_, ?_, ?_⟩
    all_goals
      intros
      intro t j h
      first
        | (rw [gExpr] at h; cases h)
        | (rw [gLam] at h; cases h)
        | (rw [gLet] at h; cases h)
        | (rw [gAlt] at h; cases h)
        | (rw [gMatch] at h; cases h)
        | (rw [gAlts] at h; cases h)
        | (rw [gOps] at h; cases h)
        | (rw [gOpsL] at h; cases h)
        | (rw [gApp] at h; cases h)
        | (rw [gAppL] at h; cases h)
        | (rw [gAtom] at h; cases h)
  | f + 1 => by
    have ih := prog_all f
    refine ⟨?_, ?_, ?_, ?_, ?_, ?_, ?_, ?_, ?_, ?_, ?_⟩
    · intro l i
      rw [gExpr]
      split
      · exact ih.lam l i
      · split
        · exact ih.let_ l i
        · split
          · exact ih.match_ l i
          · exact ih.ops l i 0
    · intro l i t j h
      rw [gLam] at h
      split at h
      · cases h
      · split at h
        · cases h
        · split at h
          · cases h
          · rename_i b j' hb
            have := ih.expr l (i + 3) b j' hb
            cases h
            omega
    · intro l i t j h
      rw [gLet] at h
      split at h
      · cases h
      · split at h
        · cases h
        · split at h
          · cases h
          · rename_i a j1 ha
            have h1 := ih.expr l (i + 3) a j1 ha
            split at h
            · cases h
            · split at h
              · cases h
              · rename_i b j2 hb
                have := ih.expr l (j1 + 1) b j2 hb
                cases h
                omega
    · intro l i t j h
      rw [gAlt] at h
      split at h
      · cases h
      · split at h
        · cases h
        · rename_i vs j1 hv
          have h1 := names_prog _ _ _ _ _ _ hv (by simp)
          split at h
          · cases h
          · split at h
            · cases h
            · rename_i b j2 hb
              have := ih.expr l (j1 + 1) b j2 hb
              cases h
              omega
    · intro l i t j h
      rw [gMatch] at h
      split at h
      · cases h
      · rename_i a j1 ha
        have h1 := ih.expr l (i + 1) a j1 ha
        split at h
        · cases h
        · split at h
          · cases h
          · have := ih.alts l i (j1 + 2) [a] t j h
            omega
    · intro l i j acc t j9 h
      rw [gAlts] at h
      split at h
      · cases h
      · rename_i b j2 hb
        have h1 := ih.alt l j b j2 hb
        split at h
        · rename_i hx
          have := xAt_lt hx (by simp)
          cases h
          omega
        · split at h
          · cases h
          · have := ih.alts l i (j2 + 1) (acc ++ [b]) t j9 h
            omega
    · intro l i lev t j h
      rw [gOps] at h
      split at h
      · exact ih.app l i t j h
      · split at h
        · cases h
        · rename_i a j1 ha
          have h1 := ih.ops l i (lev + 1) a j1 ha
          exact ih.opsL l lev 0 a i j1 h1.1 h1.2 t j h
    · intro l lev n a i j hij hj t j9 h
      rw [gOpsL] at h
      split at h
      · split at h
        · cases h
        · rename_i b j2 hb
          have h1 := ih.ops l (j + 1) (lev + 1) b j2 hb
          exact ih.opsL l lev (n + 1) _ i j2 (by omega) h1.2 t j9 h
      · cases h
        exact ⟨hij, hj⟩
    · intro l i t j h
      rw [gApp] at h
      split at h
      · cases h
      · rename_i a j1 ha
        have h1 := ih.atom l i a j1 ha
        exact ih.appL l _ a i j1 h1.1 h1.2 t j h
    · intro l con a i j hij hj t j9 h
      rw [gAppL] at h
      split at h
      · split at h
        · cases h
        · split at h
          · cases h
          · rename_i b j2 hb
            have h1 := ih.atom l j b j2 hb
            exact ih.appL l con _ i j2 (by omega) h1.2 t j9 h
      · cases h
        exact ⟨hij, hj⟩
    · intro l i t j h
      rw [gAtom] at h
      split at h
      · split at h
        · cases h
        · rename_i a j1 ha
          have h1 := ih.expr l (i + 1) a j1 ha
          split at h
          · cases h
          · rename_i hx
            have := xAt_lt (Classical.byContradiction fun e => hx e) (by simp)
            cases h
            omega
      · split at h
        · rename_i hk
          have := kAt_lt (l := l) (i := i) (by omega)
          cases h
          omega
        · split at h
          · rename_i hk
            have := kAt_lt (l := l) (i := i) (by omega)
            cases h
            omega
          · split at h
            · rename_i hk
              have := kAt_lt (l := l) (i := i) (by omega)
              cases h
              omega
            · cases h
end Lx
end Go.Proofs.YtobdoahdjbmflaaDoor
namespace Go.Proofs.YtobdoahdjbmflaaDoor
namespace Lx
set_option maxRecDepth 100000
/-- \x. y -/
def t5a : Tr := .node 2 ⟨#[120]⟩ 0 0 [(.node 1 ⟨#[121]⟩ 0 4 [])]
theorem r5a : parseG [92, 120, 46, 32, 121] 99 = .ok t5a := by kernel_rfl
/-- \x. A x (A x) -/
def t5b : Tr := .node 2 ⟨#[120]⟩ 0 0 [(.node 6 ⟨#[65]⟩ 0 4 [(.node 1 ⟨#[120]⟩ 0 6 []), (.node 6 ⟨#[65]⟩ 0 9 [(.node 1 ⟨#[120]⟩ 0 11 [])])])]
theorem r5b : parseG [92, 120, 46, 32, 65, 32, 120, 32, 40, 65, 32, 120, 41] 99 = .ok t5b := by kernel_rfl
/-- case 1 of { A x x -> 1 } -/
def t5c : Tr := .node 7 ⟨#[]⟩ 0 0 [(.node 9 ⟨#[]⟩ 1 5 []), (.node 8 ⟨#[65]⟩ 2 12 [(.node 1 ⟨#[120]⟩ 0 14 []), (.node 1 ⟨#[120]⟩ 0 16 []), (.node 9 ⟨#[]⟩ 1 21 [])])]
theorem r5c : parseG [99, 97, 115, 101, 32, 49, 32, 111, 102, 32, 123, 32, 65, 32, 120, 32, 120, 32, 45, 62, 32, 49, 32, 125] 99 = .ok t5c := by kernel_rfl
/-- case 1 of { A -> 1 | A -> 2 } -/
def t5d : Tr := .node 7 ⟨#[]⟩ 0 0 [(.node 9 ⟨#[]⟩ 1 5 []), (.node 8 ⟨#[65]⟩ 0 12 [(.node 9 ⟨#[]⟩ 1 17 [])]), (.node 8 ⟨#[65]⟩ 0 21 [(.node 9 ⟨#[]⟩ 2 26 [])])]
theorem r5d : parseG [99, 97, 115, 101, 32, 49, 32, 111, 102, 32, 123, 32, 65, 32, 45, 62, 32, 49, 32, 124, 32, 65, 32, 45, 62, 32, 50, 32, 125] 99 = .ok t5d := by kernel_rfl
/-- True 1 -/
def t5e : Tr := .node 6 ⟨#[84, 114, 117, 101]⟩ 0 0 [(.node 9 ⟨#[]⟩ 1 5 [])]
theorem r5e : parseG [84, 114, 117, 101, 32, 49] 99 = .ok t5e := by kernel_rfl
/-- letrec f = f in let x = f in \y. case x of { C z -> z y } -/
def t5f : Tr := .node 5 ⟨#[102]⟩ 0 0 [(.node 1 ⟨#[102]⟩ 0 11 []), (.node 4 ⟨#[120]⟩ 0 16 [(.node 1 ⟨#[102]⟩ 0 24 []), (.node 2 ⟨#[121]⟩ 0 29 [(.node 7 ⟨#[]⟩ 0 33 [(.node 1 ⟨#[120]⟩ 0 38 []), (.node 8 ⟨#[67]⟩ 1 45 [(.node 1 ⟨#[122]⟩ 0 47 []), (.node 3 ⟨#[]⟩ 0 52 [(.node 1 ⟨#[122]⟩ 0 52 []), (.node 1 ⟨#[121]⟩ 0 54 [])])])])])])]
theorem r5f : parseG [108, 101, 116, 114, 101, 99, 32, 102, 32, 61, 32, 102, 32, 105, 110, 32, 108, 101, 116, 32, 120, 32, 61, 32, 102, 32, 105, 110, 32, 92, 121, 46, 32, 99, 97, 115, 101, 32, 120, 32, 111, 102, 32, 123, 32, 67, 32, 122, 32, 45, 62, 32, 122, 32, 121, 32, 125] 99 = .ok t5f := by kernel_rfl
/-- f (\x. x g) (B f h) -/
def t5g : Tr := .node 3 ⟨#[]⟩ 0 0 [(.node 3 ⟨#[]⟩ 0 0 [(.node 1 ⟨#[102]⟩ 0 0 []), (.node 2 ⟨#[120]⟩ 0 3 [(.node 3 ⟨#[]⟩ 0 7 [(.node 1 ⟨#[120]⟩ 0 7 []), (.node 1 ⟨#[103]⟩ 0 9 [])])])]), (.node 6 ⟨#[66]⟩ 0 13 [(.node 1 ⟨#[102]⟩ 0 15 []), (.node 1 ⟨#[104]⟩ 0 17 [])])]
theorem r5g : parseG [102, 32, 40, 92, 120, 46, 32, 120, 32, 103, 41, 32, 40, 66, 32, 102, 32, 104, 41] 99 = .ok t5g := by kernel_rfl
end Lx
end Go.Proofs.YtobdoahdjbmflaaDoor
