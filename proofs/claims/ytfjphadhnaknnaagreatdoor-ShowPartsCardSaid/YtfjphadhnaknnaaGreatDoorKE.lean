/-
  Texts that lie one behind the other: PartsT.
-/
import Derived.Test.YtfjphadhnaknnaaGreatDoorKB
namespace Go.Proofs.YtfjphadhnaknnaaGreatDoor
namespace Lx
set_option maxRecDepth 100000
/-- x stands in y, which is longer by at least d. -/
def InS (d : Nat) (x y : List UInt8) : Prop := ∃ a b, y = a ++ x ++ b ∧ d ≤ a.length + b.length
theorem InS.len {d : Nat} {x y : List UInt8} (h : InS d x y) : x.length + d ≤ y.length := by
  obtain ⟨a, b, rfl, h⟩ := h
  simp only [List.length_append]; omega
theorem InS.trans {d e : Nat} {x y z : List UInt8} (h : InS d x y) (h2 : InS e y z) : InS (d + e) x z := by
  obtain ⟨a, b, rfl, h⟩ := h
  obtain ⟨a', b', rfl, h'⟩ := h2
  exact ⟨a' ++ a, b ++ b', by simp, by simp only [List.length_append]; omega⟩
theorem joinS_in : ∀ (ws : List (List UInt8)) (w : List UInt8), w ∈ ws → InS (if 2 ≤ ws.length then 1 else 0) w (joinS ws)
  | [], w, h => by simp at h
  | [a], w, h => by
    simp only [List.mem_singleton] at h
    subst h
    exact ⟨[], [], by simp [joinS], by simp⟩
  | a :: b :: r, w, h => by
    rw [if_pos (by simp)]
    rcases List.mem_cons.1 h with rfl | h
    · exact ⟨[], 32 :: joinS (b :: r), by simp [joinS], by simp⟩
    · obtain ⟨x, y, e, _⟩ := joinS_in (b :: r) w h
      refine ⟨a ++ 32 :: x, y, ?_, by simp only [List.length_append, List.length_cons]; omega⟩
      rw [joinS, e]; simp
theorem par_in0 (lv : Int) (x : Int × List UInt8) : InS 0 x.2 (parS lv x) := by
  unfold parS
  split
  · exact ⟨[], [], by simp, by simp⟩
  · exact ⟨[40], [41], by simp, by simp⟩
theorem part_word {k n a : Int} {s : ByteArray} {l : List Tr} (hm : mayV (.node k s n a l) = true) (p : Tr) (hp : p ∈ l) (hk : p.kind ≠ 8) :
    ∃ (lv lx : Int), parS lv (lx, showT p) ∈ wordsN k s.data.toList n (showL (decide (k = 3)) l) ∧ 2 ≤ (wordsN k s.data.toList n (showL (decide (k = 3)) l)).length := by
  simp only [mayV, Bool.and_eq_true, decide_eq_true_eq] at hm
  obtain ⟨hk8, hm⟩ := hm
  have hk8 : k ≠ 8 := hk8
  obtain ⟨hnm, hpt, ha, hml⟩ := may_inv hm
  have hst : ∀ (j : Nat) (t : Tr), l[j]? = some t → standsV k n j t.kind = true := fun j t h => by
    have := mayL_stands k n l 0 j t hml h
    rwa [Nat.zero_add] at this
  have two : l.length = 2 → ∃ p0 p1, l = [p0, p1] := fun h => by
    match l, h with
    | [p0, p1], _ => exact ⟨p0, p1, rfl⟩
  rcases (by
      by_cases h : k = 1 ∨ k = 2 ∨ k = 3 ∨ k = 4 ∨ k = 5 ∨ k = 6 ∨ k = 7 ∨ k = 8 ∨ k = 9 ∨ k = 10
      · exact h
      · exfalso
        simp only [not_or] at h
        obtain ⟨e1, e2, e3, e4, e5, e6, e7, e8, e9, e10⟩ := h
        simp [partsV, e1, e2, e3, e4, e5, e6, e7, e8, e9, e10] at hpt : k = 1 ∨ k = 2 ∨ k = 3 ∨ k = 4 ∨ k = 5 ∨ k = 6 ∨ k = 7 ∨ k = 8 ∨ k = 9 ∨ k = 10) with rfl | rfl | rfl | rfl | rfl | rfl | rfl | rfl | rfl | rfl
  · simp [partsV] at hpt
    obtain ⟨rfl, _⟩ := hpt
    simp at hp
  · simp [partsV] at hpt
    obtain ⟨p0, rfl⟩ : ∃ p0, l = [p0] := by
      match l, hpt.1 with
      | [p0], _ => exact ⟨p0, rfl⟩
    simp only [List.mem_singleton] at hp
    subst hp
    exact ⟨0, levelT p, by simp [wordsN, showL, atD]⟩
  · simp [partsV] at hpt
    obtain ⟨p0, p1, rfl⟩ := two hpt.1
    simp only [List.mem_cons, List.not_mem_nil, or_false] at hp
    rcases hp with rfl | rfl
    · exact ⟨4, if p.kind = 6 then -1 else levelT p, by simp [wordsN, showL, atD]⟩
    · exact ⟨5, levelT p, by simp [wordsN, showL, atD]⟩
  · simp [partsV] at hpt
    obtain ⟨p0, p1, rfl⟩ := two hpt.1
    simp only [List.mem_cons, List.not_mem_nil, or_false] at hp
    rcases hp with rfl | rfl
    · exact ⟨0, levelT p, by simp [wordsN, showL, atD]⟩
    · exact ⟨0, levelT p, by simp [wordsN, showL, atD]⟩
  · simp [partsV] at hpt
    obtain ⟨p0, p1, rfl⟩ := two hpt.1
    simp only [List.mem_cons, List.not_mem_nil, or_false] at hp
    rcases hp with rfl | rfl
    · exact ⟨0, levelT p, by simp [wordsN, showL, atD]⟩
    · exact ⟨0, levelT p, by simp [wordsN, showL, atD]⟩
  · refine ⟨5, levelT p, ?_, ?_⟩
    · show parS 5 (levelT p, showT p) ∈ s.data.toList :: (showL false l).map (parS 5)
      rw [showL_false]
      exact List.mem_cons_of_mem _ (List.mem_map.2 ⟨(levelT p, showT p), List.mem_map.2 ⟨p, hp, rfl⟩, rfl⟩)
    · have := List.length_pos_of_mem hp
      simp [wordsN, showL_false, lt]; omega
  · simp [partsV] at hpt
    obtain ⟨p0, ls, rfl⟩ : ∃ p0 r, l = p0 :: r := by
      match l, hpt.1 with
      | p0 :: r, _ => exact ⟨p0, r, rfl⟩
    obtain rfl : p = p0 := by
      rcases List.mem_cons.1 hp with h | h
      · exact h
      · obtain ⟨j, hj, rfl⟩ := List.getElem_of_mem h
        have := hst (j + 1) (ls[j]) (by simp [hj])
        simp [standsV] at this
        exact absurd this hk
    exact ⟨0, levelT p, by simp [wordsN, showL, atD]⟩
  · exact absurd rfl hk8
  · simp [partsV] at hpt
    obtain ⟨rfl, _⟩ := hpt
    simp at hp
  · simp [partsV] at hpt
    obtain ⟨p0, p1, rfl⟩ := two hpt.1
    simp only [List.mem_cons, List.not_mem_nil, or_false] at hp
    rcases hp with rfl | rfl
    · exact ⟨if levelS s.data.toList = 1 then 2 else levelS s.data.toList, levelT p, by simp [wordsN, showL, atD]⟩
    · exact ⟨levelS s.data.toList + 1, levelT p, by simp [wordsN, showL, atD]⟩
/-- What ShowParts asks of a part. -/
theorem parts_ok {t p : Tr} (hm : mayV t = true) (hp : p ∈ t.parts) : (textT p).length < (showT t).length ∧ (textT p = [] ∨ InS 1 (textT p) (showT t)) ∧ sizeT p ≤ sizeT t := by
  obtain ⟨k, s, n, a, l⟩ := t
  have hp : p ∈ l := hp
  have hm' := hm
  simp only [mayV, Bool.and_eq_true, decide_eq_true_eq] at hm
  have hsz : sizeT p ≤ sizeT (.node k s n a l) := by rw [sizeT]; have := sizeL_mem l p hp; omega
  by_cases hk : p.kind = 8
  · have he : textT p = [] := by unfold textT mayV; rw [decide_eq_false (by simpa using hk)]; rfl
    rw [he]
    refine ⟨?_, .inl rfl, hsz⟩
    have := show_ne hm.2
    exact List.length_pos_iff.2 this
  · have hmp := mayL_memT k n l 0 (may_inv hm.2).2.2.2 p hp
    have he : textT p = showT p := by unfold textT mayV; rw [decide_eq_true hk, hmp]; rfl
    obtain ⟨lv, lx, h1, h2⟩ := part_word hm' p hp hk
    have h3 := joinS_in _ _ h1
    rw [if_pos h2] at h3
    have h4 : InS (0 + 1) (showT p) _ := (par_in0 lv (lx, showT p)).trans h3
    have e : showT (.node k s n a l) = joinS (wordsN k s.data.toList n (showL (decide (k = 3)) l)) := by rw [showT]
    rw [← e] at h4
    rw [he]
    have := h4.len
    exact ⟨by omega, .inr h4, hsz⟩
end Lx
end Go.Proofs.YtfjphadhnaknnaaGreatDoor
