/-
  Walks of the document's answers: what a port has, linking, moving, joining.
-/
import Derived.Test.YtceblpjlklogpaaDoorNwE
import Derived.Test.YtceblpjlklogpaaDoorNwT
import Derived.Test.YtceblpjlklogpaaDoorNwA
import Derived.Test.YtceblpjlklogpaaDoorNwB
import Derived.Test.YtceblpjlklogpaaDoorNwC
import Derived.Deep.RegionHeld3
namespace Go.Proofs.YtceblpjlklogpaaDoor
open Go Go.RowKit
namespace Lx
set_option maxRecDepth 100000
/-- A net, whose rows may lie anywhere. -/
def GivesR (ns : List Nd) (cap er : Int) (X : Nat → Prop) (w : World) (e : Ending) (w' : World) : Prop :=
  ∃ A m c, e = .returned (.tuple #[.agg #[.slice A m c, .int .i64 cap], .int .i64 er]) ∧ m = ns.length ∧ NdsIn w' (fun g => X g ∨ w.heap.size ≤ g) ns A ∧ Below w.heap.size w w'
/-- Other ports of one node. -/
theorem Half.to1 {w : World} {X : Nat → Prop} {G m : Nat} {l : List Nd} {cs : Array Value} (h : Half w X G m l m cs) (hm : m = l.length) {i : Nat} (hi : i < m) (hX : ¬ X G) {t' : List (Int × Int)} {C : Option Addr} (hb : t'.length ≤ 140737488351232) (ht : ToIn w X t' C) (c : Nat) :
    ∃ cs', Half (w.setCell ⟨G, i * 6 + 5, none⟩ (.slice C t'.length (capN t'.length c))) X G m (l.set i ((ndAt l i).withTo t')) m cs' ∧ cs'.size = cs.size := by
  have hs := h.size
  refine ⟨_, ⟨h.lies.put _ _, by simpa using hs, fun j hj => ?_, fun j hj hjm => absurd hjm (by omega)⟩, by simp⟩
  rw [ndAt_set]
  by_cases e : i = j
  · subst e
    rw [if_pos ⟨rfl, by omega⟩]
    obtain ⟨B', b', C', c', h5, h6⟩ := h.new i hj
    refine ⟨B', b', C, c, fun q hq => ?_, ⟨⟨h6.1.1, h6.1.2.1, hb⟩, h6.2.1.keep (keep_set _ _ hX), ht.keep (keep_set _ _ hX)⟩⟩
    have h9 := h5 q hq
    rcases (by omega : q = 0 ∨ q = 1 ∨ q = 2 ∨ q = 3 ∨ q = 4 ∨ q = 5) with rfl | rfl | rfl | rfl | rfl | rfl
    all_goals rw [Array.getElem?_setIfInBounds]
    all_goals first
      | (rw [if_neg (by omega), h9]; rfl)
      | (rw [if_pos rfl, if_pos (by omega)]; rfl)
  · rw [if_neg (fun h => e h.1)]
    obtain ⟨B', b', C', c', h5, h6⟩ := h.new j hj
    exact ⟨B', b', C', c', fun q hq => by rw [Array.getElem?_setIfInBounds, if_neg (by omega)]; exact h5 q hq, h6.keep (keep_set _ _ hX)⟩
theorem rcopy_half (l : List Nd) (A : Option Addr) (m c : Nat) (cap : Int) (w : World) (hm : m = l.length) (hm0 : 0 < m) (hm2 : m ≤ 100000) (X : Nat → Prop) (hX : ∀ g, X g → g < w.heap.size) (hN : NdsIn w X l A) :
    Calls Tryd.prog 20 #[.agg #[.slice A m c, .int .i64 cap]] w fun e w' => ∃ G c' cs, e = .returned (.agg #[.slice (some ⟨G, 0, none⟩) m c', .int .i64 cap]) ∧ Half w' X G m l m cs ∧ w.heap.size + 3 ≤ G ∧ cs.size = c' * 6 ∧ m ≤ c' ∧ c' ≤ maxLen ∧ Below w.heap.size w w' := by
  refine (rcopy_any l A m c cap w hm hm2 X hX hN).mono ?_
  rintro e w' ⟨Av, cv, xs, rfl, ho, hr, hb⟩
  obtain ⟨G, cG, hv⟩ := own_sliceN ho (fun e => by injection e with _ e _; omega)
  injection hv with hv1 _ hv2
  subst hv1 hv2
  obtain ⟨cur, h1, h2, h3, h4, h5, h6⟩ := own_curC ho
  refine ⟨G, cv, cur, rfl, ⟨h2, by rw [h3]; exact Nat.mul_le_mul_right 6 h1, fun j hj => ?_, fun j hj hjm => absurd hjm (by omega)⟩, h5, h3, h1, h6, hb⟩
  obtain ⟨B, b, C, cc, h7, h8⟩ := hr.2 j (by omega)
  rw [← ndAt_lt (by omega)] at h7 h8
  refine ⟨B, b, C, cc, fun q hq => ?_, h8⟩
  rw [← h7 q hq, ← h4, List.getElem?_take_of_lt (by omega)]
  simp
end Lx
end Go.Proofs.YtceblpjlklogpaaDoor
