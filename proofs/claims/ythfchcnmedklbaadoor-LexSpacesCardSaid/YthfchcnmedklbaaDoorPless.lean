/-
  Walk of the reference's Placeless.
-/
import Derived.Test.YthfchcnmedklbaaDoorRows4
namespace Go.Proofs.YthfchcnmedklbaaDoor
open Go.RowKit
namespace Lx
def noPlace (t : Tok) : Tok := { t with place := 0 }
theorem own_drew {w : World} {base : Nat} {e : TypeId} {size : Nat} {v : Value} {n : Nat} {xs : List Value} (h : w.ownsRow base e size v n xs) (k : Nat) : (w.drewN k).ownsRow base e size v n xs := h

set_option maxHeartbeats 2000000 in
theorem placeless_any (A : Option Addr) (a : List Tok) (n c : Nat) (hn : n = a.length) (w : World) (ha : Row w A a) (hs : n ≤ 60000) :
    Calls Tryd.prog 17 #[.slice A n c] w fun e w' => ∃ A' c', e = .returned (.slice A' n c') ∧ w'.ownsRow w.heap.size 33 4 (.slice A' n c') n (cellsOf (a.map noPlace)) ∧ Below w.heap.size w w' := by
  have hn1 : n ≤ a.length := by omega
  have hn2 : a.length ≤ n := by omega
  clear hn
  go_enter Tryd.func17, Tryd.ntmps17
  go_wp2_with fail
  go_loopw [3, 4] (fun v x wr => ∃ (i : Nat) (A' : Option Addr) (c' : Nat), i ≤ n ∧ x = .int .i64 i ∧ v = .slice A' i c' ∧ wr.ownsRow w.heap.size 33 4 (.slice A' i c') i (cellsOf ((a.map noPlace).take i)) ∧ Below w.heap.size w wr) (fun _ x _ => n - (intOf x).toNat)
  case atStart =>
    refine ⟨0, _, _, by omega, rfl, rfl, ?_, ?_⟩
    · exact World.ownsRow_lit w #[] 0 (Nat.le_refl _) (by simp [maxLen]) rfl
    · exact (Below.refl _ w).alloc (Nat.le_refl _) _
  case round =>
    obtain ⟨i, A', c', hi, rfl, rfl, hown, hbw⟩ := hrel
    have hbs := hbw.size
    by_cases hlt : i < n
    · have hia : i < a.length := by omega
      obtain ⟨g, o, hA, d0, d1, d2, d3⟩ := (ha.below hbw (Nat.le_refl _)).at_ hia
      subst hA
      obtain ⟨i0, hi0, hz0, hz1, hz2⟩ := info_parts info33
      clear ha
      go_wp2_with (at_builtin; refine wpList_append_own _ rfl _ _ 22 rfl w.heap.size 33 i0 _ 4 40 Tryd.underlying22 hi0 hz0 hz1 hz2 rfl (by decide) _ _ _ rfl ((hown.alloc _).alloc _) ⟨wr.heap.size + 1, 0, none⟩ 1 1 [.int .i64 (a[i]'hia).kind, .string ⟨(a[i]'hia).text.toArray⟩, .int .i64 (a[i]'hia).n, .int .i64 0] rfl rfl ?c1 ?c2 ?c3 ?c4 ?c5 ?_)
      case c1 => exact new_cells _ 33 [.int .i64 (a[i]'hia).kind, .string ⟨(a[i]'hia).text.toArray⟩, .int .i64 (a[i]'hia).n, .int .i64 0] _ (by simp)
      case c2 => intro u hu; simp at hu; rcases hu with rfl | rfl | rfl | rfl <;> rfl
      case c3 => simp only [maxLen]; omega
      case c4 => omega
      case c5 => simp; omega
      intro v' w3 hown3 hg3 _
      obtain ⟨A3, c3, rfl⟩ := own_slice hown3
      have hB3 : Below w.heap.size w w3 := (((hbw.alloc (by omega) _).alloc (by simp; omega) _)).grown hg3 (by simp; omega) (fun q hq => (hown.lt q hq).1)
      clear hi0 hz0 hz1 hz2 hg3 hown
      go_wp2_with fail
      go_roundw
      case rel =>
        refine ⟨i + 1, A3, c3, by omega, by go_num, rfl, ?_, hB3⟩
        rw [List.take_succ_eq_append_getElem (by simpa using hia), List.getElem_map, cellsOf_snoc]
        exact hown3
      case measure => simp [intOf]; omega
    · go_wp2_with fail
      go_ret
      obtain rfl : i = n := by omega
      rw [List.take_of_length_le (by simp; omega)] at hown
      exact ⟨A', c', rfl, hown, hbw⟩
end Lx
end Go.Proofs.YthfchcnmedklbaaDoor
