/-
  One row appended to another, whatever it lies on.
-/
import Derived.Test.YtikchgigakbeiaaUsLs
namespace Go.Proofs.Ytikchgigakbeiaa
open Go Go.RowKit
namespace Lx
set_option maxRecDepth 100000
theorem own_cap {W : World} {b n s c : Nat} {e : TypeId} {A : Option Addr} {xs : List Value} (h : W.ownsRow b e s (.slice A n c) n xs) : n ≤ c := by
  rcases h.2 with ⟨h1, h2⟩ | ⟨g, cap, cur, h1, _, _, h2, _⟩
  · omega
  · injection h1 with _ _ h3; omega
theorem own_one (w : World) (x : Int) : (w.alloc (.cells #[.int .i64 x] 3)).ownsRow w.heap.size 3 1 (.slice (some ⟨w.heap.size, 0, none⟩) 1 1) 1 (vI [x]) :=
  ⟨by simp [vI], .inr ⟨w.heap.size, 1, _, rfl, Nat.le_refl _, heap_alloc_new w _, Nat.le_refl _, by simp [maxLen], by simp, by simp [vI]⟩⟩
theorem grownBy_refl (w : World) (row : Option Nat) : w.grownBy w row := ⟨rfl, rfl, rfl, Nat.le_refl _, fun _ _ _ => rfl⟩
theorem wp_append_row {o : Oper} {a : Act} {w : World} {K : Act → World → Prop} {Q : Exit → Act → World → Prop} (s x : Operand)
    (ho : o.op = .call { callee := .builtin .append, args := #[s, x], argTypes := #[28, 28] })
    (base : Nat) (ys zs : List Int) (gs cs : Nat) (hs : a.eval s = .slice (some ⟨gs, 0, none⟩) ys.length cs) (hown : w.ownsRow base 3 1 (.slice (some ⟨gs, 0, none⟩) ys.length cs) ys.length (vI ys))
    (B : Option Addr) (c b2 : Nat) (hx : a.eval x = .slice B zs.length c) (hz : w.ownsRow b2 3 1 (.slice B zs.length c) zs.length (vI zs)) (hl : ys.length + zs.length ≤ 1000000000) (hbase : base ≤ w.heap.size)
    (h : ∀ g c' w', w'.ownsRow base 3 1 (.slice (some ⟨g, 0, none⟩) (ys ++ zs).length c') (ys ++ zs).length (vI (ys ++ zs)) → w.grownBy w' (Value.slice (some ⟨gs, 0, none⟩) ys.length cs).ownBlock → K (a.put o.dst (.slice (some ⟨g, 0, none⟩) (ys ++ zs).length c')) w') : o.wp Try.prog a w K Q := by
  obtain ⟨i0, hi0, hz0, hz1, hz2⟩ := info_parts infoI
  rcases hz.2 with ⟨h1, h2⟩ | ⟨g, cap, cur, h1, _⟩
  · have hzn : zs = [] := List.eq_nil_of_length_eq_zero h2
    subst hzn
    have hr := run_append_none (P := Try.prog) (ty := o.type) Try.underlying28 hi0 gs ys.length cs (own_cap hown) w
    unfold Oper.wp execOp
    simp only [ho, resolve, invoke, builtin, Sem.run_bind, Sem.run_pure, Result.andThen_ok, List.map_toArray, List.map_cons, List.map_nil, hs, hx, h1, hr]
    have := h gs cs w (by rw [List.append_nil]; exact hown) (grownBy_refl _ _)
    rw [List.append_nil] at this
    exact this
  · injection h1 with h1 _ h3
    subst h1 h3
    refine wp_append_own w s x 28 ho base 3 i0 (.int .i64 0) 1 8 Try.underlying28 hi0 hz0 hz1 hz2 rfl (by decide) _ _ _ hs hown ⟨g, 0, none⟩ zs.length c (vI zs) hx (by simp [vI]) (hz.cells (g := g) rfl) (by simp [vI, Value.oneCell']) (by simp only [maxLen]; omega) (by omega) hbase ?_
    intro v' w' ho' hg hv
    obtain ⟨g', c', rfl⟩ := own_some ho' (fun e => by cases (hv.1 e).1)
    rw [← List.length_append] at ho' ⊢
    rw [← vI_app] at ho'
    exact h g' c' w' ho' hg
theorem rowI_tail {w : World} {A : Option Addr} {x : Int} {xs : List Int} {g o : Nat} (h : RowI w A (x :: xs)) (hA : A = some ⟨g, o, none⟩) : RowI w (some ⟨g, o + 1, none⟩) xs := fun j hj => by
  obtain ⟨g', o', e, hc⟩ := h (j + 1) (by simpa using hj)
  rw [hA] at e
  cases e
  exact ⟨g, o + 1, rfl, by rw [show o + 1 + j = o + (j + 1) from by omega]; simpa using hc⟩
end Lx
end Go.Proofs.Ytikchgigakbeiaa
