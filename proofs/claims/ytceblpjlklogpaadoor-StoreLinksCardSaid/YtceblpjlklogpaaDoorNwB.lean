/-
  Walks of package wire: two ports, what one is linked to, two that are linked.
-/
import Derived.Test.YtceblpjlklogpaaDoorNwA
import Derived.Test.YtceblpjlklogpaaDoorC5
namespace Go.Proofs.YtceblpjlklogpaaDoor
open Go Go.RowKit
namespace Lx
set_option maxRecDepth 100000
theorem to_one {W : World} {g : Nat} {a b : Int} {t : TypeId} (h : Lies W g t #[.int .i64 a, .int .i64 b]) : ToIn W AnyB [(a, b)] (some ⟨g, 0, none⟩) := fun j hj => by
  have e : j = 0 := by simp at hj; omega
  subst e
  exact ⟨g, 0, ⟨rfl, trivial⟩, h.cell 0, h.cell 1⟩
theorem to_two {W : World} {g : Nat} {a b c d : Int} {t : TypeId} (h : Lies W g t #[.int .i64 a, .int .i64 b, .int .i64 c, .int .i64 d]) : ToIn W AnyB [(a, b), (c, d)] (some ⟨g, 0, none⟩) := fun j hj => by
  rcases (by simp at hj; omega : j = 0 ∨ j = 1) with rfl | rfl
  · exact ⟨g, 0, ⟨rfl, trivial⟩, h.cell 0, h.cell 1⟩
  · exact ⟨g, 0, ⟨rfl, trivial⟩, h.cell 2, h.cell 3⟩
theorem res_port2 {fn : Func} {p q : Tmp} (h : fn.results = #[.cell p 46, .tmp q]) {tmps : Array Value} {g : Nat} {a b : Value} {w : World} (hp : tmps.getD p undef = .pointer (some ⟨g, 0, none⟩)) (L : Lies w g 46 #[a, b]) :
    (results fn tmps).run Tryd.prog w = .ok (.tuple #[.agg #[a, b], tmps.getD q undef]) w := by
  have hl := run_loadVar_row (P := Tryd.prog) w g 46 46 #[a, b] (0, 0) _ L Tryd.underlying46 rfl (by kernel_rfl)
  have hp' : tmps[p]?.getD undef = .pointer (some ⟨g, 0, none⟩) := by simpa using hp
  simp only [results, h]
  simp [hp', asAddr, hl]
end Lx
end Go.Proofs.YtceblpjlklogpaaDoor
