/-
  lex.All's answer as a row of tokens.
-/
import Derived.Test.YtnljlocogfacfaaDoorRows4
namespace Go.Proofs.YtnljlocogfacfaaDoor
open Go.RowKit
namespace Lx
set_option maxRecDepth 100000
theorem all_good' (s : ByteArray) (ts : List Tok) (n : Nat) (hn : ts.length = n) (w : World) (hs : s.size ≤ 60000) (hg : Signs w) (h : allK s.data.toList = .ok ts) :
    Calls Tryd.prog 12 #[.string s] w fun e w' => ∃ A c, e = .returned (.tuple #[.slice A n c, .int .i64 0, .int .i64 0]) ∧ Row w' A ts ∧ Below w.heap.size w w' := by
  subst hn
  refine (all_good s ts w hs hg h).mono ?_
  rintro e w' ⟨A, c, rfl, hown, hb⟩
  exact ⟨A, c, rfl, Row.of_own hown, hb⟩
end Lx
end Go.Proofs.YtnljlocogfacfaaDoor
