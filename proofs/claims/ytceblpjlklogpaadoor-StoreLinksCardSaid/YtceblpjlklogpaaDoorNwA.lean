/-
  Walks of package wire: whether ports are there, what one is linked to.
-/
import Derived.Test.YtceblpjlklogpaaDoorC5
import Derived.Test.YtceblpjlklogpaaDoorC2
import Derived.Laws.StructEq
namespace Go.Proofs.YtceblpjlklogpaaDoor
open Go Go.RowKit
namespace Lx
set_option maxRecDepth 100000
theorem toAt_get9 {l : List Nd} {i k : Nat} (hk : k < (ndAt l i).to.length) : toAt l ((i : Int), (k : Int)) = (ndAt l i).to[k]'hk := by
  simp [toAt, hk]
theorem port_eql (a b c d : Int) (U : World) : (binOp .eql 46 (.agg #[.int .i64 a, .int .i64 b]) (.agg #[.int .i64 c, .int .i64 d])).run Tryd.prog U = .ok (.bool ((a, b) == (c, d))) U := by
  by_cases e1 : a = c
  · subst e1
    by_cases e2 : b = d
    · subst e2
      go_simp
    · go_simp
      try simp [*]
  · go_simp
    try simp [*]
theorem port_neq (a b c d : Int) (U : World) : (binOp .neq 46 (.agg #[.int .i64 a, .int .i64 b]) (.agg #[.int .i64 c, .int .i64 d])).run Tryd.prog U = .ok (.bool (!((a, b) == (c, d)))) U := by
  by_cases e1 : a = c
  · subst e1
    by_cases e2 : b = d
    · subst e2
      go_simp
    · go_simp
      try simp [*]
  · go_simp
    try simp [*]
theorem res_port1 {fn : Func} {p : Tmp} (h : fn.results = #[.cell p 46]) {tmps : Array Value} {g : Nat} {a b : Value} {w : World} (hp : tmps.getD p undef = .pointer (some ⟨g, 0, none⟩)) (L : Lies w g 46 #[a, b]) :
    (results fn tmps).run Tryd.prog w = .ok (.agg #[a, b]) w := by
  have hl := run_loadVar_row (P := Tryd.prog) w g 46 46 #[a, b] (0, 0) _ L Tryd.underlying46 rfl (by kernel_rfl)
  have hp' : tmps[p]?.getD undef = .pointer (some ⟨g, 0, none⟩) := by simpa using hp
  simp only [results, h]
  simp [hp', asAddr, hl]
end Lx
end Go.Proofs.YtceblpjlklogpaaDoor
