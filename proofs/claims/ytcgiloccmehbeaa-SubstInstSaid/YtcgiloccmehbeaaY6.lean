/-
  Texts that lie one behind the other: SuBx.
-/
import Derived.Test.YtcgiloccmehbeaaY5
import Derived.Deep.QuietTactic
import Derived.BigQuiet
namespace Go.Proofs.Ytcgiloccmehbeaa
open Go.RowKit
namespace Lx
set_option maxRecDepth 100000
/-- The term stands in the box g. -/
structure Bx8 (w W : World) (g : Nat) (k n : Int) (s : ByteArray) (l : List Te) (A : Option Addr) (c : Nat) : Prop where
  box : Lies W g 24 #[.int .i64 k, .int .i64 n, .string s, .slice A l.length (capF l.length c)]
  tin : EIn W Any (.node k n s l) A
  bw : Below w.heap.size w W
theorem Bx8.step {w W W' : World} {g : Nat} {k n : Int} {s : ByteArray} {l : List Te} {A : Option Addr} {c : Nat} (h : Bx8 w W g k n s l A c) (hb : Below W.heap.size W W') : Bx8 w W' g k n s l A c :=
  ⟨h.box.below hb h.box.lt, EIn.below _ h.tin hb (Nat.le_refl _), h.bw.trans (hb.mono h.bw.size)⟩
theorem Bx8.new {w V : World} {k n : Int} {s : ByteArray} {l : List Te} {A : Option Addr} {c g : Nat} (hI : EIn w Any (.node k n s l) A) (hb : Below w.heap.size w V) (hg : g = V.heap.size) :
    Bx8 w (V.alloc (.cells #[.int .i64 k, .int .i64 n, .string s, .slice A l.length (capF l.length c)] 24)) g k n s l A c :=
  ⟨lies_next _ _ _ _ hg, EIn.below _ hI (hb.alloc hb.size _) (Nat.le_refl _), hb.alloc hb.size _⟩
theorem Bx8.old {w W : World} {g : Nat} {k n : Int} {s : ByteArray} {l : List Te} {A : Option Addr} {c : Nat} (h : Bx8 w W g k n s l A c) (o : Obj) : Bx8 w (W.alloc o) g k n s l A c := h.step ((Below.refl _ W).alloc (Nat.le_refl _) o)
/-- Its four cells. -/
def Bx84 (g : Nat) (k n : Int) (s : ByteArray) (m : Nat) (A : Option Addr) (c : Nat) (V : World) : Prop :=
  V.cell? ⟨g, 0, none⟩ = some (.int .i64 k) ∧ V.cell? ⟨g, 1, none⟩ = some (.int .i64 n) ∧ V.cell? ⟨g, 2, none⟩ = some (.string s) ∧ V.cell? ⟨g, 3, none⟩ = some (.slice A m c)
section
variable {w W : World} {g : Nat} {k n : Int} {s : ByteArray} {l : List Te} {A : Option Addr} {c : Nat}
theorem Bx8.four (h : Bx8 w W g k n s l A c) : Bx84 g k n s l.length A (capF l.length c) W := ⟨h.box.cell 0, h.box.cell 1, h.box.cell 2, h.box.cell 3⟩
theorem Bx8.small (h : Bx8 w W g k n s l A c) (L : Int) (h0 : 0 ≤ L) (h1 : L ≤ 100000) : Calls Try.prog 9 #[.agg #[.int .i64 k, .int .i64 n, .string s, .slice A l.length (capF l.length c)], .int .i64 L] W fun e w' => e = .returned (.bool (decide (0 ≤ fewE (.node k n s l) L 600))) ∧ Below W.heap.size W w' :=
  esmall_any (.node k n s l) A c L W h.tin h0 h1
theorem Bx8.tame (h : Bx8 w W g k n s l A c) : Calls Try.prog 10 #[.agg #[.int .i64 k, .int .i64 n, .string s, .slice A l.length (capF l.length c)]] W fun e w' => e = .returned (.bool (tameB (.node k n s l))) ∧ Below W.heap.size W w' :=
  rtame_any (depthE (.node k n s l)) (.node k n s l) A c W (Nat.le_refl _) h.tin
end
theorem small8 {t : Te} {L : Int} (h : decide (0 ≤ fewE t L 600) = true) (_ : L ≤ 1000) : sizeE t ≤ L ∧ depthE t ≤ 600 := by
  have := fewE_size t L 600 (of_decide_eq_true h)
  have := of_decide_eq_true h
  omega
theorem belowN {w W : World} (h : Below w.heap.size w W) (n : Nat) : Below w.heap.size w (W.drewN n) := h.trans ⟨rfl, rfl, rfl, Nat.le_refl _, fun _ _ => rfl⟩
end Lx
end Go.Proofs.Ytcgiloccmehbeaa
