/-
  Slices of tokens, as lists; which functions of the reference and of the program read them.
-/
import Derived.Test.YtnljlocogfacfaaDoorAll
import Derived.Laws.StructEq
import Derived.BigQuiet
import Derived.Deep.QuietTactic
namespace Go.Proofs.YtnljlocogfacfaaDoor
open Go.RowKit
namespace Lx
set_option maxRecDepth 100000
/-- The slice with the address A reads as the tokens of l. -/
def Row (w : World) (A : Option Addr) (l : List Tok) : Prop :=
  l ≠ [] → ∃ g o, A = some ⟨g, o, none⟩ ∧ ∀ n u, (cellsOf l)[n]? = some u → w.cell? ⟨g, o + n, none⟩ = some u

theorem cell_lt {w : World} {g o : Nat} {u : Value} (h : w.cell? ⟨g, o, none⟩ = some u) : g < w.heap.size := by
  by_cases hlt : g < w.heap.size
  · exact hlt
  · simp [World.cell?, Array.getElem?_eq_none (Nat.le_of_not_lt hlt)] at h

theorem cellsOf_pos {l : List Tok} (h : l ≠ []) : 0 < (cellsOf l).length := by
  rw [cellsOf_length]
  have := List.length_pos_iff.2 h
  omega
theorem Row.below {w w' : World} {A : Option Addr} {l : List Tok} {B : Nat} (h : Row w A l) (hb : Below B w w') (hB : w.heap.size ≤ B) : Row w' A l := by
  intro hl
  obtain ⟨g, o, rfl, hc⟩ := h hl
  refine ⟨g, o, rfl, fun n u hu => ?_⟩
  have h1 := hc n u hu
  have := cell_lt h1
  rw [hb.cell (p := ⟨g, o + n, none⟩) (by show g < B; omega)]
  exact h1
theorem Row.of_own {w : World} {base : Nat} {A : Option Addr} {n c : Nat} {l : List Tok} (h : w.ownsRow base 48 4 (.slice A n c) n (cellsOf l)) : Row w A l := by
  intro hl
  have hp := cellsOf_pos hl
  have hn : 0 < n := by
    have := h.1
    omega
  obtain ⟨g, cap, hv⟩ := Joins.ownsRow_form h hn
  have hA : A = some ⟨g, 0, none⟩ := by injection hv
  subst hA
  refine ⟨g, 0, rfl, fun j u hu => ?_⟩
  have h1 := h.cells (g := g) rfl j u hu
  have hadd : (⟨g, 0, none⟩ : Addr).add j = ⟨g, 0 + j, none⟩ := by unfold Addr.add; split <;> simp_all
  rw [hadd] at h1
  exact h1

theorem cellsOf_at (l : List Tok) (i : Nat) (h : i < l.length) (j : Nat) (hj : j < 4) : (cellsOf l)[i * 4 + j]? = (l[i]'h).cells[j]? := by
  induction l generalizing i with
  | nil => simp at h
  | cons a r ih =>
    have hc : cellsOf (a :: r) = a.cells ++ cellsOf r := by simp [cellsOf]
    have ha : a.cells.length = 4 := rfl
    cases i with
    | zero =>
      rw [hc, List.getElem?_append_left (by omega)]
      simp
    | succ i =>
      rw [hc, List.getElem?_append_right (by omega), ha]
      have := ih i (by simpa using h)
      rw [show (i + 1) * 4 + j - 4 = i * 4 + j from by omega, this]
      simp

/-- The four cells of token i. -/
theorem Row.at_ {w : World} {A : Option Addr} {l : List Tok} (h : Row w A l) {i : Nat} (hi : i < l.length) :
    ∃ g o, A = some ⟨g, o, none⟩ ∧ w.cell? ⟨g, o + i * 4, none⟩ = some (.int .i64 (l[i]'hi).kind) ∧ w.cell? ⟨g, o + i * 4 + 1, none⟩ = some (.string ⟨(l[i]'hi).text.toArray⟩) ∧
      w.cell? ⟨g, o + i * 4 + 2, none⟩ = some (.int .i64 (l[i]'hi).n) ∧ w.cell? ⟨g, o + i * 4 + 3, none⟩ = some (.int .i64 (l[i]'hi).place) := by
  obtain ⟨g, o, rfl, hc⟩ := h (by intro e; subst e; simp at hi)
  refine ⟨g, o, rfl, hc _ _ ?_, ?_, ?_, ?_⟩
  · have := cellsOf_at l i hi 0 (by omega); simpa [Tok.cells] using this
  · have := hc (i * 4 + 1) _ ((cellsOf_at l i hi 1 (by omega)).trans rfl); simpa [Nat.add_assoc] using this
  · have := hc (i * 4 + 2) _ ((cellsOf_at l i hi 2 (by omega)).trans rfl); simpa [Nat.add_assoc] using this
  · have := hc (i * 4 + 3) _ ((cellsOf_at l i hi 3 (by omega)).trans rfl); simpa [Nat.add_assoc] using this

theorem neq_tok (t u : Tok) (w : World) : (binOp .neq 48 (.agg #[.int .i64 t.kind, .string ⟨t.text.toArray⟩, .int .i64 t.n, .int .i64 t.place]) (.agg #[.int .i64 u.kind, .string ⟨u.text.toArray⟩, .int .i64 u.n, .int .i64 u.place])).run Tryd.prog w = .ok (.bool (decide (t ≠ u))) w := by
  obtain ⟨k1, x1, n1, p1⟩ := t
  obtain ⟨k2, x2, n2, p2⟩ := u
  simp [go_sem]
  by_cases h1 : k1 = k2 <;> by_cases h2 : x1 = x2 <;> by_cases h3 : n1 = n2 <;> by_cases h4 : p1 = p2 <;> simp [h1, h2, h3, h4]

set_option maxHeartbeats 1000000 in
theorem same_any (A B : Option Addr) (a b : List Tok) (n m c d : Nat) (hn : n = a.length) (hm : m = b.length) (w : World) (ha : Row w A a) (hb : Row w B b) (hs : n ≤ 60000) (hs2 : m ≤ 60000) :
    Calls Tryd.prog 14 #[.slice A n c, .slice B m d] w fun e w' => e = .returned (.bool (decide (a = b))) ∧ ∃ k, w' = w.drewN k := by
  have hn1 : n ≤ a.length := by omega
  have hn2 : a.length ≤ n := by omega
  have hm1 : m ≤ b.length := by omega
  have hm2 : b.length ≤ m := by omega
  clear hn hm
  by_cases hnm : n = m
  · subst hnm
    go_enter Tryd.func14, Tryd.ntmps14
    go_wp2_with fail
    go_loopw [5] (fun v wr => ∃ (i k : Nat), i ≤ n ∧ v = .int .i64 i ∧ wr = w.drewN k ∧ Hid (a.take i = b.take i)) (fun v _ => n - (intOf v).toNat)
    case atStart => exact ⟨0, 0, by omega, rfl, rfl, rfl⟩
    case round =>
      obtain ⟨i, k, hi, rfl, rfl, HE⟩ := hrel
      by_cases hlt : i < n
      · obtain ⟨g, o, rfl, c0, c1, c2, c3⟩ := ha.at_ (i := i) (by omega)
        obtain ⟨g', o', rfl, d0, d1, d2, d3⟩ := hb.at_ (i := i) (by omega)
        clear ha hb
        have hia : i < a.length := by omega
        have hib : i < b.length := by omega
        have hne := fun w => neq_tok (a[i]'hia) (b[i]'hib) w
        by_cases hq : a[i]'hia = b[i]'hib
        · have HQ := Lib.hid hq
          have hf : decide (a[i]'hia ≠ b[i]'hib) = false := by simp [hq]
          rw [hf] at hne
          clear hf hq
          go_wp2_with fail
          go_quiet (fail)
          go_wp2_with fail
          go_roundw
          case rel =>
            refine ⟨i + 1, k + nq, by omega, by go_num, by first | rfl | rw [World.drewN_drewN], ?_⟩
            show a.take (i + 1) = b.take (i + 1)
            rw [List.take_succ_eq_append_getElem hia, List.take_succ_eq_append_getElem hib, HE.out, HQ.out]
          case measure => simp [intOf]; omega
        · have hf : decide (a[i]'hia ≠ b[i]'hib) = true := by simp [hq]
          rw [hf] at hne
          have HQ := Lib.hid hq
          clear hf hq
          go_wp2_with fail
          go_quiet (fail)
          go_wp2_with fail
          go_ret
          refine ⟨ret_bool ?_, k + nq, by first | rfl | rw [World.drewN_drewN]⟩
          have h : a ≠ b := by rintro rfl; exact HQ.out rfl
          simp [h]
      · go_wp2_with fail
        go_ret
        refine ⟨ret_bool ?_, k, rfl⟩
        have h := HE.out
        rw [List.take_of_length_le (by omega), List.take_of_length_le (by omega)] at h
        simp [h]
  · have hne : a ≠ b := by rintro rfl; omega
    clear hm1 hm2 hn1 hn2
    have HN := Lib.hid hne
    clear hne
    go_enter Tryd.func14, Tryd.ntmps14
    go_wp2_with fail
    go_ret
    refine ⟨ret_bool ?_, 0, rfl⟩
    have h := HN.out
    simp [h]
end Lx
end Go.Proofs.YtnljlocogfacfaaDoor
