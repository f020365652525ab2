/-
  Walk of package wire: two ports are linked.
-/
import Derived.Test.YtceblpjlklogpaaDoorNwB
namespace Go.Proofs.YtceblpjlklogpaaDoor
open Go Go.RowKit
namespace Lx
set_option maxRecDepth 100000
theorem Cut.put2 {w : World} {D G gp m : Nat} {l : List Nd} {cs ps : Array Value} (h : Cut w D G gp m l m cs ps) (i k : Nat) (q : Int × Int) (hp : hasV l ((i : Int), (k : Int)) = true) :
    ∃ ps', Cut ((w.setCell ⟨gp, offN l i * 2 + k * 2, none⟩ (.int .i64 q.1)).setCell ⟨gp, offN l i * 2 + k * 2 + 1, none⟩ (.int .i64 q.2)) D G gp m (setNV l ((i : Int), (k : Int)) q) m cs ps' := by
  obtain ⟨ps', h'⟩ := h.put ((i : Int), (k : Int)) q.1 q.2 hp
  simp only [Int.toNat_natCast] at h'
  rw [show offN l i * 2 + k * 2 = (offN l i + k) * 2 by omega]
  exact ⟨ps', h'⟩
/-- A port's own cells. -/
theorem Cut.cells2 {w : World} {D G gp m : Nat} {l : List Nd} {cs ps : Array Value} (h : Cut w D G gp m l m cs ps) (i k : Nat) (hi : i < m) (hk : k < (ndAt l i).to.length) :
    (∃ u, w.cell? ⟨gp, offN l i * 2 + k * 2, none⟩ = some u) ∧ ∃ u, w.cell? ⟨gp, offN l i * 2 + k * 2 + 1, none⟩ = some u := by
  have hl := h.len
  have hlt : offN l i + k < (portsOf l).length := by have := offN_end l i (by omega); omega
  obtain ⟨c0, c1⟩ := cellsTo_at (portsOf l) (offN l i + k) hlt
  have e0 := h.pc _ _ c0
  have e1 := h.pc _ _ c1
  rw [← h.plies.cell, show (offN l i + k) * 2 = offN l i * 2 + k * 2 by omega] at e0
  rw [← h.plies.cell, show (offN l i + k) * 2 + 1 = offN l i * 2 + k * 2 + 1 by omega] at e1
  exact ⟨⟨_, e0⟩, ⟨_, e1⟩⟩
theorem nat_port {ns : List Nd} {p : Int × Int} (h : hasV ns p = true) : ∃ i k : Nat, p = ((i : Int), (k : Int)) ∧ i < ns.length ∧ k < (ndAt ns i).to.length := by
  obtain ⟨p1, p2, p3, p4⟩ := (hasV_iff ns p).1 h
  obtain ⟨a, b⟩ := p
  simp only at p1 p2 p3 p4
  exact ⟨a.toNat, b.toNat, by rw [Int.toNat_of_nonneg p1, Int.toNat_of_nonneg p3], by omega, by omega⟩
/-- A net without nodes has no ports. -/
theorem no_ports {p : Int × Int} : hasV [] p = false := by
  rw [Bool.eq_false_iff]
  intro h
  obtain ⟨p1, p2, _⟩ := (hasV_iff [] p).1 h
  simp at p2
  omega
/-- A net in new memory, whatever it has. -/
def GivesAny (l : List Nd) (m : Nat) (cap : Int) (w : World) (e : Ending) (w' : World) : Prop :=
  ∃ A c', e = .returned (.agg #[.slice A m c', .int .i64 cap]) ∧ m ≤ c' ∧ NdsIn w' (fun g => w.heap.size ≤ g) l A ∧ Below w.heap.size w w'
/-- Of at most so many nodes, ports and alternatives. -/
def Few9 (l : List Nd) : Prop := ∀ i, i < l.length → (ndAt l i).to.length ≤ 100000 ∧ (ndAt l i).alts.length ≤ 100000
theorem capN_ge {n c : Nat} (h : n ≤ c) : capN n c = c := capN_of h
theorem net_all (l : List Nd) (A : Option Addr) (m c : Nat) (cap : Int) (w : World) (hm : m = l.length) (hm2 : m ≤ 100000) (hk : Few9 l) (hN : NdsIn w AnyB l A) :
    Calls Tryd.prog 24 #[.agg #[.slice A m c, .int .i64 cap]] w (GivesAny l m cap w) := by
  by_cases h0 : 0 < m
  · refine (net_any l A m c cap w hm h0 hm2 hk hN).mono ?_
    rintro e w' ⟨G, gp, c', cs, ps, rfl, hC, _, h2, _, hb⟩
    exact ⟨_, _, rfl, h2, hC.row, hb⟩
  · have hl : l = [] := List.eq_nil_of_length_eq_zero (by omega)
    have hm0 : m = 0 := by omega
    subst hm0 hl
    refine (net_none A c cap w).mono ?_
    rintro e w' ⟨A', c', rfl, hb⟩
    exact ⟨_, _, rfl, Nat.zero_le _, NdsIn.nil, hb⟩
end Lx
end Go.Proofs.YtceblpjlklogpaaDoor
