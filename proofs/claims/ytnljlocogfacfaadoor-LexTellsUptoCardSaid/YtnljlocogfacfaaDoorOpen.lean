/-
  Trees among the arguments of a row, opened: what the row reads as a tree lies as a tree.
-/
import Derived.Test.YtnljlocogfacfaaDoorLit
import Derived.Test.YtnljlocogfacfaaDoorRows
import Derived.ProofKit
import Derived.OpenShut
import Derived.ChangeArms
import Derived.Carry
namespace Go.Proofs.YtnljlocogfacfaaDoor
open Go.RowKit
namespace Lx
set_option maxRecDepth 100000
section
variable {H : Type} {enc : TypeId × Value → H}
theorem cT5 : Tryd.prog.cellsOf 33 = 5 := by kernel_rfl
theorem bT64 : Tryd.prog.bytesOf 33 = 64 := by kernel_rfl
theorem c3_1 : Tryd.prog.cellsOf 3 = 1 := by kernel_rfl
theorem c9_1 : Tryd.prog.cellsOf 9 = 1 := by kernel_rfl
theorem cL1 : Tryd.prog.cellsOf 31 = 1 := by kernel_rfl
theorem cells?_get {w : World} {base : Nat} {a : Addr} {n : Nat} {cs : List Value} (h : w.cells? base a n = some cs) : ∀ j, j < n → w.cell? (a.add j) = cs[j]? := (World.cells?_some h).2.2
/-- The five cells of a tree's reading. -/
theorem open_parts {W : World} {base : Nat} {sp : Nat → Bool} {hd : Bool} {fuel : Nat} {cs : List Value} {x : DataW H × List MemPlace} (h : DataW.trod enc Tryd.prog W base sp hd fuel 33 cs = some x) :
    ∃ (k : Int) (s : ByteArray) (n a : Int) (v : Value) (m : Nat) (y : DataW H × List MemPlace), fuel = m + 1 ∧ cs = [.int .i64 k, .string s, .int .i64 n, .int .i64 a, v] ∧ DataW.trod enc Tryd.prog W base sp hd m 31 [v] = some y ∧
      x = (.agg [.lit (.int .i64 k), .lit (.string s.data.toList), .lit (.int .i64 n), .lit (.int .i64 a), y.1], y.2) := by
  obtain ⟨xs, m, e, hx, hl, hlen, hf⟩ := DataW.trod_struct Tryd.underlying33 h
  rw [cT5] at hl
  match cs, hl with
  | [c0, c1, c2, c3, c4], _ =>
  match xs, hlen with
  | [x0, x1, x2, x3, x4], _ =>
  have h0 := hf 0 { name := "Kind", type := 3, offset := 0, embedded := false, tag := "", pkgPath := "", byteOffset := 0 } rfl
  have h1 := hf 1 { name := "Name", type := 9, offset := 1, embedded := false, tag := "", pkgPath := "", byteOffset := 8 } rfl
  have h2 := hf 2 { name := "N", type := 3, offset := 2, embedded := false, tag := "", pkgPath := "", byteOffset := 24 } rfl
  have h3 := hf 3 { name := "At", type := 3, offset := 3, embedded := false, tag := "", pkgPath := "", byteOffset := 32 } rfl
  have h4 := hf 4 { name := "L", type := 31, offset := 4, embedded := false, tag := "", pkgPath := "", byteOffset := 40 } rfl
  dsimp only at h0 h1 h2 h3 h4
  rw [c3_1] at h0 h2 h3
  rw [c9_1] at h1
  rw [cL1] at h4
  dsimp at h0 h1 h2 h3 h4
  obtain ⟨k, e0, y0, _⟩ := DataW.trod_int Tryd.underlying3 h0
  obtain ⟨s, e1, y1, _⟩ := DataW.trod_string Tryd.underlying9 h1
  obtain ⟨n, e2, y2, _⟩ := DataW.trod_int Tryd.underlying3 h2
  obtain ⟨a, e3, y3, _⟩ := DataW.trod_int Tryd.underlying3 h3
  obtain rfl := (List.cons.inj e0).1
  obtain rfl := (List.cons.inj e1).1
  obtain rfl := (List.cons.inj e2).1
  obtain rfl := (List.cons.inj e3).1
  subst y0 y1 y2 y3
  refine ⟨k, s, n, a, c4, m, x4, e, rfl, ?_, ?_⟩
  · exact h4
  · rw [hx]; simp
theorem row_of {Q : Nat → Tr → Prop} : ∀ (n : Nat), (∀ i, i < n → ∃ t, Q i t) → ∃ l : List Tr, l.length = n ∧ ∀ (i : Nat) (hi : i < l.length), Q i (l[i]'hi)
  | 0, _ => ⟨[], rfl, fun i hi => by simp at hi⟩
  | n + 1, h => by
    obtain ⟨l, hl, hq⟩ := row_of n fun i hi => h i (by omega)
    obtain ⟨t, ht⟩ := h n (by omega)
    refine ⟨l ++ [t], by simp [hl], fun i hi => ?_⟩
    rcases Nat.lt_or_ge i l.length with hlt | hge
    · rw [List.getElem_append_left hlt]; exact hq i hlt
    · have e : i = n := by simp at hi; omega
      subst e
      rw [List.getElem_append_right (by omega)]
      simpa [hl] using ht
theorem spot_none {w : World} {a : Addr} {v : Value} (h : w.cell? a = some v) : a.spot = none := by
  unfold World.cell? at h
  split at h
  · split at h
    · cases h
    · rename_i hs; simpa using hs
  · cases h
theorem weightsAll_mem {P : Program} {e : TypeId} : ∀ (L : List (DataW H)) (d : DataW H), d ∈ L → ∀ q ∈ DataW.weights P e d, q ∈ DataW.weightsAll P e L
  | [], d, h, _, _ => by cases h
  | a :: r, d, h, q, hq => by
    rw [DataW.weightsAll, List.mem_append]
    rcases List.mem_cons.1 h with rfl | h
    · exact .inl hq
    · exact .inr (weightsAll_mem r d h q hq)
/-- What reads as a tree is one. -/
theorem open_tree {W : World} {base : Nat} {sp : Nat → Bool} {hd : Bool} : ∀ (N fuel : Nat), fuel ≤ N → ∀ {cs : List Value} {x : DataW H × List MemPlace}, DataW.trod enc Tryd.prog W base sp hd fuel 33 cs = some x →
    (∀ k ∈ DataW.weights Tryd.prog 33 x.1, k ≤ reachBytes) → ∃ t A c, cs = cellsT t A c ∧ TIn W Any t A := by
  intro N
  induction N with
  | zero => intro fuel hf cs x h; obtain ⟨_, _, _, _, _, m, _, e, _⟩ := open_parts h; omega
  | succ N ih =>
    intro fuel hf cs x h hw
    obtain ⟨k, s, n, a, v, m, y, e, rfl, hv, rfl⟩ := open_parts h
    have hwv : ∀ q ∈ DataW.weights Tryd.prog 31 y.1, q ≤ reachBytes := fun q hq => hw q (by
      rw [DataW.weights, Tryd.underlying33]
      simp [DataW.weightsEach, DataW.weights, hq])
    have hs : s.size ≤ 140737488351232 := by
      have := hw s.data.toList.length (by
        rw [DataW.weights, Tryd.underlying33]
        simp [DataW.weightsEach, DataW.weights])
      simpa [reachBytes] using this
    rcases DataW.trod_slice Tryd.underlying31 hv with ⟨e1, rfl⟩ | ⟨p, len, cap, elems, rest, m', em, e1, rfl, hb, hl, hm, hlen, hel, _, _⟩
    · obtain rfl := (List.cons.inj e1).1
      exact ⟨.node k s n a [], none, 0, rfl, TIn.leaf hs⟩
    · obtain rfl := (List.cons.inj e1).1
      have hwe : ∀ (i : Nat) (y' : DataW H × List MemPlace), elems[i]? = some y' → ∀ q ∈ DataW.weights Tryd.prog 33 y'.1, q ≤ reachBytes := fun i y' hy q hq => hwv q (by
        rw [DataW.weights, Tryd.underlying31]
        have := weightsAll_mem (elems.map (·.1)) y'.1 (List.mem_map_of_mem (List.mem_of_getElem? hy)) q hq
        simp [this])
      have hlen' : len ≤ 140737488351232 := by
        have := hwv ((elems.length + rest.length) * 64) (by
          rw [DataW.weights, Tryd.underlying31]
          simp [bT64])
        have : (elems.length + rest.length) * 64 ≤ 140737488351232 := this
        omega
      obtain ⟨l, hll, hq⟩ := row_of (Q := fun i t => ∃ A c, W.cells? base (p.add (i * 5)) 5 = some (cellsT t A c) ∧ TIn W Any t A) len fun i hi => by
        have h1 := hel i hi
        rw [cT5] at h1
        obtain ⟨y', hy'⟩ : ∃ y', elems[i]? = some y' := ⟨_, List.getElem?_eq_getElem (by omega)⟩
        rw [hy', Option.bind_eq_some_iff] at h1
        obtain ⟨cs', hc', ht'⟩ := h1
        obtain ⟨t, A, c, rfl, hT⟩ := ih m' (by omega) ht' (hwe i y' hy')
        exact ⟨t, A, c, hc', hT⟩
      subst hll
      refine ⟨.node k s n a l, some p, cap, rfl, TIn.mk hs hlen' ?_⟩
      cases l with
      | nil => trivial
      | cons t0 r =>
        have hps : p.spot = none := by
          obtain ⟨A, c, hc, _⟩ := hq 0 (by simp)
          have := cells?_get hc 0 (by omega)
          have := spot_none (this.trans (rfl : (cellsT _ _ _)[0]? = some _))
          simpa [Addr.add] using this
        obtain ⟨pb, po, ps⟩ := p
        dsimp only at hps
        subst hps
        refine LIn.mk (t0 :: r) 0 fun i hi => ?_
        obtain ⟨A, c, hc, hT⟩ := hq i hi
        have hcell : ∀ j, j < 5 → W.cell? ⟨pb, po + i * 5 + j, none⟩ = (cellsT ((t0 :: r)[i]'hi) A c)[j]? := fun j hj => by
          have ea : ((⟨pb, po, none⟩ : Addr).add (i * 5)).add j = ⟨pb, po + i * 5 + j, none⟩ := by
            by_cases hi0 : i * 5 = 0 <;> by_cases hj0 : j = 0 <;> simp [Addr.add, hi0, hj0]
          rw [← cells?_get hc j hj, ea]
        rw [Nat.zero_add]
        exact ⟨pb, po, A, c, ⟨rfl, trivial⟩, hcell 0 (by omega), hcell 1 (by omega), hcell 2 (by omega), hcell 3 (by omega), hcell 4 (by omega), hT⟩
end
end Lx
end Go.Proofs.YtnljlocogfacfaaDoor
