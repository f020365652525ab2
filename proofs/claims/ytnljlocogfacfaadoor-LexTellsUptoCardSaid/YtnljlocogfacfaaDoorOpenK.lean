/-
  Tokens among the arguments of a row, opened: what the row reads as a slice of tokens lies as a row of tokens, no longer than its bulk.
-/
import Derived.Test.YtnljlocogfacfaaDoorOpen
import Derived.Test.YtnljlocogfacfaaDoorBld
import Derived.WideShapes
import Derived.WideKeyArgs
namespace Go.Proofs.YtnljlocogfacfaaDoor
open Go.RowKit Go.WideShapes
namespace Lx
set_option maxRecDepth 100000
section
variable {H : Type} {enc : TypeId × Value → H}
theorem cK4 : Tryd.prog.cellsOf 48 = 4 := by kernel_rfl
/-- A token's bulk. -/
theorem open_tok {W : World} {base : Nat} {sp : Nat → Bool} {hd : Bool} {fuel : Nat} {cs : List Value} {x : DataW H × List MemPlace} (h : DataW.trod enc Tryd.prog W base sp hd fuel 48 cs = some x) :
    ∃ t : Tok, cs = t.cells ∧ t.text.length + 5 = Rows.uptoBulk x.1 := by
  obtain ⟨xs, m, e, hx, hl, hlen, hf⟩ := DataW.trod_struct Tryd.underlying48 h
  rw [cK4] at hl
  match cs, hl with
  | [c0, c1, c2, c3], _ =>
  match xs, hlen with
  | [x0, x1, x2, x3], _ =>
  have h0 := hf 0 { name := "Kind", type := 3, offset := 0, embedded := false, tag := "", pkgPath := "", byteOffset := 0 } rfl
  have h1 := hf 1 { name := "Text", type := 9, offset := 1, embedded := false, tag := "", pkgPath := "", byteOffset := 8 } rfl
  have h2 := hf 2 { name := "N", type := 3, offset := 2, embedded := false, tag := "", pkgPath := "", byteOffset := 24 } rfl
  have h3 := hf 3 { name := "At", type := 3, offset := 3, embedded := false, tag := "", pkgPath := "", byteOffset := 32 } rfl
  dsimp only at h0 h1 h2 h3
  rw [c3_1] at h0 h2 h3
  rw [c9_1] at h1
  dsimp at h0 h1 h2 h3
  obtain ⟨k, e0, y0, _⟩ := DataW.trod_int Tryd.underlying3 h0
  obtain ⟨s, e1, y1, _⟩ := DataW.trod_string Tryd.underlying9 h1
  obtain ⟨n, e2, y2, _⟩ := DataW.trod_int Tryd.underlying3 h2
  obtain ⟨a, e3, y3, _⟩ := DataW.trod_int Tryd.underlying3 h3
  obtain rfl := (List.cons.inj e0).1
  obtain rfl := (List.cons.inj e1).1
  obtain rfl := (List.cons.inj e2).1
  obtain rfl := (List.cons.inj e3).1
  subst y0 y1 y2 y3
  refine ⟨⟨k, s.data.toList, n, a⟩, by simp [Tok.cells], ?_⟩
  rw [hx]
  simp [Rows.uptoBulk, Rows.uptoBulkAll]
  omega
theorem rowK_of {Q : Nat → Tok → Prop} : ∀ (n : Nat), (∀ i, i < n → ∃ t, Q i t) → ∃ l : List Tok, l.length = n ∧ ∀ (i : Nat) (hi : i < l.length), Q i (l[i]'hi)
  | 0, _ => ⟨[], rfl, fun i hi => by simp at hi⟩
  | n + 1, h => by
    obtain ⟨l, hl, hq⟩ := rowK_of n fun i hi => h i (by omega)
    obtain ⟨t, ht⟩ := h n (by omega)
    refine ⟨l ++ [t], by simp [hl], fun i hi => ?_⟩
    rcases Nat.lt_or_ge i l.length with hlt | hge
    · rw [List.getElem_append_left hlt]; exact hq i hlt
    · have e : i = n := by simp at hi; omega
      subst e
      rw [List.getElem_append_right (by omega)]
      simpa [hl] using ht
/-- The letters of all texts, and five a token. -/
def bulkK : List Tok → Nat
  | [] => 0
  | t :: r => t.text.length + 5 + bulkK r
theorem textS_bulk : ∀ l : List Tok, (textS l).length ≤ bulkK l
  | [] => by simp [textS, bulkK]
  | [t] => by simp [textS, bulkK]
  | t :: u :: r => by
    have := textS_bulk (u :: r)
    rw [textS, List.length_append, List.length_cons]
    rw [bulkK]
    omega
theorem bulkK_le : ∀ (l : List Tok) (ds : List (DataW H)), l.length = ds.length → (∀ (i : Nat) (hi : i < l.length) (hd : i < ds.length), (l[i]'hi).text.length + 5 = Rows.uptoBulk (ds[i]'hd)) → bulkK l = Rows.uptoBulkAll ds
  | [], [], _, _ => rfl
  | t :: r, d :: ds, hl, h => by
    have h0 := h 0 (by simp) (by simp)
    have hr := bulkK_le r ds (by simpa using hl) fun i hi hd => by
      have := h (i + 1) (by simpa using hi) (by simpa using hd)
      simpa using this
    rw [bulkK, Rows.uptoBulkAll, hr]
    simpa using h0
theorem Row.of_cells {w : World} {g o : Nat} {l : List Tok} (h : ∀ (i : Nat) (hi : i < l.length) (j : Nat), j < 4 → w.cell? ⟨g, o + i * 4 + j, none⟩ = (l[i]'hi).cells[j]?) : Row w (some ⟨g, o, none⟩) l := fun _ => by
  refine ⟨g, o, rfl, fun n u hu => ?_⟩
  have hlt : n < (cellsOf l).length := by
    by_cases hn : n < (cellsOf l).length
    · exact hn
    · rw [List.getElem?_eq_none (by omega)] at hu; cases hu
  rw [cellsOf_length] at hlt
  have hi : n / 4 < l.length := by omega
  have hj : n % 4 < 4 := by omega
  have e : n / 4 * 4 + n % 4 = n := by omega
  have h1 := cellsOf_at l (n / 4) hi (n % 4) hj
  rw [e, hu] at h1
  have h2 := h (n / 4) hi (n % 4) hj
  rw [← h1, Nat.add_assoc, e] at h2
  exact h2
/-- What reads as a slice of tokens is a row of them. -/
theorem toks_arg {W : World} {base b0 : Nat} {sp : Nat → Bool} {hd : Bool} {v : Value} {d : DataW H} {ps : List MemPlace} (hval : Value.okWide Tryd.prog W .any b0 22 v)
    (h : DataW.Trod enc Tryd.prog W base sp hd 22 v d ps) : ∃ A a c, v = .slice A (List.length a) c ∧ Row W A a ∧ (textS a).length ≤ Rows.uptoBulk d := by
  obtain ⟨A0, len0, cap0, rfl⟩ := okWide_slice Tryd.underlying22 hval
  obtain ⟨fuel, hf⟩ := h
  rcases DataW.trod_slice Tryd.underlying22 hf with ⟨e1, e2⟩ | ⟨p, len, cap, elems, rest, m', em, e1, e2, hb, hl, hm, hlen, hel, _, _⟩
  · have e3 : Value.slice A0 len0 cap0 = .slice none 0 0 := (List.cons.inj e1).1
    exact ⟨none, [], 0, by rw [e3]; rfl, fun h => absurd rfl h, by simp [textS]⟩
  · have e3 : Value.slice A0 len0 cap0 = .slice (some p) len cap := (List.cons.inj e1).1
    have ed : d = .slice (elems.map (·.1)) (rest.map (·.1)) := (Prod.mk.inj e2).1
    obtain ⟨l, hll, hq⟩ := rowK_of (Q := fun i t => W.cells? base (p.add (i * 4)) 4 = some t.cells ∧ ∃ y, elems[i]? = some y ∧ t.text.length + 5 = Rows.uptoBulk y.1) len fun i hi => by
      have h1 := hel i hi
      rw [cK4] at h1
      obtain ⟨y', hy'⟩ : ∃ y', elems[i]? = some y' := ⟨_, List.getElem?_eq_getElem (by omega)⟩
      rw [hy', Option.bind_eq_some_iff] at h1
      obtain ⟨cs', hc', ht'⟩ := h1
      obtain ⟨t, rfl, hbk⟩ := open_tok ht'
      exact ⟨t, hc', y', hy', hbk⟩
    subst hll
    have hbulk : bulkK l = Rows.uptoBulkAll (elems.map (·.1)) := bulkK_le l _ (by simp [hlen]) fun i hi hd => by
      obtain ⟨_, y, hy, hbk⟩ := hq i hi
      rw [hbk]
      have hie : i < elems.length := by omega
      rw [List.getElem?_eq_getElem hie] at hy
      rw [List.getElem_map, Option.some.inj hy]
    refine ⟨some p, l, cap, e3, ?_, ?_⟩
    · cases l with
      | nil => exact fun h => absurd rfl h
      | cons t0 r =>
        have hps : p.spot = none := by
          obtain ⟨hc, _⟩ := hq 0 (by simp)
          have := cells?_get hc 0 (by omega)
          have := spot_none (this.trans (rfl : (Tok.cells _)[0]? = some _))
          simpa [Addr.add] using this
        obtain ⟨pb, po, ps⟩ := p
        dsimp only at hps
        subst hps
        refine Row.of_cells fun i hi j hj => ?_
        obtain ⟨hc, _⟩ := hq i hi
        have ea : ((⟨pb, po, none⟩ : Addr).add (i * 4)).add j = ⟨pb, po + i * 4 + j, none⟩ := by
          by_cases hi0 : i * 4 = 0 <;> by_cases hj0 : j = 0 <;> simp [Addr.add, hi0, hj0]
        rw [← cells?_get hc j hj, ea]
    · have := textS_bulk l
      rw [ed, Rows.uptoBulk]
      omega
/-- It reads behind the call as it read before. -/
theorem toks_again {W W' : World} {v : Value} {d : DataW H} {ps : List MemPlace} (h : DataW.Trod enc Tryd.prog W 0 (fun _ => true) true 22 v d ps) (hb : Below W.heap.size W W') (hlt : ∀ x ∈ ps, x.block < W.heap.size)
    {sp : Nat → Bool} (hs : ∀ x ∈ ps, sp x.block = true) : DataW.Trod enc Tryd.prog W' 0 sp true 22 v d ps :=
  WideElems.Trod_stays (by kernel_rfl) (by kernel_rfl) (of_decide_eq_true (by kernel_rfl)) h (fun x hx => hb.same (hlt x hx)) hs
end
end Lx
end Go.Proofs.YtnljlocogfacfaaDoor
