/-
  Texts that lie one behind the other: SuRowL SuPi.
-/
import Derived.Test.YtcgiloccmehbeaaY7
import Derived.Test.YtcgiloccmehbeaaY8
namespace Go.Proofs.Ytcgiloccmehbeaa
open Go.ChangeShapes Go.WideShapes Go.ChangeAt Go.RowKit
namespace Lx
set_option maxRecDepth 100000
section
variable {H : Type} {enc : TypeId × Value → H}
/-- A row of terms among the arguments. -/
theorem list_argS {W : World} {base b0 : Nat} {sp : Nat → Bool} {hd : Bool} {v : Value} {d : DataW H} {ps : List MemPlace} (hval : Value.okWide Try.prog W .any b0 22 v)
    (h : DataW.Trod enc Try.prog W base sp hd 22 v d ps) (hw : ∀ k ∈ DataW.weights Try.prog 22 d, k ≤ reachBytes) : ∃ (l : List Te) (A : Option Addr) (c : Nat), v = .slice A l.length c ∧ l.length ≤ 140737488351232 ∧ ELIn W Any l A 0 := by
  obtain ⟨fuel, hf⟩ := h
  obtain ⟨cs, hcs⟩ : ∃ cs, cs = [v] := ⟨_, rfl⟩
  have hf : DataW.trod enc Try.prog W base sp hd fuel 22 [v] = some (d, ps) := by
    cases v
    case agg cs =>
      exfalso
      unfold Value.okWide at hval
      rw [Try.underlying22] at hval
      unfold Cell.okWide at hval
      rw [Try.underlying22] at hval
      unfold Cell.ok at hval
      rw [Try.underlying22] at hval
      exact hval
    all_goals exact hf
  rcases DataW.trod_slice Try.underlying22 hf with ⟨e1, h1⟩ | ⟨p, len, cap, elems, rest, m', em, e1, h1, hb, hl, hm, hlen, hel, _, _⟩
  · obtain rfl := (List.cons.inj e1).1
    exact ⟨[], none, 0, rfl, by simp, by rw [ELIn]; trivial⟩
  · obtain rfl := (List.cons.inj e1).1
    injection h1 with h1 h2
    subst h1
    have hwe : ∀ (i : Nat) (y' : DataW H × List MemPlace), elems[i]? = some y' → ∀ q ∈ DataW.weights Try.prog 24 y'.1, q ≤ reachBytes := fun i y' hy q hq => hw q (by
      rw [DataW.weights, Try.underlying22]
      have := weights6_memS (elems.map (·.1)) y'.1 (List.mem_map_of_mem (List.mem_of_getElem? hy)) q hq
      simp [this])
    have hlen' : len ≤ 140737488351232 := by
      have := hw ((elems.length + rest.length) * 56) (by
        rw [DataW.weights, Try.underlying22]
        simp [bE56S])
      have : (elems.length + rest.length) * 56 ≤ 140737488351232 := this
      omega
    obtain ⟨l, hll, hq⟩ := row6_ofS (Q := fun i t => ∃ A c, W.cells? base (p.add (i * 4)) 4 = some (cellsE t A c) ∧ EIn W Any t A) len fun i hi => by
      have h1 := hel i hi
      rw [cE4S] at h1
      obtain ⟨y', hy'⟩ : ∃ y', elems[i]? = some y' := ⟨_, List.getElem?_eq_getElem (by omega)⟩
      rw [hy', Option.bind_eq_some_iff] at h1
      obtain ⟨cs', hc', ht'⟩ := h1
      obtain ⟨t, A, c, rfl, hT⟩ := open_termS m' m' (Nat.le_refl _) ht' (hwe i y' hy')
      exact ⟨t, A, c, hc', hT⟩
    subst hll
    refine ⟨l, some p, cap, rfl, hlen', ?_⟩
    cases l with
    | nil => rw [ELIn]; trivial
    | cons t0 r =>
      have hps : p.spot = none := by
        obtain ⟨A, c, hc, _⟩ := hq 0 (by simp)
        have := cells6_getS hc 0 (by omega)
        have := spot6_noneS (this.trans (rfl : (cellsE _ _ _)[0]? = some _))
        simpa [Addr.add] using this
      obtain ⟨pb, po, ps'⟩ := p
      dsimp only at hps
      subst hps
      refine ELIn.mk (t0 :: r) 0 fun i hi => ?_
      obtain ⟨A, c, hc, hT⟩ := hq i hi
      have hcell : ∀ j, j < 4 → W.cell? ⟨pb, po + i * 4 + j, none⟩ = (cellsE ((t0 :: r)[i]'hi) A c)[j]? := fun j hj => by
        have ea : ((⟨pb, po, none⟩ : Addr).add (i * 4)).add j = ⟨pb, po + i * 4 + j, none⟩ := by
          by_cases hi0 : i * 4 = 0 <;> by_cases hj0 : j = 0 <;> simp [Addr.add, hi0, hj0]
        rw [← cells6_getS hc j hj, ea]
      rw [Nat.zero_add]
      exact ⟨pb, po, A, c, ⟨rfl, trivial⟩, hcell 0 (by omega), hcell 1 (by omega), hcell 2 (by omega), hcell 3 (by omega), hT⟩
theorem list_againS {W W' : World} {v : Value} {d : DataW H} {ps : List MemPlace} (h : DataW.Trod enc Try.prog W 0 (fun _ => true) true 22 v d ps) (hb : Below W.heap.size W W') (hlt : ∀ x ∈ ps, x.block < W.heap.size)
    {sp : Nat → Bool} (hs : ∀ x ∈ ps, sp x.block = true) : DataW.Trod enc Try.prog W' 0 sp true 22 v d ps :=
  WideElems.Trod_stays (by kernel_rfl) (by kernel_rfl) (of_decide_eq_true (by kernel_rfl)) h (fun x hx => hb.same (hlt x hx)) hs
end
end Lx
end Go.Proofs.Ytcgiloccmehbeaa
namespace Go.Proofs.Ytcgiloccmehbeaa
namespace Lx
set_option maxRecDepth 100000
theorem v_inst (l : List Te) (n : Int) (s : ByteArray) (b : Int) : chE (instF l) (.node 1 n s []) b = instF l n s b := by rw [chE, if_pos rfl]
theorem lastE_snoc0 (l : List Te) (x : Te) : lastE (l ++ [x]) 0 = x := by simp [lastE, List.getD_eq_getElem?_getD]
theorem lastE_snoc (l : List Te) (x : Te) (i : Nat) (h : i < l.length) : lastE (l ++ [x]) (i + 1) = lastE l i := by
  rw [lastE, lastE, List.getD_eq_getElem?_getD, List.getD_eq_getElem?_getD, List.length_append, List.length_singleton, show l.length + 1 - 1 - (i + 1) = l.length - 1 - i by omega, List.getElem?_append_left (by omega)]
theorem inst_past {x : Te} (hw : wfE x) (l : List Te) (b : Int) (hb : 0 ≤ b) : chE (instF l) (chE (upF (l.length + b)) x 0) b = chE (upF b) x 0 := by
  have := ch_comp (F := upF (l.length + b)) (G := instF l) (H := upF b) (p := 0) (q := b) (r := 0) (fun n s d hd => by
    rw [upF, v_inst, instF, upF, if_neg (show ¬ (b + d ≤ (if 0 + d ≤ n then n + (↑l.length + b) else n) ∧ (if 0 + d ≤ n then n + (↑l.length + b) else n) < b + d + ↑l.length) by split <;> omega)]
    congr 1; (repeat' split) <;> omega) x 0 (by omega) hw
  simpa using this
theorem inst_step {t x : Te} (ht : wfE t) (hx : wfE x) (l : List Te) : instE t (l ++ [x]) = instE (putE t 0 (upE x l.length 0)) l := by
  have := ch_comp (F := putF 0 (upE x l.length 0)) (G := instF l) (H := instF (l ++ [x])) (p := 0) (q := 0) (r := 0) (fun n s b hb => by
    simp only [Int.zero_add]
    have hlen : ((l ++ [x]).length : Int) = l.length + 1 := by simp
    have L : putF 0 (upE x l.length 0) n s b = (if n = b then upE (upE x l.length 0) b 0 else .node 1 (if b < n then n - 1 else n) s []) := by rw [putF, Int.zero_add]
    rw [L, instF, hlen]
    by_cases h0 : n = b
    · rw [if_pos h0, if_pos (show b ≤ n ∧ n < b + (↑l.length + 1) by omega), upE, upE, up_up hx _ b 0 (by omega) (by omega), inst_past hx l b hb, show (n - b).toNat = 0 by omega, lastE_snoc0, upE]
    · rw [if_neg h0, v_inst, instF]
      by_cases h1 : b < n
      · rw [if_pos h1]
        by_cases h2 : n < b + (l.length + 1)
        · rw [if_pos (show b ≤ n - 1 ∧ n - 1 < b + ↑l.length by omega), if_pos (show b ≤ n ∧ n < b + (↑l.length + 1) by omega)]
          obtain ⟨i, hi⟩ : ∃ i : Nat, (n - b).toNat = i + 1 := ⟨(n - b).toNat - 1, by omega⟩
          rw [hi, lastE_snoc l x i (by omega), show (n - 1 - b).toNat = i by omega]
        · rw [if_neg (show ¬ (b ≤ n - 1 ∧ n - 1 < b + ↑l.length) by omega), if_neg (show ¬ (b ≤ n ∧ n < b + (↑l.length + 1)) by omega)]
          congr 1; (repeat' split) <;> omega
      · rw [if_neg h1, if_neg (show ¬ (b ≤ n ∧ n < b + ↑l.length) by omega), if_neg (show ¬ (b ≤ n ∧ n < b + (↑l.length + 1)) by omega), if_neg h1, if_neg h1]) t 0 (by omega) ht
  simpa [instE, putE] using this.symm
theorem inst_nil {t : Te} (ht : wfE t) : instE t [] = t := by
  have h := ch_same t 0 ht
  have e : instF [] = fun n s _ => Te.node 1 n s [] := by
    funext n s b
    rw [instF, if_neg (by simp <;> omega)]
    simp
  rw [instE, e]
  exact h
theorem up_zero {t : Te} (ht : wfE t) : upE t 0 0 = t := by
  have e : upF 0 = fun n s _ => Te.node 1 n s [] := by
    funext n s b
    rw [upF]; simp
  rw [upE, e]
  exact ch_same t 0 ht
/-- One term alone. -/
theorem inst_one {t x : Te} (ht : wfE t) (hx : wfE x) : instE t [x] = putE t 0 x := by
  have h := inst_step ht hx []
  rw [List.nil_append] at h
  rw [h, show (([] : List Te).length : Int) = 0 from rfl, up_zero hx]
  exact inst_nil (wf_put _ _ _ _ hx ht)
end Lx
end Go.Proofs.Ytcgiloccmehbeaa
