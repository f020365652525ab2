/-
  Texts that lie one behind the other: Su SuRow RegK SuBi SuAll SuCh SuUp SuIn RegW.
-/
import Derived.Test.YtcgiloccmehbeaaKG
import Derived.Test.YtcgiloccmehbeaaK3
import Derived.Test.YtcgiloccmehbeaaK1
import Derived.Laws.MakeOwn
import Derived.Laws.Entries
import Derived.Deep.MidRow
import Derived.Deep.RegionHeld
import Derived.Deep.Cut
namespace Go.Proofs.Ytcgiloccmehbeaa
namespace Lx
set_option maxRecDepth 100000
mutual
/-- A term, each of whose variables is what F tells of its number, its name and how many binders there are. -/
def chE (F : Int → ByteArray → Int → Te) : Te → Int → Te
  | .node k n s l, b => if k = 1 then F n s b else .node k n s (chEL F l (b + moreE k n))
def chEL (F : Int → ByteArray → Int → Te) : List Te → Int → List Te
  | [], _ => []
  | t :: r, b => chE F t b :: chEL F r b
end
def upF (u : Int) (n : Int) (s : ByteArray) (f : Int) : Te := .node 1 (if f ≤ n then n + u else n) s []
def upE (t : Te) (u f : Int) : Te := chE (upF u) t f
def putF (k : Int) (x : Te) (n : Int) (s : ByteArray) (b : Int) : Te := if n = k + b then upE x b 0 else .node 1 (if k + b < n then n - 1 else n) s []
def putE (t : Te) (k : Int) (x : Te) : Te := chE (putF k x) t 0
def lastE (l : List Te) (i : Nat) : Te := l.getD (l.length - 1 - i) (.node 0 0 ⟨#[]⟩ [])
def instF (l : List Te) (n : Int) (s : ByteArray) (b : Int) : Te := if b ≤ n ∧ n < b + l.length then upE (lastE l (n - b).toNat) b 0 else .node 1 (if b < n then n - l.length else n) s []
def instE (t : Te) (l : List Te) : Te := chE (instF l) t 0
mutual
def usesE : Te → Int → Nat
  | .node k n _ l, j => if k = 1 then (if n = j then 1 else 0) else usesEL l (j + moreE k n)
def usesEL : List Te → Int → Nat
  | [], _ => 0
  | t :: r, j => usesE t j + usesEL r j
end
mutual
/-- Variables have no parts, and no number beyond K; alternatives none beyond M. -/
def tameE (K M : Int) : Te → Prop
  | .node k n _ l => (k = 1 → -K ≤ n ∧ n ≤ K ∧ l = []) ∧ (k = 6 → -M ≤ n ∧ n ≤ M) ∧ tameEL K M l
def tameEL (K M : Int) : List Te → Prop
  | [] => True
  | t :: r => tameE K M t ∧ tameEL K M r
end
mutual
/-- What the document's answer asks. -/
def tameB : Te → Bool
  | .node k n _ l => !((decide (k ≠ 7) && (decide (1099511627776 < n) || decide (n < -1099511627776))) || (decide (k = 1) && decide (0 < l.length))) && tameBL l
def tameBL : List Te → Bool
  | [] => true
  | t :: r => tameB t && tameBL r
end
theorem chEL_length (F : Int → ByteArray → Int → Te) : ∀ (l : List Te) (b : Int), (chEL F l b).length = l.length
  | [], _ => by simp [chEL]
  | t :: r, b => by simp [chEL, chEL_length F r b]
theorem chEL_map (F : Int → ByteArray → Int → Te) : ∀ (l : List Te) (b : Int), chEL F l b = l.map (chE F · b)
  | [], _ => by simp [chEL]
  | t :: r, b => by simp [chEL, chEL_map F r b]
theorem chEL_snoc (F : Int → ByteArray → Int → Te) (l : List Te) (t : Te) (b : Int) : chEL F (l ++ [t]) b = chEL F l b ++ [chE F t b] := by simp [chEL_map]
theorem chEL_take (F : Int → ByteArray → Int → Te) (l : List Te) (i : Nat) (b : Int) (h : i < l.length) : chEL F (l.take (i + 1)) b = chEL F (l.take i) b ++ [chE F (l[i]'h) b] := by
  rw [List.take_succ_eq_append_getElem h, chEL_snoc]
theorem usesEL_snoc (l : List Te) (t : Te) (j : Int) : usesEL (l ++ [t]) j = usesEL l j + usesE t j := by
  induction l with
  | nil => simp [usesEL]
  | cons a r ih => simp only [List.cons_append, usesEL, ih]; omega
theorem usesEL_take (l : List Te) (i : Nat) (j : Int) (h : i < l.length) : usesEL (l.take (i + 1)) j = usesEL (l.take i) j + usesE (l[i]'h) j := by
  rw [List.take_succ_eq_append_getElem h, usesEL_snoc]
theorem tameEL_mem {K M : Int} : ∀ (l : List Te) (t : Te), t ∈ l → tameEL K M l → tameE K M t
  | [], t, h, _ => by simp at h
  | a :: r, t, h, ht => by
    rw [tameEL] at ht
    rcases List.mem_cons.1 h with rfl | h
    · exact ht.1
    · exact tameEL_mem r t h ht.2
theorem tameEL_of {K M : Int} : ∀ (l : List Te), (∀ t ∈ l, tameE K M t) → tameEL K M l
  | [], _ => by rw [tameEL]; trivial
  | a :: r, h => by rw [tameEL]; exact ⟨h a (by simp), tameEL_of r fun t ht => h t (by simp [ht])⟩
mutual
theorem tameB_spec : ∀ t : Te, tameB t = true → tameE 1099511627776 1099511627776 t
  | .node k n s l, h => by
    rw [tameB] at h
    rw [tameE]
    simp only [Bool.and_eq_true, Bool.not_eq_true', Bool.or_eq_false_iff, Bool.and_eq_false_iff, decide_eq_false_iff_not] at h
    obtain ⟨⟨h1, h2⟩, h3⟩ := h
    refine ⟨fun hk => ?_, fun hk => by omega, tameBL_spec l h3⟩
    refine ⟨by omega, by omega, ?_⟩
    have : ¬ 0 < l.length := by
      rcases h2 with h2 | h2
      · exact absurd hk h2
      · exact h2
    exact List.eq_nil_of_length_eq_zero (by omega)
theorem tameBL_spec : ∀ l : List Te, tameBL l = true → tameEL 1099511627776 1099511627776 l
  | [], _ => by rw [tameEL]; trivial
  | t :: r, h => by
    rw [tameBL, Bool.and_eq_true] at h
    rw [tameEL]
    exact ⟨tameB_spec t h.1, tameBL_spec r h.2⟩
end
mutual
theorem usesE_le : ∀ (t : Te) (j : Int), usesE t j ≤ sizeE t
  | .node k n s l, j => by
    rw [usesE, sizeE]
    have := usesEL_le l (j + moreE k n)
    split
    · split <;> omega
    · omega
theorem usesEL_le : ∀ (l : List Te) (j : Int), usesEL l j ≤ sizeEL l
  | [], _ => by simp [usesEL]
  | t :: r, j => by rw [usesEL, sizeEL]; have := usesE_le t j; have := usesEL_le r j; omega
end
mutual
theorem tameE_mono {K M K' M' : Int} (hK : K ≤ K') (hM : M ≤ M') : ∀ t : Te, tameE K M t → tameE K' M' t
  | .node k n s l, h => by
    rw [tameE] at h ⊢
    refine ⟨fun hk => ?_, fun hk => ?_, tameEL_mono hK hM l h.2.2⟩
    · have := h.1 hk; exact ⟨by omega, by omega, this.2.2⟩
    · have := h.2.1 hk; omega
theorem tameEL_mono {K M K' M' : Int} (hK : K ≤ K') (hM : M ≤ M') : ∀ l : List Te, tameEL K M l → tameEL K' M' l
  | [], _ => by rw [tameEL]; trivial
  | t :: r, h => by rw [tameEL] at h ⊢; exact ⟨tameE_mono hK hM t h.1, tameEL_mono hK hM r h.2⟩
end
mutual
theorem chE_depth {F : Int → ByteArray → Int → Te} {D : Nat} (hD : 0 < D) (h : ∀ n s b, depthE (F n s b) ≤ D) : ∀ (t : Te) (b : Int), depthE (chE F t b) + 1 ≤ depthE t + D
  | .node k n s l, b => by
    rw [chE, depthE]
    split
    · have := h n s b; omega
    · rw [depthE]; have := chEL_depth hD h l (b + moreE k n); omega
theorem chEL_depth {F : Int → ByteArray → Int → Te} {D : Nat} (hD : 0 < D) (h : ∀ n s b, depthE (F n s b) ≤ D) : ∀ (l : List Te) (b : Int), depthEL (chEL F l b) + 1 ≤ depthEL l + D
  | [], _ => by simp [chEL, depthEL]; omega
  | t :: r, b => by rw [chEL, depthEL, depthEL]; have := chE_depth hD h t b; have := chEL_depth hD h r b; omega
end
mutual
theorem chE_size {F : Int → ByteArray → Int → Te} {S : Nat} (hS : 0 < S) (h : ∀ n s b, sizeE (F n s b) ≤ S) : ∀ (t : Te) (b : Int), sizeE (chE F t b) ≤ sizeE t * S
  | .node k n s l, b => by
    rw [chE]
    have := chEL_size hS h l (b + moreE k n)
    rw [sizeE, Nat.succ_mul]
    split
    · have := h n s b; omega
    · rw [sizeE]; omega
theorem chEL_size {F : Int → ByteArray → Int → Te} {S : Nat} (hS : 0 < S) (h : ∀ n s b, sizeE (F n s b) ≤ S) : ∀ (l : List Te) (b : Int), sizeEL (chEL F l b) ≤ sizeEL l * S
  | [], _ => by simp [chEL, sizeEL]
  | t :: r, b => by rw [chEL, sizeEL, sizeEL, Nat.add_mul]; have := chE_size hS h t b; have := chEL_size hS h r b; omega
end
mutual
theorem chE_tame {F : Int → ByteArray → Int → Te} {K K' M B : Int} (hM : 0 ≤ M) (hM1 : 1 ≤ M) (h : ∀ n s b, -K ≤ n → n ≤ K → -B ≤ b → b ≤ B → tameE K' M (F n s b)) : ∀ (t : Te) (b : Int), tameE K M t → -B ≤ b - (depthE t : Int) * M → b + (depthE t : Int) * M ≤ B → tameE K' M (chE F t b)
  | .node k n s l, b, ht, h1, h2 => by
    rw [tameE] at ht
    rw [depthE] at h1 h2
    have he : ((depthEL l + 1 : Nat) : Int) * M = (depthEL l : Int) * M + M := by rw [Int.natCast_add, Int.add_mul]; simp
    rw [he] at h1 h2
    have hp : 0 ≤ (depthEL l : Int) * M := Int.mul_nonneg (by omega) hM
    rw [chE]
    split
    · rename_i hk
      have := ht.1 hk
      exact h n s b this.1 this.2.1 (by omega) (by omega)
    · rename_i hk
      have hm : -M ≤ moreE k n ∧ moreE k n ≤ M := by
        rw [moreE]
        split
        · omega
        · split
          · rename_i h6; exact ht.2.1 h6
          · omega
      rw [tameE]
      exact ⟨fun e => absurd e hk, ht.2.1, chEL_tame hM hM1 h l (b + moreE k n) ht.2.2 (by omega) (by omega)⟩
theorem chEL_tame {F : Int → ByteArray → Int → Te} {K K' M B : Int} (hM : 0 ≤ M) (hM1 : 1 ≤ M) (h : ∀ n s b, -K ≤ n → n ≤ K → -B ≤ b → b ≤ B → tameE K' M (F n s b)) : ∀ (l : List Te) (b : Int), tameEL K M l → -B ≤ b - (depthEL l : Int) * M → b + (depthEL l : Int) * M ≤ B → tameEL K' M (chEL F l b)
  | [], _, _, _, _ => by rw [chEL, tameEL]; trivial
  | t :: r, b, ht, h1, h2 => by
    rw [tameEL] at ht
    rw [depthEL] at h1 h2
    have e1 : (depthE t : Int) * M ≤ ((max (depthE t) (depthEL r) : Nat) : Int) * M := Int.mul_le_mul_of_nonneg_right (by omega) hM
    have e2 : (depthEL r : Int) * M ≤ ((max (depthE t) (depthEL r) : Nat) : Int) * M := Int.mul_le_mul_of_nonneg_right (by omega) hM
    rw [chEL, tameEL]
    exact ⟨chE_tame hM hM1 h t b ht.1 (by omega) (by omega), chEL_tame hM hM1 h r b ht.2 (by omega) (by omega)⟩
end
theorem upE_depth (t : Te) (u f : Int) : depthE (upE t u f) ≤ depthE t := by
  have := chE_depth (F := upF u) (D := 1) (by omega) (fun n s b => by simp [upF, depthE, depthEL]) t f
  rw [upE]; omega
theorem upE_size (t : Te) (u f : Int) : sizeE (upE t u f) ≤ sizeE t := by
  have := chE_size (F := upF u) (S := 1) (by omega) (fun n s b => by simp [upF, sizeE, sizeEL]) t f
  rw [upE]; omega
theorem upE_tame {K M U : Int} {t : Te} (hM1 : 1 ≤ M) (ht : tameE K M t) (u f : Int) (h0 : -U ≤ u) (h1 : u ≤ U) (hU : 0 ≤ U) : tameE (K + U) M (upE t u f) := by
  have hp : 0 ≤ (depthE t : Int) * M := Int.mul_nonneg (by omega) (by omega)
  rw [upE]
  rcases Int.le_total 0 f with hf | hf
  · exact chE_tame (B := f + (depthE t : Int) * M) (by omega) hM1 (fun n s b h2 h3 _ _ => by
      rw [upF, tameE, tameEL]
      refine ⟨fun _ => ?_, fun e => by omega, trivial⟩
      split <;> exact ⟨by omega, by omega, rfl⟩) t f ht (by omega) (by omega)
  · exact chE_tame (B := -f + (depthE t : Int) * M) (by omega) hM1 (fun n s b h2 h3 _ _ => by
      rw [upF, tameE, tameEL]
      refine ⟨fun _ => ?_, fun e => by omega, trivial⟩
      split <;> exact ⟨by omega, by omega, rfl⟩) t f ht (by omega) (by omega)
theorem putF_depth (k : Int) (x : Te) (n : Int) (s : ByteArray) (b : Int) : depthE (putF k x n s b) ≤ depthE x := by
  rw [putF]
  split
  · exact upE_depth _ _ _
  · have := depthE_pos x; simp [depthE, depthEL]; omega
theorem putF_size (k : Int) (x : Te) (n : Int) (s : ByteArray) (b : Int) : sizeE (putF k x n s b) ≤ sizeE x := by
  rw [putF]
  split
  · exact upE_size _ _ _
  · have := sizeE_pos x; simp [sizeE, sizeEL]; omega
theorem putE_depth (t : Te) (k : Int) (x : Te) : depthE (putE t k x) + 1 ≤ depthE t + depthE x := by
  rw [putE]; exact chE_depth (depthE_pos x) (putF_depth k x) t 0
theorem putE_size (t : Te) (k : Int) (x : Te) : sizeE (putE t k x) ≤ sizeE t * sizeE x := by
  rw [putE]; exact chE_size (sizeE_pos x) (putF_size k x) t 0
theorem putE_tame {K : Int} {t x : Te} (hd : depthE t ≤ 4000) (ht : tameE K 8 t) (hx : tameE K 8 x) (k : Int) : tameE (K + 32001) 8 (putE t k x) := by
  rw [putE]
  refine chE_tame (B := 32000) (by omega) (by omega) (fun n s b h2 h3 h4 h5 => ?_) t 0 ht (by omega) (by omega)
  rw [putF]
  split
  · exact tameE_mono (by omega) (Int.le_refl _) _ (upE_tame (U := 32000) (by omega) hx b 0 (by omega) (by omega) (by omega))
  · rw [tameE, tameEL]
    refine ⟨fun _ => ?_, fun e => by omega, trivial⟩
    split <;> exact ⟨by omega, by omega, rfl⟩
theorem lastE_mem (l : List Te) (i : Nat) (h : i < l.length) : lastE l i = l[l.length - 1 - i]'(by omega) := by
  rw [lastE, List.getD_eq_getElem?_getD, List.getElem?_eq_getElem (by omega)]; rfl
theorem instF_depth {l : List Te} {D : Nat} (hD : 0 < D) (h : ∀ t ∈ l, depthE t ≤ D) (n : Int) (s : ByteArray) (b : Int) : depthE (instF l n s b) ≤ D := by
  rw [instF]
  split
  · rename_i hc
    rw [lastE_mem _ _ (by omega)]
    have := h _ (List.getElem_mem (by omega : l.length - 1 - (n - b).toNat < l.length))
    have := upE_depth (l[l.length - 1 - (n - b).toNat]'(by omega)) b 0
    omega
  · simp [depthE, depthEL]; omega
theorem instF_size {l : List Te} {S : Nat} (hS : 0 < S) (h : ∀ t ∈ l, sizeE t ≤ S) (n : Int) (s : ByteArray) (b : Int) : sizeE (instF l n s b) ≤ S := by
  rw [instF]
  split
  · rename_i hc
    rw [lastE_mem _ _ (by omega)]
    have := h _ (List.getElem_mem (by omega : l.length - 1 - (n - b).toNat < l.length))
    have := upE_size (l[l.length - 1 - (n - b).toNat]'(by omega)) b 0
    omega
  · simp [sizeE, sizeEL]; omega
mutual
theorem chE_congr {F G : Int → ByteArray → Int → Te} {a : Int} (h : ∀ n s b, F n s b = G n s (a + b)) : ∀ (t : Te) (b : Int), chE F t b = chE G t (a + b)
  | .node k n s l, b => by
    rw [chE, chE, h, chEL_congr h l, Int.add_assoc]
theorem chEL_congr {F G : Int → ByteArray → Int → Te} {a : Int} (h : ∀ n s b, F n s b = G n s (a + b)) : ∀ (l : List Te) (b : Int), chEL F l b = chEL G l (a + b)
  | [], b => by rw [chEL, chEL]
  | t :: r, b => by rw [chEL, chEL, chE_congr h t, chEL_congr h r]
end
theorem up_from (t : Te) (u f : Int) : chE (fun n s b => upF u n s (f + b)) t 0 = upE t u f := by
  rw [upE, chE_congr (G := upF u) (a := f) (fun _ _ _ => rfl), Int.add_zero]
end Lx
end Go.Proofs.Ytcgiloccmehbeaa
namespace Go.Proofs.Ytcgiloccmehbeaa
open Go.RowKit
namespace Lx
set_option maxRecDepth 100000
/-- The answer is a term as a value, its parts in new memory. -/
def GivesE (t : Te) (w : World) (e : Ending) (w' : World) : Prop :=
  ∃ A c, e = .returned (ev t A c) ∧ EIn w' (fun g => w.heap.size ≤ g) t A ∧ Below w.heap.size w w'
theorem run_make_rowE {P : Program} (t e : TypeId) (i : TypeInfo) (z : Value) (ht : P.underlying t = some (.slice e)) (hi : P.info? e = some i) (hz : i.zero = some z)
    (kl kc : IntKind) (n c : Nat) (hnc : n ≤ c) (hbytes : i.bytes * c ≤ 281474976710656) (h63 : c ≤ 9223372036854775807) (w : World) :
    (Instr.makeSlice t (.int kl (n : Int)) (.int kc (c : Int))).run P w = .ok (.slice (some ⟨w.heap.size, 0, none⟩) n c) (w.alloc (.cells (madeCells z.cells (c * i.size)) e)) := by
  have hb : (i.bytes : Int) * (c : Int) ≤ 281474976710656 := by
    have h : ((i.bytes * c : Nat) : Int) ≤ 281474976710656 := by omega
    rwa [Int.natCast_mul] at h
  have hr := run_make (P := P) w t e i z ht hi hz kl kc n c (by omega) (by omega) hb (by omega)
  simp only [Int.toNat_natCast] at hr
  exact hr
/-- Block G is a row of m terms, the first of which are those of l. -/
def RowF (w : World) (G m : Nat) (l : List Te) : Prop := ∃ cs, Lies w G 24 cs ∧ cs.size = m * 4 ∧ RowTe w (fun g => G < g) l (cs.toList.take (l.length * 4))
theorem RowF.cell {w : World} {G m : Nat} {l : List Te} (h : RowF w G m l) (i q : Nat) (hi : i < m) (hq : q < 4) : ∃ u, w.cell? ⟨G, i * 4 + q, none⟩ = some u ∧ w.frozen? ⟨G, i * 4 + q, none⟩ = false := by
  obtain ⟨cs, hL, hs, _⟩ := h
  have hlt : i * 4 + q < cs.size := by omega
  exact ⟨cs[i * 4 + q], (hL.cell _).trans (Array.getElem?_eq_getElem hlt), hL.frozen _⟩
theorem RowF.below {w w' : World} {G m : Nat} {l : List Te} {B : Nat} (h : RowF w G m l) (hb : Below B w w') (hB : w.heap.size ≤ B) : RowF w' G m l := by
  obtain ⟨cs, hL, hs, hr⟩ := h
  exact ⟨cs, hL.below hb (by have := hL.lt; omega), hs, hr.below hb hB⟩
theorem RowF.lt {w : World} {G m : Nat} {l : List Te} (h : RowF w G m l) : G < w.heap.size := by obtain ⟨cs, hL, _⟩ := h; exact hL.lt
theorem take_set4 (cs : List Value) (p : Nat) (a b c d : Value) (h : p + 4 ≤ cs.length) :
    ((((cs.set p a).set (p + 1) b).set (p + 2) c).set (p + 3) d).take (p + 4) = cs.take p ++ [a, b, c, d] := by
  apply List.ext_getElem?
  intro j
  by_cases hj : j < p + 4
  · rw [List.getElem?_take_of_lt hj]
    by_cases h0 : j < p
    · rw [List.getElem?_append_left (by simp; omega), List.getElem?_take_of_lt h0]
      simp [show ¬ p = j by omega, show ¬ p + 1 = j by omega, show ¬ p + 2 = j by omega, show ¬ p + 3 = j by omega]
    · rw [List.getElem?_append_right (by simp; omega)]
      have hl : (cs.take p).length = p := by simp; omega
      rw [hl]
      rcases (by omega : j = p ∨ j = p + 1 ∨ j = p + 2 ∨ j = p + 3) with rfl | rfl | rfl | rfl
      · simp [List.getElem?_set]; omega
      · simp [List.getElem?_set, show p + 1 - p = 1 by omega]; omega
      · simp [List.getElem?_set, show p + 2 - p = 2 by omega]; omega
      · simp [List.getElem?_set, show p + 3 - p = 3 by omega]; omega
  · rw [List.getElem?_eq_none (by simp; omega), List.getElem?_eq_none (by simp; omega)]
/-- The next term is stored. -/
theorem RowF.put {w : World} {G m : Nat} {l : List Te} (h : RowF w G m l) (t : Te) (A : Option Addr) (c : Nat) (hi : l.length < m) (ht : EIn w (fun g => G < g) t A) :
    RowF ((((w.setCell ⟨G, l.length * 4, none⟩ (.int .i64 t.kind)).setCell ⟨G, l.length * 4 + 1, none⟩ (.int .i64 t.n)).setCell ⟨G, l.length * 4 + 2, none⟩ (.string t.name)).setCell ⟨G, l.length * 4 + 3, none⟩ (.slice A t.parts.length (capF t.parts.length c))) G m (l ++ [t]) := by
  obtain ⟨cs, hL, hs, hr⟩ := h
  have hX : ∀ p : Addr, p.block = G → ¬ G < p.block := fun p e => by omega
  refine ⟨_, (((hL.put _ _).put _ _).put _ _).put _ _, by simp [hs], ?_⟩
  have h5 : (l ++ [t]).length * 4 = l.length * 4 + 4 := by simp; omega
  rw [h5]
  simp only [Array.toList_setIfInBounds]
  rw [take_set4 _ _ _ _ _ _ (by simp [hs]; omega)]
  have h1 := (((hr.setCell ⟨G, l.length * 4, none⟩ (.int .i64 t.kind) (hX _ rfl)).setCell ⟨G, l.length * 4 + 1, none⟩ (.int .i64 t.n) (hX _ rfl)).setCell ⟨G, l.length * 4 + 2, none⟩ (.string t.name) (hX _ rfl)).setCell ⟨G, l.length * 4 + 3, none⟩ (.slice A t.parts.length (capF t.parts.length c)) (hX _ rfl)
  have h2 := EIn.setCell _ (EIn.setCell _ (EIn.setCell _ (EIn.setCell _ ht ⟨G, l.length * 4, none⟩ (.int .i64 t.kind) (hX _ rfl)) ⟨G, l.length * 4 + 1, none⟩ (.int .i64 t.n) (hX _ rfl)) ⟨G, l.length * 4 + 2, none⟩ (.string t.name) (hX _ rfl)) ⟨G, l.length * 4 + 3, none⟩ (.slice A t.parts.length (capF t.parts.length c)) (hX _ rfl)
  exact h1.snoc (c := c) h2
theorem Lies.far4 {w : World} {g : Nat} {t : TypeId} {cs : Array Value} (h : Lies w g t cs) {G : Nat} (hg : g ≠ G) (o : Nat) (a b c d : Value) :
    Lies ((((w.setCell ⟨G, o, none⟩ a).setCell ⟨G, o + 1, none⟩ b).setCell ⟨G, o + 2, none⟩ c).setCell ⟨G, o + 3, none⟩ d) g t cs :=
  (((h.far (p := ⟨G, o, none⟩) hg _).far (p := ⟨G, o + 1, none⟩) hg _).far (p := ⟨G, o + 2, none⟩) hg _).far (p := ⟨G, o + 3, none⟩) hg _
theorem Below.four {B : Nat} {a w : World} (h : Below B a w) {G : Nat} (hg : B ≤ G) (o : Nat) (x y z u : Value) :
    Below B a ((((w.setCell ⟨G, o, none⟩ x).setCell ⟨G, o + 1, none⟩ y).setCell ⟨G, o + 2, none⟩ z).setCell ⟨G, o + 3, none⟩ u) :=
  (((h.setCell (p := ⟨G, o, none⟩) hg x).setCell (p := ⟨G, o + 1, none⟩) hg y).setCell (p := ⟨G, o + 2, none⟩) hg z).setCell (p := ⟨G, o + 3, none⟩) hg u
/-- All are there. -/
theorem RowF.parts {w : World} {G : Nat} {l : List Te} {Y : Nat → Prop} (h : RowF w G l.length l) (hY : ∀ g, G ≤ g → Y g) : ELIn w Y l (some ⟨G, 0, none⟩) 0 := by
  obtain ⟨cs, hL, hs, hr⟩ := h
  refine hr.parts (hY _ (Nat.le_refl _)) (fun b hb _ => hY b (by omega)) fun j u hu => ?_
  rw [Nat.zero_add, hL.cell j]
  have hj : j < l.length * 4 := by
    rcases Nat.lt_or_ge j (l.length * 4) with h | h
    · exact h
    · rw [List.getElem?_eq_none (by simp; omega)] at hu; cases hu
  rw [List.getElem?_take_of_lt hj] at hu
  simpa using hu
theorem RowF.fresh (w : World) (m : Nat) : RowF (w.alloc (.cells (madeCells #[.int .i64 0, .int .i64 0, .string ⟨#[]⟩, .slice none 0 0] (m * 4)) 24)) w.heap.size m [] := by
  refine ⟨_, Lies.new _ _ _, size_madeCells #[.int .i64 0, .int .i64 0, .string ⟨#[]⟩, .slice none 0 0] _, RowTe.nil _ _⟩
end Lx
end Go.Proofs.Ytcgiloccmehbeaa
namespace Go.Proofs.Ytcgiloccmehbeaa
open Go Go.RowKit
namespace Lx
set_option maxRecDepth 100000
section
variable {P : Program} {ops : Array Oper} {Q : Exit → Act → World → Prop} {md : Region.Mode} {S : World → Prop} {last : Nat}
/-- Two operations may come up. -/
theorem wpAnyK_both {i j : Nat} {oi oj : Oper} {fuel : Nat} {listed : Array Bool} {a : Act} {w : World} (hoi : ops[i]? = some oi) (hoj : ops[j]? = some oj) (hgi : oi.guard = none) (hgj : oj.guard = none) (hr : Region.ready md ops listed = [i, j])
    (h1 : ∀ K' : Act → World → Prop, Shut (∀ a w, (i ≠ last → S w) → ((i ≠ last → S w) → wpAnyK P md ops Q S last fuel (listed.setIfInBounds i true) a w) → K' a w) → Oper.wp P oi a w K' Q)
    (h2 : ∀ K' : Act → World → Prop, Shut (∀ a w, (j ≠ last → S w) → ((j ≠ last → S w) → wpAnyK P md ops Q S last fuel (listed.setIfInBounds j true) a w) → K' a w) → Oper.wp P oj a w K' Q) :
    wpAnyK P md ops Q S last (fuel + 1) listed a w := by
  refine ⟨fun h0 => (by rw [hr] at h0; cases h0), fun k hk => ?_⟩
  rw [hr] at hk
  rcases List.mem_cons.1 hk with rfl | hk
  · refine wpOp_step hoi fun K' hK => ?_
    rw [if_pos (by simp [Region.wanted, hgi])]
    exact h1 K' (fun a w hS hW => hK a w ⟨hS, hW hS⟩)
  · obtain rfl : k = j := by simpa using hk
    refine wpOp_step hoj fun K' hK => ?_
    rw [if_pos (by simp [Region.wanted, hgj])]
    exact h2 K' (fun a w hS hW => hK a w ⟨hS, hW hS⟩)
end
theorem lies_is {w : World} {g n : Nat} {t : TypeId} {cs : Array Value} (h : Lies w g t cs) (hn : cs.size = n) : w.there g 0 n := fun k hk => by
  subst hn
  exact ⟨by rw [Nat.zero_add, h.cell k, Array.getElem?_eq_getElem hk]; rfl, by rw [Nat.zero_add]; exact h.frozen k⟩
theorem lies_set4 {w : World} {g : Nat} {t : TypeId} {a b c d : Value} (h : Lies w g t #[a, b, c, d]) (x y z u : Value) : Lies (w.setCells g 0 [x, y, z, u]) g t #[x, y, z, u] := h.all x y z u
theorem below_cells {B : Nat} {a : World} : ∀ {w : World} (_ : Below B a w) {g : Nat} (_ : B ≤ g) (vs : List Value) (o : Nat), Below B a (w.setCells g o vs)
  | _, h, _, _, [], _ => h
  | _, h, g, hg, v :: vs, o => below_cells (h.setCell (p := ⟨g, o, none⟩) hg v) hg vs (o + 1)
theorem lies_offs {g' : Nat} {t : TypeId} {cs : Array Value} : ∀ {w : World} (_ : Lies w g' t cs) {g : Nat} (_ : g' ≠ g) (vs : List Value) (o : Nat), Lies (w.setCells g o vs) g' t cs
  | _, h, _, _, [], _ => h
  | _, h, g, hg, v :: vs, o => lies_offs (h.far (p := ⟨g, o, none⟩) hg v) hg vs (o + 1)
theorem ein_offs {X : Nat → Prop} {A : Option Addr} (t : Te) : ∀ {w : World} (_ : EIn w X t A) {g : Nat} (_ : ¬ X g) (vs : List Value) (o : Nat), EIn (w.setCells g o vs) X t A
  | _, h, _, _, [], _ => h
  | _, h, g, hg, v :: vs, o => ein_offs t (EIn.setCell t h ⟨g, o, none⟩ v hg) hg vs (o + 1)
theorem elin_offs {X : Nat → Prop} {A : Option Addr} (l : List Te) {i : Nat} {w : World} (h : ELIn w X l A i) {g : Nat} (hg : ¬ X g) (vs : List Value) (o : Nat) : ELIn (w.setCells g o vs) X l A i :=
  ELIn.keep l h fun g' j hX _ => by
    have hne : g' ≠ g := fun e => hg (e ▸ hX)
    refine ⟨?_, hX⟩
    have : ∀ (vs : List Value) (w : World) (o : Nat), (w.setCells g o vs).cell? ⟨g', j, none⟩ = w.cell? ⟨g', j, none⟩ := by
      intro vs
      induction vs with
      | nil => intro w o; rfl
      | cons v vs ih =>
        intro w o
        show ((w.setCell ⟨g, o, none⟩ v).setCells g (o + 1) vs).cell? _ = _
        rw [ih]
        exact World.cell?_setCell_other w ⟨g, o, none⟩ ⟨g', j, none⟩ v (fun e => by injection e with e; exact hne e.symm)
    exact this vs w o
theorem size_cells : ∀ (w : World) (g : Nat) (vs : List Value) (o : Nat), (w.setCells g o vs).heap.size = w.heap.size
  | w, g, [], o => rfl
  | w, g, v :: vs, o => by
    show ((w.setCell ⟨g, o, none⟩ v).setCells g (o + 1) vs).heap.size = _
    rw [size_cells]
    simp [World.setCell]
/-- A store of a whole struct, the world behind it a letter. -/
theorem wp_store_as {P : Program} {op : Oper} {a : Act} {w : World} {K : Act → World → Prop} {Q : Exit → Act → World → Prop} (F : World → Prop) (ty : TypeId) (x y : Operand) (ho : op.op = .store ty x y)
    (b o : Nat) (cells : Array Value) (hx : a.eval x = .pointer (some ⟨b, o, none⟩)) (hy : a.eval y = .agg cells)
    (ht : w.there b o cells.size) (hi : (P.info? ty).map (·.size) = some cells.size) (h1 : cells.all (·.oneCell') = true) (hF : F (w.setCells b o cells.toList))
    (h : ∀ W, F W → K (a.put op.dst undef) W) : op.wp P a w K Q := wp_store_mid ty x y ho b o cells hx hy ht hi h1 (h _ hF)
theorem below_on {a b c : World} (h : Below a.heap.size a b) (k : Below b.heap.size b c) : Below a.heap.size a c := h.trans (k.mono h.size)
end Lx
end Go.Proofs.Ytcgiloccmehbeaa
namespace Go.Proofs.Ytcgiloccmehbeaa
open Go.RowKit
namespace Lx
set_option maxRecDepth 100000
theorem binders_any (k n : Int) (s : ByteArray) (A : Option Addr) (m c : Nat) (w : World) :
    Calls Try.prog 33 #[.agg #[.int .i64 k, .int .i64 n, .string s, .slice A m c]] w fun e w' => e = .returned (.int .i64 (moreE k n)) ∧ Below w.heap.size w w' := by
  have hb : Below w.heap.size w (w.alloc (.cells #[.int .i64 k, .int .i64 n, .string s, .slice A m c] 24)) := (Below.refl _ w).alloc (Nat.le_refl _) _
  rcases (by omega : k = 2 ∨ k = 6 ∨ (k ≠ 2 ∧ k ≠ 6)) with rfl | rfl | ⟨h2, h6⟩
  · go_enter Try.func33, Try.ntmps33
    go_wp2_with fail
    go_ret
    exact ⟨rfl, hb⟩
  · go_enter Try.func33, Try.ntmps33
    go_wp2_with fail
    go_ret
    exact ⟨rfl, hb⟩
  · have e2 : (k == 2) = false := by simpa using h2
    have e6 : (k == 6) = false := by simpa using h6
    have HE : Hid (moreE k n = 0) := by
      refine Lib.hid ?_
      simp [moreE, h2, h6]
    clear h2 h6
    go_enter Try.func33, Try.ntmps33
    go_wp2_with fail
    go_ret
    exact ⟨ret_int HE.out.symm, hb⟩
theorem more_any (k n : Int) (s : ByteArray) (A : Option Addr) (m c : Nat) (w : World) :
    Calls Try.prog 30 #[.agg #[.int .i64 k, .int .i64 n, .string s, .slice A m c]] w fun e w' => e = .returned (.int .i64 (moreE k n)) ∧ Below w.heap.size w w' := by
  have hb : Below w.heap.size w (w.alloc (.cells #[.int .i64 k, .int .i64 n, .string s, .slice A m c] 24)) := (Below.refl _ w).alloc (Nat.le_refl _) _
  rcases (by omega : k = 2 ∨ k = 6 ∨ (k ≠ 2 ∧ k ≠ 6)) with rfl | rfl | ⟨h2, h6⟩
  · go_enter Try.func30, Try.ntmps30
    go_wp2_with fail
    go_ret
    exact ⟨rfl, hb⟩
  · go_enter Try.func30, Try.ntmps30
    go_wp2_with fail
    go_ret
    exact ⟨rfl, hb⟩
  · have e2 : (k == 2) = false := by simpa using h2
    have e6 : (k == 6) = false := by simpa using h6
    have HE : Hid (moreE k n = 0) := by
      refine Lib.hid ?_
      simp [moreE, h2, h6]
    clear h2 h6
    go_enter Try.func30, Try.ntmps30
    go_wp2_with fail
    go_ret
    exact ⟨ret_int HE.out.symm, hb⟩
end Lx
end Go.Proofs.Ytcgiloccmehbeaa
namespace Go.Proofs.Ytcgiloccmehbeaa
open Go.RowKit
namespace Lx
set_option maxRecDepth 100000
/-- subst.change answers what is told of each of these parts. -/
def ChOk (fv : Value) (F : Int → ByteArray → Int → Te) (w0 : World) (t : Te) (b : Int) : Prop :=
  ∀ (A : Option Addr) (c : Nat) (W : World), Below w0.heap.size w0 W → EIn W Any t A → Calls Try.prog 28 #[ev t A c, .int .i64 b, fv] W (GivesE (chE F t b) W)
theorem chE_kind (F : Int → ByteArray → Int → Te) (k n : Int) (s : ByteArray) (l : List Te) (b : Int) (h : k ≠ 1) : chE F (.node k n s l) b = .node k n s (chEL F l (b + moreE k n)) := by rw [chE, if_neg h]
theorem ev_eta (t : Te) (A : Option Addr) (c : Nat) : ∃ u : Te, u = t ∧ ev t A c = .agg #[.int .i64 u.kind, .int .i64 u.n, .string u.name, .slice A u.parts.length (capF u.parts.length c)] := ⟨t, rfl, rfl⟩
set_option maxHeartbeats 2000000 in
theorem chAll_any (fv : Value) (F : Int → ByteArray → Int → Te) (w0 : World) (l : List Te) (A : Option Addr) (c : Nat) (b : Int) (w : World)
    (hlen : l.length ≤ 1000000000000) (hI : ELIn w Any l A 0) (hw : Below w0.heap.size w0 w) (hc : ∀ t ∈ l, ChOk fv F w0 t b) :
    Calls Try.prog 39 #[.slice A l.length c, .int .i64 b, fv] w fun e w' => ∃ A' c', e = .returned (.slice A' l.length (capF l.length c')) ∧ ELIn w' (fun g => w.heap.size ≤ g) (chEL F l b) A' 0 ∧ Below w.heap.size w w' := by
  obtain ⟨m, hm⟩ : ∃ m, m = l.length := ⟨_, rfl⟩
  rw [← hm] at hlen ⊢
  have hm1 : m ≤ l.length := by omega
  have hm2 : l.length ≤ m := by omega
  have HI := Lib.hid hI
  have HC := Lib.hid hc
  have HW := Lib.hid hw
  have HM := Lib.hid hm
  clear hI hc hw hm
  by_cases hm0 : m = 0
  · subst hm0
    go_enter Try.func39, Try.ntmps39
    go_wp2_with fail
    go_ret
    have hl : l = [] := List.eq_nil_of_length_eq_zero (by omega)
    refine ⟨none, 0, rfl, ?_, Below.refl _ _⟩
    rw [hl, chEL, ELIn]; trivial
  · have hmp : (0 : Int) < (m : Int) := by omega
    have hne : ((m : Int) == 0) = false := by simp; omega
    obtain ⟨i0, hi0, hz0', hz1, hz2⟩ : ∃ i, Try.prog.info? 24 = some i ∧ i.zero = some (.agg #[.int .i64 0, .int .i64 0, .string ⟨#[]⟩, .slice none 0 0]) ∧ i.size = 4 ∧ i.bytes = 56 := by
      have h := infoE
      cases hq : Try.prog.info? 24 with
      | none => rw [hq] at h; cases h
      | some i => rw [hq] at h; simp only [Option.map_some, Option.some.injEq, Prod.mk.injEq] at h; exact ⟨i, rfl, h.1, h.2.1, h.2.2⟩
    have hmk := fun W => run_make_rowE (P := Try.prog) 22 24 i0 _ Try.underlying22 hi0 hz0' .i64 .i64 m m (Nat.le_refl _) (by rw [hz2]; omega) (by omega) W
    rw [hz1] at hmk
    clear hi0 hz0' hz1 hz2
    go_enter Try.func39, Try.ntmps39
    go_wp2_with fail
    obtain ⟨W1, hW1⟩ : ∃ W, W = w.alloc (.cells (madeCells #[.int .i64 0, .int .i64 0, .string ⟨#[]⟩, .slice none 0 0] (m * 4)) 24) := ⟨_, rfl⟩
    have hr1 : RowF W1 w.heap.size m [] := by rw [hW1]; exact RowF.fresh w m
    have hb1 : Below w.heap.size w W1 := by rw [hW1]; exact (Below.refl _ w).alloc (Nat.le_refl _) _
    obtain ⟨G, hG⟩ : ∃ G, G = w.heap.size := ⟨_, rfl⟩
    rw [← hW1, ← hG]
    rw [← hG] at hr1 hb1
    have HG := Lib.hid hG
    clear hW1 hmk hG
    go_loopw [18] (fun x wr => ∃ i : Nat, i ≤ m ∧ x = .int .i64 i ∧ RowF wr G m (chEL F (l.take i) b) ∧ Below G w wr) (fun x _ => m - (intOf x).toNat)
    case atStart => exact ⟨0, by omega, rfl, by simpa [chEL] using hr1, hb1⟩
    case round =>
      obtain ⟨i, hi, rfl, hrow, hbw⟩ := hrel
      have hGlt := hrow.lt
      by_cases hlt : i < m
      · have hia : i < l.length := by omega
        have hbw' := hbw
        rw [HG.out] at hbw'
        obtain ⟨g, o, A', c', ⟨hA, _⟩, d0, d1, d2, d3, hIn⟩ := ELIn.at_ l (ELIn.keep l HI.out fun g j _ hlt => ⟨hbw'.cell (p := ⟨g, j, none⟩) hlt, trivial⟩) i hia
        subst hA
        have HS := Lib.hid (chEL_take F l i b hia)
        have hc := HC.out _ (List.getElem_mem hia)
        simp only [Nat.zero_add] at d0 d1 d2 d3
        obtain ⟨tr, hu⟩ : ∃ tr, tr = l[i]'hia := ⟨_, rfl⟩
        rw [← hu] at d0 d1 d2 d3 hIn hc HS
        clear hu hbw'
        obtain ⟨tk, tn, ts, tl⟩ := tr
        simp only [Te.kind, Te.n, Te.name, Te.parts] at d0 d1 d2 d3
        have hWb : Below wr.heap.size wr (wr.alloc (.cells #[.int .i64 tk, .int .i64 tn, .string ts, .slice A' tl.length (capF tl.length c')] 24)) := (Below.refl _ wr).alloc (Nat.le_refl _) _
        have hcw := hc A' c' (wr.alloc (.cells #[.int .i64 tk, .int .i64 tn, .string ts, .slice A' tl.length (capF tl.length c')] 24)) (HW.out.trans ((hbw.trans (hWb.mono (by have := hbw.size; have := HG.out; omega))).mono (by have := HW.out.size; have := HG.out; omega))) (EIn.below _ hIn hWb (Nat.le_refl _))
        have HCW := Lib.hid hcw
        have HB := Lib.hid hbw
        have HR := Lib.hid hrow
        clear hcw hc hIn hbw hrow
        go_wp2_with fail
        refine HCW.out.mono ?_
        rintro e w2 ⟨A2, c2, rfl, hT2, hb2⟩
        obtain ⟨u, hu⟩ : ∃ u, u = chE F (.node tk tn ts tl) b := ⟨_, rfl⟩
        rw [← hu] at hT2 HS ⊢
        clear hu
        obtain ⟨uk, un, us, ul⟩ := u
        simp only [ev, Te.kind, Te.n, Te.name, Te.parts]
        have hWs := hWb.size
        have hrow2 := (HR.out.below hWb (Nat.le_refl _)).below hb2 (Nat.le_refl _)
        have hbw2 := (HB.out.trans (hWb.mono (by omega))).trans (hb2.mono (by omega))
        have hT3 : EIn w2 (fun g => G < g) (.node uk un us ul) A2 := EIn.wide _ hT2 fun b hb _ => by have hb' : _ ≤ b := hb; omega
        obtain ⟨y0, x0, g0⟩ := hrow2.cell i 0 hlt (by omega)
        obtain ⟨y1, x1, g1⟩ := hrow2.cell i 1 hlt (by omega)
        obtain ⟨y2, x2, g2⟩ := hrow2.cell i 2 hlt (by omega)
        obtain ⟨y3, x3, g3⟩ := hrow2.cell i 3 hlt (by omega)
        simp only [Nat.add_zero] at x0 g0
        have hil : (chEL F (l.take i) b).length = i := by rw [chEL_length]; simp; omega
        have HIL := Lib.hid hil
        have HT := Lib.hid hT3
        have HR2 := Lib.hid hrow2
        have HB2 := Lib.hid hbw2
        clear hil hT3 hT2 hrow2 hbw2 hb2 hWb hWs
        go_wp2_with fail
        go_roundw
        case rel =>
          refine ⟨i + 1, by omega, by go_num, ?_, Below.four HB2.out (Nat.le_refl _) _ _ _ _ _⟩
          rw [HS.out]
          have h := HR2.out.put (.node uk un us ul) A2 c2 (by rw [HIL.out]; exact hlt) HT.out
          rw [HIL.out] at h
          exact h
        case measure => simp [intOf]; omega
      · have HB := Lib.hid hbw
        have HR := Lib.hid hrow
        clear hbw hrow
        go_wp2_with fail
        go_ret
        obtain rfl : i = m := by omega
        have hrow := HR.out
        rw [List.take_of_length_le (by omega)] at hrow
        have hil : (chEL F l b).length = i := by rw [chEL_length]; omega
        rw [← hil] at hrow
        refine ⟨some ⟨G, 0, none⟩, i, ?_, ?_, ?_⟩
        · rw [capF_of (Nat.le_refl i)]; rfl
        · exact ELIn.keep _ (hrow.parts (Y := fun g => w.heap.size ≤ g) (fun g hg => by have := HG.out; omega)) fun g j hX _ => ⟨rfl, hX⟩
        · have := HB.out; rw [HG.out] at this; exact this
end Lx
end Go.Proofs.Ytcgiloccmehbeaa
namespace Go.Proofs.Ytcgiloccmehbeaa
open Go.RowKit
namespace Lx
set_option maxRecDepth 100000
/-- What is told of a variable: a term of its own, or the variable with another number. -/
def ClosP (F : Int → ByteArray → Int → Te) (n : Int) (s : ByteArray) (A : Option Addr) (c : Nat) (b : Int) (W : World) (e : Ending) (w' : World) : Prop :=
  Below W.heap.size W w' ∧ ((∃ A' c', e = .returned (.tuple #[ev (F n s b) A' c', .bool true]) ∧ EIn w' (fun g => W.heap.size ≤ g) (F n s b) A') ∨
    (∃ n', e = .returned (.tuple #[.agg #[.int .i64 1, .int .i64 n', .string s, .slice A 0 c], .bool false]) ∧ (-9223372036854775808 ≤ n' ∧ n' ≤ 9223372036854775807) ∧ F n s b = .node 1 n' s []))
/-- What becomes of a variable is told by the function K, with what it holds behind. -/
def ClosE (K : Nat) (cap : Array Value) (F : Int → ByteArray → Int → Te) (w0 : World) : Prop :=
  ∀ (n : Int) (s : ByteArray) (A : Option Addr) (c : Nat) (b : Int) (W : World), Below w0.heap.size w0 W → s.size ≤ 140737488351232 → -1099511627776 ≤ n → n ≤ 1099511627776 → -8796093022208000 ≤ b → b ≤ 8796093022208000 →
    Calls Try.prog K (#[.agg #[.int .i64 1, .int .i64 n, .string s, .slice A 0 c], .int .i64 b] ++ cap) W (ClosP F n s A c b W)
theorem ein_mk {w : World} {X : Nat → Prop} {k n : Int} {s : ByteArray} {l : List Te} {A : Option Addr} (hs : s.size ≤ 140737488351232) (h0 : -9223372036854775808 ≤ n) (h1 : n ≤ 9223372036854775807) (hl : l.length ≤ 140737488351232) (h : ELIn w X l A 0) : EIn w X (.node k n s l) A := by
  rw [EIn]; exact ⟨⟨hs, h0, h1⟩, hl, h⟩
set_option maxHeartbeats 4000000 in
theorem ch_var (K : Nat) (cap : Array Value) (F : Int → ByteArray → Int → Te) (w0 : World) (hen : ∀ args w, (callFunc K args).run Try.prog w = .ok (.enter K args) w) (hcl : ClosE K cap F w0)
    (n : Int) (s : ByteArray) (A : Option Addr) (c : Nat) (b : Int) (w : World) (hw : Below w0.heap.size w0 w) (hs : s.size ≤ 140737488351232) (h0 : -1099511627776 ≤ n) (h1 : n ≤ 1099511627776) (h2 : -8796093022208000 ≤ b) (h3 : b ≤ 8796093022208000) :
    Calls Try.prog 28 #[.agg #[.int .i64 1, .int .i64 n, .string s, .slice A 0 c], .int .i64 b, .func (.func K) #[] cap] w (GivesE (F n s b) w) := by
  obtain ⟨W, hW⟩ : ∃ W, W = (w.alloc (.cells #[.int .i64 1, .int .i64 n, .string s, .slice A 0 c] 24)).alloc (.cells #[.int .i64 0, .int .i64 0, .string ⟨#[]⟩, .slice none 0 0] 24) := ⟨_, rfl⟩
  have hb : Below w.heap.size w W := by rw [hW]; exact ((Below.refl _ w).alloc (Nat.le_refl _) _).alloc (by simp) _
  have hz : W.heap.size = w.heap.size + 2 := by rw [hW]; simp
  have l3 : Lies W w.heap.size 24 #[.int .i64 1, .int .i64 n, .string s, .slice A 0 c] := by rw [hW]; exact (Lies.new w _ _).old _
  have l6 : Lies W (w.heap.size + 1) 24 #[.int .i64 0, .int .i64 0, .string ⟨#[]⟩, .slice none 0 0] := by
    rw [hW]; simpa using Lies.new (w.alloc (.cells #[.int .i64 1, .int .i64 n, .string s, .slice A 0 c] 24)) 24 #[.int .i64 0, .int .i64 0, .string ⟨#[]⟩, .slice none 0 0]
  have HC := Lib.hid (hcl n s A c b W (hw.trans (hb.mono hw.size)) hs h0 h1 h2 h3)
  rw [hW] at HC
  go_enter Try.func28, Try.ntmps28
  go_wp2_with fail
  refine HC.out.mono ?_
  rw [← hW]
  clear HC hcl hW
  rintro e w2 ⟨hb2, ⟨A', c', rfl, hT⟩ | ⟨n', rfl, hn', hF⟩⟩
  · obtain ⟨u, hu⟩ : ∃ u, u = F n s b := ⟨_, rfl⟩
    have HU := Lib.hid hu
    rw [← hu] at hT ⊢
    clear hu
    obtain ⟨uk, un, us, ul⟩ := u
    simp only [ev, Te.kind, Te.n, Te.name, Te.parts]
    have l6b := (l6.below hb2 (by omega)).old (.cells #[.int .i64 uk, .int .i64 un, .string us, .slice A' ul.length (capF ul.length c')] 24)
    obtain ⟨⟨x0, x1, x2, x3⟩, g0, g1, g2, g3⟩ := l6b.four
    have hbw := hb.trans (hb2.mono (by omega))
    have hbs := hbw.size
    go_wp2_with fail
    refine bodyPost_ret (res_term (p := 6) Try.results28 rfl (l6b.all _ _ _ _)) rfl ⟨A', c', by rw [← HU.out]; rfl, ?_, Below.all (hbw.alloc hbs _) (by omega) _ _ _ _⟩
    rw [← HU.out]
    refine EIn.keep _ hT fun g j hX hlt => ?_
    have hX' : W.heap.size ≤ g := hX
    have hne : ∀ q, (⟨w.heap.size + 1, q, none⟩ : Addr) ≠ ⟨g, j, none⟩ := fun q e => by injection e with e; omega
    refine ⟨?_, by omega⟩
    rw [World.cell?_setCell_other _ _ _ _ (hne _), World.cell?_setCell_other _ _ _ _ (hne _), World.cell?_setCell_other _ _ _ _ (hne _), World.cell?_setCell_other _ _ _ _ (hne _)]
    exact World.cell?_alloc_lt _ _ _ hlt
  · have l3b := (l3.below hb2 (by omega)).old (.cells #[.int .i64 1, .int .i64 n', .string s, .slice A 0 c] 24)
    have l6b := (l6.below hb2 (by omega)).old (.cells #[.int .i64 1, .int .i64 n', .string s, .slice A 0 c] 24)
    have hbw := hb.trans (hb2.mono (by omega))
    have hbs := hbw.size
    have hbw := hbw.alloc hbs (.cells #[.int .i64 1, .int .i64 n', .string s, .slice A 0 c] 24)
    have hs2 := hb2.size
    obtain ⟨⟨x0, x1, x2, x3⟩, g0, g1, g2, g3⟩ := l3b.four
    go_upto_region 6 with fail
    have l3c := l3b.all (.int .i64 1) (.int .i64 n') (.string s) (.slice A 0 c)
    have l6c := l6b.far4 (G := w.heap.size) (by omega) 0 (.int .i64 1) (.int .i64 n') (.string s) (.slice A 0 c)
    have hb8 := Below.four hbw (G := w.heap.size) (Nat.le_refl _) 0 (.int .i64 1) (.int .i64 n') (.string s) (.slice A 0 c)
    clear l3b l6b hbw x0 x1 x2 x3 g0 g1 g2 g3 l3 l6 hb2 hb hen
    simp only [Nat.zero_add] at l6c hb8
    generalize ((((w2.alloc (.cells #[.int .i64 1, .int .i64 n', .string s, .slice A 0 c] 24)).setCell ⟨w.heap.size, 0, none⟩ (.int .i64 1)).setCell ⟨w.heap.size, 1, none⟩ (.int .i64 n')).setCell ⟨w.heap.size, 2, none⟩ (.string s)).setCell ⟨w.heap.size, 3, none⟩ (.slice A 0 c) = V8 at l3c l6c hb8 ⊢
    have l3 := l3c
    have l6 := l6c
    clear l3c l6c
    have hz8 := l6.lt
    obtain ⟨mo, hmo⟩ : ∃ mo, mo = moreE 1 n' := ⟨_, rfl⟩
    have hmo0 : mo = 0 := by rw [hmo]; simp [moreE]
    have hm0 : 0 ≤ mo := by omega
    have hm1 : mo ≤ 0 := by omega
    have HCL : Hid (∀ X, Below V8.heap.size V8 X → Calls Try.prog 38 #[.string s] X fun e w' => e = .returned (.string s) ∧ Below X.heap.size X w') := Lib.hid fun X _ => clone_any s X (by omega)
    have HBI : Hid (∀ X, Below V8.heap.size V8 X → Calls Try.prog 33 #[.agg #[.int .i64 1, .int .i64 n', .string s, .slice A 0 c]] X fun e w' => e = .returned (.int .i64 mo) ∧ Below X.heap.size X w') := Lib.hid fun X _ => by rw [hmo]; exact binders_any 1 n' s A 0 c X
    have HAL : Hid (∀ X, Below V8.heap.size V8 X → Calls Try.prog 39 #[.slice A 0 c, .int .i64 (b + mo), .func (.func K) #[] cap] X fun e w' => ∃ A' c', e = .returned (.slice A' 0 (capF 0 c')) ∧ ELIn w' (fun g => X.heap.size ≤ g) (chEL F [] (b + mo)) A' 0 ∧ Below X.heap.size X w') := Lib.hid fun X hX =>
      chAll_any (.func (.func K) #[] cap) F w0 [] A c (b + mo) X (by simp) (by rw [ELIn]; trivial) ((hw.trans (hb8.mono hw.size)).trans (hX.mono (by have := hw.size; omega))) (fun t ht => by simp at ht)
    obtain ⟨b3, hb3⟩ : ∃ b3, b3 = w.heap.size := ⟨_, rfl⟩
    obtain ⟨b6, hb6⟩ : ∃ b6, b6 = w.heap.size + 1 := ⟨_, rfl⟩
    rw [← hb3] at l3
    rw [← hb6] at l6
    rw [← hb6, ← hb3]
    have e31 : b3 ≤ w.heap.size := by omega
    have e32 : w.heap.size ≤ b3 := by omega
    have e61 : b6 ≤ w.heap.size + 1 := by omega
    have e62 : w.heap.size + 1 ≤ b6 := by omega
    clear hb3 hb6
    have HF := Lib.hid hF
    have HW := Lib.hid hw
    have HN := Lib.hid hn'
    clear hF hw hmo hmo0 hn'
    have HS : Hid (∀ V', Below V8.heap.size V8 V' → (fun V' : World => (V'.cell? ⟨b3, 0, none⟩ = some (.int .i64 1) ∧ V'.cell? ⟨b3, 1, none⟩ = some (.int .i64 n') ∧ V'.cell? ⟨b3, 2, none⟩ = some (.string s) ∧ V'.cell? ⟨b3, 3, none⟩ = some (.slice A 0 c))) V') := Lib.hid fun V' h =>
      ⟨(h.cell (p := ⟨b3, 0, none⟩) l3.lt).trans (l3.cell 0), (h.cell (p := ⟨b3, 1, none⟩) l3.lt).trans (l3.cell 1), (h.cell (p := ⟨b3, 2, none⟩) l3.lt).trans (l3.cell 2), (h.cell (p := ⟨b3, 3, none⟩) l3.lt).trans (l3.cell 3)⟩
    have HB8 := Lib.hid hb8
    have HL3 := Lib.hid l3
    have hs8 := hb8.size
    clear hb8 l3
    have hb_1 : Below V8.heap.size V8 V8 := Below.refl _ _
    refine wp_region_K (S := (fun V' : World => (V'.cell? ⟨b3, 0, none⟩ = some (.int .i64 1) ∧ V'.cell? ⟨b3, 1, none⟩ = some (.int .i64 n') ∧ V'.cell? ⟨b3, 2, none⟩ = some (.string s) ∧ V'.cell? ⟨b3, 3, none⟩ = some (.slice A 0 c)))) 16 rfl (HS.out _ hb_1.drew) (fun hSs => ?_)
    change wpAnyK _ _ _ _ _ _ 17 (Array.replicate 17 false) _ _
    refine wpAnyK_take (i := 0) (oi := ⟨some 22, _, _, _, _, _⟩) (v := .pointer (some ⟨b3, 0, none⟩)) rfl (by kernel_rfl) (by kernel_rfl) (by kernel_rfl) (by kernel_rfl) (fun _ _ _ h => h) (.inl ⟨by kernel_rfl, fun W hW => by first | (obtain ⟨z0, z1, z2, z3⟩ := hW; go_simp; done) | (obtain ⟨z0, z1, z2, z3⟩ := hW; go_simp; omega) | (obtain ⟨z0, z1, z2, z3⟩ := hW; go_simp; exact IntWalk.i64_in _ (by omega)) | (obtain ⟨z0, z1, z2, z3⟩ := hW; go_simp; simp [*]; done)⟩) hSs ?_
    try simp only [Act.put, List.setIfInBounds_toArray, List.set_cons_zero, List.set_cons_succ]
    refine wpAnyK_take (i := 1) (oi := ⟨some 23, _, _, _, _, _⟩) (v := .int .i64 1) rfl (by kernel_rfl) (by kernel_rfl) (by kernel_rfl) (by kernel_rfl) (fun _ _ _ h => h) (.inl ⟨by kernel_rfl, fun W hW => by first | (obtain ⟨z0, z1, z2, z3⟩ := hW; go_simp; done) | (obtain ⟨z0, z1, z2, z3⟩ := hW; go_simp; omega) | (obtain ⟨z0, z1, z2, z3⟩ := hW; go_simp; exact IntWalk.i64_in _ (by omega)) | (obtain ⟨z0, z1, z2, z3⟩ := hW; go_simp; simp [*]; done)⟩) hSs ?_
    try simp only [Act.put, List.setIfInBounds_toArray, List.set_cons_zero, List.set_cons_succ]
    refine wpAnyK_take (i := 2) (oi := ⟨some 24, _, _, _, _, _⟩) (v := .pointer (some ⟨b3, 1, none⟩)) rfl (by kernel_rfl) (by kernel_rfl) (by kernel_rfl) (by kernel_rfl) (fun _ _ _ h => h) (.inl ⟨by kernel_rfl, fun W hW => by first | (obtain ⟨z0, z1, z2, z3⟩ := hW; go_simp; done) | (obtain ⟨z0, z1, z2, z3⟩ := hW; go_simp; omega) | (obtain ⟨z0, z1, z2, z3⟩ := hW; go_simp; exact IntWalk.i64_in _ (by omega)) | (obtain ⟨z0, z1, z2, z3⟩ := hW; go_simp; simp [*]; done)⟩) hSs ?_
    try simp only [Act.put, List.setIfInBounds_toArray, List.set_cons_zero, List.set_cons_succ]
    refine wpAnyK_take (i := 3) (oi := ⟨some 25, _, _, _, _, _⟩) (v := .int .i64 n') rfl (by kernel_rfl) (by kernel_rfl) (by kernel_rfl) (by kernel_rfl) (fun _ _ _ h => h) (.inl ⟨by kernel_rfl, fun W hW => by first | (obtain ⟨z0, z1, z2, z3⟩ := hW; go_simp; done) | (obtain ⟨z0, z1, z2, z3⟩ := hW; go_simp; omega) | (obtain ⟨z0, z1, z2, z3⟩ := hW; go_simp; exact IntWalk.i64_in _ (by omega)) | (obtain ⟨z0, z1, z2, z3⟩ := hW; go_simp; simp [*]; done)⟩) hSs ?_
    try simp only [Act.put, List.setIfInBounds_toArray, List.set_cons_zero, List.set_cons_succ]
    refine wpAnyK_take (i := 4) (oi := ⟨some 26, _, _, _, _, _⟩) (v := .pointer (some ⟨b3, 2, none⟩)) rfl (by kernel_rfl) (by kernel_rfl) (by kernel_rfl) (by kernel_rfl) (fun _ _ _ h => h) (.inl ⟨by kernel_rfl, fun W hW => by first | (obtain ⟨z0, z1, z2, z3⟩ := hW; go_simp; done) | (obtain ⟨z0, z1, z2, z3⟩ := hW; go_simp; omega) | (obtain ⟨z0, z1, z2, z3⟩ := hW; go_simp; exact IntWalk.i64_in _ (by omega)) | (obtain ⟨z0, z1, z2, z3⟩ := hW; go_simp; simp [*]; done)⟩) hSs ?_
    try simp only [Act.put, List.setIfInBounds_toArray, List.set_cons_zero, List.set_cons_succ]
    refine wpAnyK_take (i := 5) (oi := ⟨some 27, _, _, _, _, _⟩) (v := .string s) rfl (by kernel_rfl) (by kernel_rfl) (by kernel_rfl) (by kernel_rfl) (fun _ _ _ h => h) (.inl ⟨by kernel_rfl, fun W hW => by first | (obtain ⟨z0, z1, z2, z3⟩ := hW; go_simp; done) | (obtain ⟨z0, z1, z2, z3⟩ := hW; go_simp; omega) | (obtain ⟨z0, z1, z2, z3⟩ := hW; go_simp; exact IntWalk.i64_in _ (by omega)) | (obtain ⟨z0, z1, z2, z3⟩ := hW; go_simp; simp [*]; done)⟩) hSs ?_
    try simp only [Act.put, List.setIfInBounds_toArray, List.set_cons_zero, List.set_cons_succ]
    refine wpAnyK_take (i := 7) (oi := ⟨some 29, _, _, _, _, _⟩) (v := .pointer (some ⟨b3, 3, none⟩)) rfl (by kernel_rfl) (by kernel_rfl) (by kernel_rfl) (by kernel_rfl) (fun _ _ _ h => h) (.inl ⟨by kernel_rfl, fun W hW => by first | (obtain ⟨z0, z1, z2, z3⟩ := hW; go_simp; done) | (obtain ⟨z0, z1, z2, z3⟩ := hW; go_simp; omega) | (obtain ⟨z0, z1, z2, z3⟩ := hW; go_simp; exact IntWalk.i64_in _ (by omega)) | (obtain ⟨z0, z1, z2, z3⟩ := hW; go_simp; simp [*]; done)⟩) hSs ?_
    try simp only [Act.put, List.setIfInBounds_toArray, List.set_cons_zero, List.set_cons_succ]
    refine wpAnyK_take (i := 8) (oi := ⟨some 30, _, _, _, _, _⟩) (v := .slice A 0 c) rfl (by kernel_rfl) (by kernel_rfl) (by kernel_rfl) (by kernel_rfl) (fun _ _ _ h => h) (.inl ⟨by kernel_rfl, fun W hW => by first | (obtain ⟨z0, z1, z2, z3⟩ := hW; go_simp; done) | (obtain ⟨z0, z1, z2, z3⟩ := hW; go_simp; omega) | (obtain ⟨z0, z1, z2, z3⟩ := hW; go_simp; exact IntWalk.i64_in _ (by omega)) | (obtain ⟨z0, z1, z2, z3⟩ := hW; go_simp; simp [*]; done)⟩) hSs ?_
    try simp only [Act.put, List.setIfInBounds_toArray, List.set_cons_zero, List.set_cons_succ]
    refine wpAnyK_take (i := 9) (oi := ⟨some 31, _, _, _, _, _⟩) (v := .int .i64 b) rfl (by kernel_rfl) (by kernel_rfl) (by kernel_rfl) (by kernel_rfl) (fun _ _ _ h => h) (.inl ⟨by kernel_rfl, fun W hW => by kernel_rfl⟩) hSs ?_
    try simp only [Act.put, List.setIfInBounds_toArray, List.set_cons_zero, List.set_cons_succ]
    refine wpAnyK_take (i := 10) (oi := ⟨some 32, _, _, _, _, _⟩) (v := .agg #[.int .i64 1, .int .i64 n', .string s, .slice A 0 c]) rfl (by kernel_rfl) (by kernel_rfl) (by kernel_rfl) (by kernel_rfl) (fun _ _ _ h => h) (.inl ⟨by kernel_rfl, fun W hW => by first | (obtain ⟨z0, z1, z2, z3⟩ := hW; go_simp; done) | (obtain ⟨z0, z1, z2, z3⟩ := hW; go_simp; omega) | (obtain ⟨z0, z1, z2, z3⟩ := hW; go_simp; exact IntWalk.i64_in _ (by omega)) | (obtain ⟨z0, z1, z2, z3⟩ := hW; go_simp; simp [*]; done)⟩) hSs ?_
    try simp only [Act.put, List.setIfInBounds_toArray, List.set_cons_zero, List.set_cons_succ]
    refine wpAnyK_take (i := 13) (oi := ⟨some 35, _, _, _, _, _⟩) (v := (.func (.func K) #[] cap)) rfl (by kernel_rfl) (by kernel_rfl) (by kernel_rfl) (by kernel_rfl) (fun _ _ _ h => h) (.inl ⟨by kernel_rfl, fun W hW => by kernel_rfl⟩) hSs ?_
    try simp only [Act.put, List.setIfInBounds_toArray, List.set_cons_zero, List.set_cons_succ]
    refine wpAnyK_one (i := 6) rfl rfl (by kernel_rfl) (fun K hK => ?_)
    go_simp
    refine (HCL.out _ (hb_1.drew) ).mono ?_
    rintro e u_2 ⟨rfl, hq_2⟩
    have hb_2 := (hb_1.drew).trans (hq_2.mono (hb_1.drew).size)
    have l6_2 := (l6.drew).below hq_2 l6.lt
    refine hK.out _ _ (fun _ => HS.out _ hb_2) (fun hS9 => ?_)
    have hS_2 := hS9 (by decide)
    clear hK K hS9
    try simp only [Act.put, List.setIfInBounds_toArray, List.set_cons_zero, List.set_cons_succ]
    refine wpAnyK_one (i := 11) rfl rfl (by kernel_rfl) (fun K hK => ?_)
    go_simp
    refine (HBI.out _ hb_2 ).mono ?_
    rintro e u_3 ⟨rfl, hq_3⟩
    have hb_3 := hb_2.trans (hq_3.mono hb_2.size)
    have l6_2_3 := l6_2.below hq_3 l6_2.lt
    refine hK.out _ _ (fun _ => HS.out _ hb_3) (fun hS9 => ?_)
    have hS_3 := hS9 (by decide)
    clear hK K hS9
    try simp only [Act.put, List.setIfInBounds_toArray, List.set_cons_zero, List.set_cons_succ]
    refine wpAnyK_take (i := 12) (oi := ⟨some 34, _, _, _, _, _⟩) (v := .int .i64 (b + mo)) rfl (by kernel_rfl) (by kernel_rfl) (by kernel_rfl) (by kernel_rfl) (fun _ _ _ h => h) (.inl ⟨by kernel_rfl, fun W hW => by first | (obtain ⟨z0, z1, z2, z3⟩ := hW; go_simp; done) | (obtain ⟨z0, z1, z2, z3⟩ := hW; go_simp; omega) | (obtain ⟨z0, z1, z2, z3⟩ := hW; go_simp; exact IntWalk.i64_in _ (by omega)) | (obtain ⟨z0, z1, z2, z3⟩ := hW; go_simp; simp [*]; done)⟩) hS_3 ?_
    try simp only [Act.put, List.setIfInBounds_toArray, List.set_cons_zero, List.set_cons_succ]
    refine wpAnyK_one (i := 14) rfl rfl (by kernel_rfl) (fun K hK => ?_)
    have hX_4 := hb_3.size
    go_simp
    refine (HAL.out _ hb_3 ).mono ?_
    rintro e u_4 ⟨A2_4, c2_4, rfl, hT_4, hq_4⟩
    have hb_4 := hb_3.trans (hq_4.mono hb_3.size)
    have l6_2_3_4 := l6_2_3.below hq_4 l6_2_3.lt
    refine hK.out _ _ (fun _ => HS.out _ hb_4) (fun hS9 => ?_)
    have hS_4 := hS9 (by decide)
    clear hK K hS9
    try simp only [Act.put, List.setIfInBounds_toArray, List.set_cons_zero, List.set_cons_succ]
    refine wpAnyK_take (i := 15) (oi := ⟨some 37, _, _, _, _, _⟩) (v := .agg #[.int .i64 1, .int .i64 n', .string s, .slice A2_4 0 (capF 0 c2_4)]) rfl (by kernel_rfl) (by kernel_rfl) (by kernel_rfl) (by kernel_rfl) (fun _ _ _ h => h) (.inl ⟨by kernel_rfl, fun W hW => by first | (obtain ⟨z0, z1, z2, z3⟩ := hW; go_simp; done) | (obtain ⟨z0, z1, z2, z3⟩ := hW; go_simp; omega) | (obtain ⟨z0, z1, z2, z3⟩ := hW; go_simp; exact IntWalk.i64_in _ (by omega)) | (obtain ⟨z0, z1, z2, z3⟩ := hW; go_simp; simp [*]; done)⟩) hS_4 ?_
    try simp only [Act.put, List.setIfInBounds_toArray, List.set_cons_zero, List.set_cons_succ]
    refine wpAnyK_one (i := 16) rfl rfl (by kernel_rfl) (fun K hK => ?_)
    have hz_5 := hb_4.size
    have hT9_5 : ELIn u_4 (fun g => w.heap.size + 2 ≤ g) (chEL F [] (b + mo)) A2_4 0 := ELIn.keep _ hT_4 fun g j hX _ => ⟨rfl, by have h9 : _ ≤ g := hX; omega⟩
    refine wp_store_as (F := fun W9 => Below w.heap.size w W9 ∧ Lies W9 b6 24 #[.int .i64 1, .int .i64 n', .string s, .slice A2_4 0 (capF 0 c2_4)] ∧ ELIn W9 (fun g => w.heap.size + 2 ≤ g) (chEL F [] (b + mo)) A2_4 0) _ _ _ rfl b6 0 #[.int .i64 1, .int .i64 n', .string s, .slice A2_4 0 (capF 0 c2_4)] rfl rfl (lies_is l6_2_3_4 rfl) (by kernel_rfl) (by simp [Value.oneCell']) ⟨below_cells (HB8.out.trans (hb_4.mono HB8.out.size)) (by omega) _ _, lies_set4 l6_2_3_4 _ _ _ _, elin_offs _ hT9_5 (fun h => by have h9 : _ ≤ b6 := h; omega) _ _⟩ (fun W_5 hF_5 => ?_)
    refine hK.out _ _ (fun h => absurd rfl h) (fun _ => ?_)
    clear hK K
    try simp only [Act.put, List.setIfInBounds_toArray]
    refine wpAnyK_done (by kernel_rfl) ?_ _
    obtain ⟨f1, f2, f3⟩ := hF_5
    have f4 := f2.cell 0
    have f5 := f2.cell 1
    have f6 := f2.cell 2
    have f7 := f2.cell 3
    simp at f4 f5 f6 f7
    go_wp2_with fail
    refine bodyPost_ret (res_term (p := 6) Try.results28 rfl f2) rfl ⟨A2_4, c2_4, ?_, ?_, f1⟩
    · rw [HF.out]; rfl
    · rw [HF.out]
      exact ein_mk (by omega) HN.out.1 HN.out.2 (by simp) (by rw [ELIn]; trivial)
set_option maxHeartbeats 4000000 in
theorem ch_node (K : Nat) (cap : Array Value) (F : Int → ByteArray → Int → Te) (w0 : World)
    (k n : Int) (s : ByteArray) (l : List Te) (A : Option Addr) (c : Nat) (b mo : Int) (w : World) (hw : Below w0.heap.size w0 w) (hk : k ≠ 1) (hI : EIn w Any (.node k n s l) A) (hsz : l.length ≤ 1000000000000)
    (hmo : moreE k n = mo) (h0 : -9223372036854775808 ≤ b + mo) (h1 : b + mo ≤ 9223372036854775807) (hc : ∀ t ∈ l, ChOk (.func (.func K) #[] cap) F w0 t (b + mo)) :
    Calls Try.prog 28 #[.agg #[.int .i64 k, .int .i64 n, .string s, .slice A l.length c], .int .i64 b, .func (.func K) #[] cap] w (GivesE (.node k n s (chEL F l (b + mo))) w) := by
  rw [EIn] at hI
  obtain ⟨⟨hs, hn0, hn1⟩, hlen, hI⟩ := hI
  obtain ⟨W, hW⟩ : ∃ W, W = (w.alloc (.cells #[.int .i64 k, .int .i64 n, .string s, .slice A l.length c] 24)).alloc (.cells #[.int .i64 0, .int .i64 0, .string ⟨#[]⟩, .slice none 0 0] 24) := ⟨_, rfl⟩
  have hb8 : Below w.heap.size w W := by rw [hW]; exact ((Below.refl _ w).alloc (Nat.le_refl _) _).alloc (by simp) _
  have l3 : Lies W w.heap.size 24 #[.int .i64 k, .int .i64 n, .string s, .slice A l.length c] := by rw [hW]; exact (Lies.new w _ _).old _
  have l6 : Lies W (w.heap.size + 1) 24 #[.int .i64 0, .int .i64 0, .string ⟨#[]⟩, .slice none 0 0] := by
    rw [hW]; simpa using Lies.new (w.alloc (.cells #[.int .i64 k, .int .i64 n, .string s, .slice A l.length c] 24)) 24 #[.int .i64 0, .int .i64 0, .string ⟨#[]⟩, .slice none 0 0]
  have hk1 : (k == 1) = false := by simpa using hk
  obtain ⟨m, hm⟩ : ∃ m, m = l.length := ⟨_, rfl⟩
  have HI := Lib.hid hI
  have HC := Lib.hid hc
  have HM := Lib.hid hm
  rw [← hm] at l3 hsz hlen hW ⊢
  clear hI hc hm hk
  go_enter Try.func28, Try.ntmps28
  go_upto_region 6 with fail
  rw [← hW]
  clear hW
  generalize hV : W = V8 at l3 l6 hb8 ⊢
  clear hV W
  have hz8 := l6.lt
  have HCL : Hid (∀ X, Below V8.heap.size V8 X → Calls Try.prog 38 #[.string s] X fun e w' => e = .returned (.string s) ∧ Below X.heap.size X w') := Lib.hid fun X _ => clone_any s X (by omega)
  have HBI : Hid (∀ X, Below V8.heap.size V8 X → Calls Try.prog 33 #[.agg #[.int .i64 k, .int .i64 n, .string s, .slice A m c]] X fun e w' => e = .returned (.int .i64 mo) ∧ Below X.heap.size X w') := Lib.hid fun X _ => by rw [← hmo]; exact binders_any k n s A m c X
  have HAL : Hid (∀ X, Below V8.heap.size V8 X → Calls Try.prog 39 #[.slice A m c, .int .i64 (b + mo), .func (.func K) #[] cap] X fun e w' => ∃ A' c', e = .returned (.slice A' m (capF m c')) ∧ ELIn w' (fun g => X.heap.size ≤ g) (chEL F l (b + mo)) A' 0 ∧ Below X.heap.size X w') := Lib.hid fun X hX => by
    have hX2 : Below w.heap.size w X := hb8.trans (hX.mono hb8.size)
    have h := chAll_any (.func (.func K) #[] cap) F w0 l A c (b + mo) X (by rw [← HM.out]; exact hsz) (ELIn.keep _ HI.out fun g j _ hlt => ⟨hX2.cell (p := ⟨g, j, none⟩) hlt, trivial⟩) (hw.trans (hX2.mono hw.size)) HC.out
    rw [← HM.out] at h
    exact h
  obtain ⟨b3, hb3⟩ : ∃ b3, b3 = w.heap.size := ⟨_, rfl⟩
  obtain ⟨b6, hb6⟩ : ∃ b6, b6 = w.heap.size + 1 := ⟨_, rfl⟩
  rw [← hb3] at l3
  rw [← hb6] at l6
  rw [← hb6, ← hb3]
  have e31 : b3 ≤ w.heap.size := by omega
  have e32 : w.heap.size ≤ b3 := by omega
  have e61 : b6 ≤ w.heap.size + 1 := by omega
  have e62 : w.heap.size + 1 ≤ b6 := by omega
  clear hb3 hb6
  have HW := Lib.hid hw
  clear hw hmo hk1
  have HS : Hid (∀ V', Below V8.heap.size V8 V' → (fun V' : World => (V'.cell? ⟨b3, 0, none⟩ = some (.int .i64 k) ∧ V'.cell? ⟨b3, 1, none⟩ = some (.int .i64 n) ∧ V'.cell? ⟨b3, 2, none⟩ = some (.string s) ∧ V'.cell? ⟨b3, 3, none⟩ = some (.slice A m c))) V') := Lib.hid fun V' h =>
    ⟨(h.cell (p := ⟨b3, 0, none⟩) l3.lt).trans (l3.cell 0), (h.cell (p := ⟨b3, 1, none⟩) l3.lt).trans (l3.cell 1), (h.cell (p := ⟨b3, 2, none⟩) l3.lt).trans (l3.cell 2), (h.cell (p := ⟨b3, 3, none⟩) l3.lt).trans (l3.cell 3)⟩
  have HB8 := Lib.hid hb8
  have HL3 := Lib.hid l3
  have hs8 := hb8.size
  clear hb8 l3
  have hb_1 : Below V8.heap.size V8 V8 := Below.refl _ _
  refine wp_region_K (S := (fun V' : World => (V'.cell? ⟨b3, 0, none⟩ = some (.int .i64 k) ∧ V'.cell? ⟨b3, 1, none⟩ = some (.int .i64 n) ∧ V'.cell? ⟨b3, 2, none⟩ = some (.string s) ∧ V'.cell? ⟨b3, 3, none⟩ = some (.slice A m c)))) 16 rfl (HS.out _ hb_1.drew) (fun hSs => ?_)
  change wpAnyK _ _ _ _ _ _ 17 (Array.replicate 17 false) _ _
  refine wpAnyK_take (i := 0) (oi := ⟨some 22, _, _, _, _, _⟩) (v := .pointer (some ⟨b3, 0, none⟩)) rfl (by kernel_rfl) (by kernel_rfl) (by kernel_rfl) (by kernel_rfl) (fun _ _ _ h => h) (.inl ⟨by kernel_rfl, fun W hW => by first | (obtain ⟨z0, z1, z2, z3⟩ := hW; go_simp; done) | (obtain ⟨z0, z1, z2, z3⟩ := hW; go_simp; omega) | (obtain ⟨z0, z1, z2, z3⟩ := hW; go_simp; exact IntWalk.i64_in _ (by omega)) | (obtain ⟨z0, z1, z2, z3⟩ := hW; go_simp; simp [*]; done)⟩) hSs ?_
  try simp only [Act.put, List.setIfInBounds_toArray, List.set_cons_zero, List.set_cons_succ]
  refine wpAnyK_take (i := 1) (oi := ⟨some 23, _, _, _, _, _⟩) (v := .int .i64 k) rfl (by kernel_rfl) (by kernel_rfl) (by kernel_rfl) (by kernel_rfl) (fun _ _ _ h => h) (.inl ⟨by kernel_rfl, fun W hW => by first | (obtain ⟨z0, z1, z2, z3⟩ := hW; go_simp; done) | (obtain ⟨z0, z1, z2, z3⟩ := hW; go_simp; omega) | (obtain ⟨z0, z1, z2, z3⟩ := hW; go_simp; exact IntWalk.i64_in _ (by omega)) | (obtain ⟨z0, z1, z2, z3⟩ := hW; go_simp; simp [*]; done)⟩) hSs ?_
  try simp only [Act.put, List.setIfInBounds_toArray, List.set_cons_zero, List.set_cons_succ]
  refine wpAnyK_take (i := 2) (oi := ⟨some 24, _, _, _, _, _⟩) (v := .pointer (some ⟨b3, 1, none⟩)) rfl (by kernel_rfl) (by kernel_rfl) (by kernel_rfl) (by kernel_rfl) (fun _ _ _ h => h) (.inl ⟨by kernel_rfl, fun W hW => by first | (obtain ⟨z0, z1, z2, z3⟩ := hW; go_simp; done) | (obtain ⟨z0, z1, z2, z3⟩ := hW; go_simp; omega) | (obtain ⟨z0, z1, z2, z3⟩ := hW; go_simp; exact IntWalk.i64_in _ (by omega)) | (obtain ⟨z0, z1, z2, z3⟩ := hW; go_simp; simp [*]; done)⟩) hSs ?_
  try simp only [Act.put, List.setIfInBounds_toArray, List.set_cons_zero, List.set_cons_succ]
  refine wpAnyK_take (i := 3) (oi := ⟨some 25, _, _, _, _, _⟩) (v := .int .i64 n) rfl (by kernel_rfl) (by kernel_rfl) (by kernel_rfl) (by kernel_rfl) (fun _ _ _ h => h) (.inl ⟨by kernel_rfl, fun W hW => by first | (obtain ⟨z0, z1, z2, z3⟩ := hW; go_simp; done) | (obtain ⟨z0, z1, z2, z3⟩ := hW; go_simp; omega) | (obtain ⟨z0, z1, z2, z3⟩ := hW; go_simp; exact IntWalk.i64_in _ (by omega)) | (obtain ⟨z0, z1, z2, z3⟩ := hW; go_simp; simp [*]; done)⟩) hSs ?_
  try simp only [Act.put, List.setIfInBounds_toArray, List.set_cons_zero, List.set_cons_succ]
  refine wpAnyK_take (i := 4) (oi := ⟨some 26, _, _, _, _, _⟩) (v := .pointer (some ⟨b3, 2, none⟩)) rfl (by kernel_rfl) (by kernel_rfl) (by kernel_rfl) (by kernel_rfl) (fun _ _ _ h => h) (.inl ⟨by kernel_rfl, fun W hW => by first | (obtain ⟨z0, z1, z2, z3⟩ := hW; go_simp; done) | (obtain ⟨z0, z1, z2, z3⟩ := hW; go_simp; omega) | (obtain ⟨z0, z1, z2, z3⟩ := hW; go_simp; exact IntWalk.i64_in _ (by omega)) | (obtain ⟨z0, z1, z2, z3⟩ := hW; go_simp; simp [*]; done)⟩) hSs ?_
  try simp only [Act.put, List.setIfInBounds_toArray, List.set_cons_zero, List.set_cons_succ]
  refine wpAnyK_take (i := 5) (oi := ⟨some 27, _, _, _, _, _⟩) (v := .string s) rfl (by kernel_rfl) (by kernel_rfl) (by kernel_rfl) (by kernel_rfl) (fun _ _ _ h => h) (.inl ⟨by kernel_rfl, fun W hW => by first | (obtain ⟨z0, z1, z2, z3⟩ := hW; go_simp; done) | (obtain ⟨z0, z1, z2, z3⟩ := hW; go_simp; omega) | (obtain ⟨z0, z1, z2, z3⟩ := hW; go_simp; exact IntWalk.i64_in _ (by omega)) | (obtain ⟨z0, z1, z2, z3⟩ := hW; go_simp; simp [*]; done)⟩) hSs ?_
  try simp only [Act.put, List.setIfInBounds_toArray, List.set_cons_zero, List.set_cons_succ]
  refine wpAnyK_take (i := 7) (oi := ⟨some 29, _, _, _, _, _⟩) (v := .pointer (some ⟨b3, 3, none⟩)) rfl (by kernel_rfl) (by kernel_rfl) (by kernel_rfl) (by kernel_rfl) (fun _ _ _ h => h) (.inl ⟨by kernel_rfl, fun W hW => by first | (obtain ⟨z0, z1, z2, z3⟩ := hW; go_simp; done) | (obtain ⟨z0, z1, z2, z3⟩ := hW; go_simp; omega) | (obtain ⟨z0, z1, z2, z3⟩ := hW; go_simp; exact IntWalk.i64_in _ (by omega)) | (obtain ⟨z0, z1, z2, z3⟩ := hW; go_simp; simp [*]; done)⟩) hSs ?_
  try simp only [Act.put, List.setIfInBounds_toArray, List.set_cons_zero, List.set_cons_succ]
  refine wpAnyK_take (i := 8) (oi := ⟨some 30, _, _, _, _, _⟩) (v := .slice A m c) rfl (by kernel_rfl) (by kernel_rfl) (by kernel_rfl) (by kernel_rfl) (fun _ _ _ h => h) (.inl ⟨by kernel_rfl, fun W hW => by first | (obtain ⟨z0, z1, z2, z3⟩ := hW; go_simp; done) | (obtain ⟨z0, z1, z2, z3⟩ := hW; go_simp; omega) | (obtain ⟨z0, z1, z2, z3⟩ := hW; go_simp; exact IntWalk.i64_in _ (by omega)) | (obtain ⟨z0, z1, z2, z3⟩ := hW; go_simp; simp [*]; done)⟩) hSs ?_
  try simp only [Act.put, List.setIfInBounds_toArray, List.set_cons_zero, List.set_cons_succ]
  refine wpAnyK_take (i := 9) (oi := ⟨some 31, _, _, _, _, _⟩) (v := .int .i64 b) rfl (by kernel_rfl) (by kernel_rfl) (by kernel_rfl) (by kernel_rfl) (fun _ _ _ h => h) (.inl ⟨by kernel_rfl, fun W hW => by kernel_rfl⟩) hSs ?_
  try simp only [Act.put, List.setIfInBounds_toArray, List.set_cons_zero, List.set_cons_succ]
  refine wpAnyK_take (i := 10) (oi := ⟨some 32, _, _, _, _, _⟩) (v := .agg #[.int .i64 k, .int .i64 n, .string s, .slice A m c]) rfl (by kernel_rfl) (by kernel_rfl) (by kernel_rfl) (by kernel_rfl) (fun _ _ _ h => h) (.inl ⟨by kernel_rfl, fun W hW => by first | (obtain ⟨z0, z1, z2, z3⟩ := hW; go_simp; done) | (obtain ⟨z0, z1, z2, z3⟩ := hW; go_simp; omega) | (obtain ⟨z0, z1, z2, z3⟩ := hW; go_simp; exact IntWalk.i64_in _ (by omega)) | (obtain ⟨z0, z1, z2, z3⟩ := hW; go_simp; simp [*]; done)⟩) hSs ?_
  try simp only [Act.put, List.setIfInBounds_toArray, List.set_cons_zero, List.set_cons_succ]
  refine wpAnyK_take (i := 13) (oi := ⟨some 35, _, _, _, _, _⟩) (v := (.func (.func K) #[] cap)) rfl (by kernel_rfl) (by kernel_rfl) (by kernel_rfl) (by kernel_rfl) (fun _ _ _ h => h) (.inl ⟨by kernel_rfl, fun W hW => by kernel_rfl⟩) hSs ?_
  try simp only [Act.put, List.setIfInBounds_toArray, List.set_cons_zero, List.set_cons_succ]
  refine wpAnyK_one (i := 6) rfl rfl (by kernel_rfl) (fun K hK => ?_)
  go_simp
  refine (HCL.out _ (hb_1.drew) ).mono ?_
  rintro e u_2 ⟨rfl, hq_2⟩
  have hb_2 := (hb_1.drew).trans (hq_2.mono (hb_1.drew).size)
  have l6_2 := (l6.drew).below hq_2 l6.lt
  refine hK.out _ _ (fun _ => HS.out _ hb_2) (fun hS9 => ?_)
  have hS_2 := hS9 (by decide)
  clear hK K hS9
  try simp only [Act.put, List.setIfInBounds_toArray, List.set_cons_zero, List.set_cons_succ]
  refine wpAnyK_one (i := 11) rfl rfl (by kernel_rfl) (fun K hK => ?_)
  go_simp
  refine (HBI.out _ hb_2 ).mono ?_
  rintro e u_3 ⟨rfl, hq_3⟩
  have hb_3 := hb_2.trans (hq_3.mono hb_2.size)
  have l6_2_3 := l6_2.below hq_3 l6_2.lt
  refine hK.out _ _ (fun _ => HS.out _ hb_3) (fun hS9 => ?_)
  have hS_3 := hS9 (by decide)
  clear hK K hS9
  try simp only [Act.put, List.setIfInBounds_toArray, List.set_cons_zero, List.set_cons_succ]
  refine wpAnyK_take (i := 12) (oi := ⟨some 34, _, _, _, _, _⟩) (v := .int .i64 (b + mo)) rfl (by kernel_rfl) (by kernel_rfl) (by kernel_rfl) (by kernel_rfl) (fun _ _ _ h => h) (.inl ⟨by kernel_rfl, fun W hW => by first | (obtain ⟨z0, z1, z2, z3⟩ := hW; go_simp; done) | (obtain ⟨z0, z1, z2, z3⟩ := hW; go_simp; omega) | (obtain ⟨z0, z1, z2, z3⟩ := hW; go_simp; exact IntWalk.i64_in _ (by omega)) | (obtain ⟨z0, z1, z2, z3⟩ := hW; go_simp; simp [*]; done)⟩) hS_3 ?_
  try simp only [Act.put, List.setIfInBounds_toArray, List.set_cons_zero, List.set_cons_succ]
  refine wpAnyK_one (i := 14) rfl rfl (by kernel_rfl) (fun K hK => ?_)
  have hX_4 := hb_3.size
  go_simp
  refine (HAL.out _ hb_3 ).mono ?_
  rintro e u_4 ⟨A2_4, c2_4, rfl, hT_4, hq_4⟩
  have hb_4 := hb_3.trans (hq_4.mono hb_3.size)
  have l6_2_3_4 := l6_2_3.below hq_4 l6_2_3.lt
  refine hK.out _ _ (fun _ => HS.out _ hb_4) (fun hS9 => ?_)
  have hS_4 := hS9 (by decide)
  clear hK K hS9
  try simp only [Act.put, List.setIfInBounds_toArray, List.set_cons_zero, List.set_cons_succ]
  refine wpAnyK_take (i := 15) (oi := ⟨some 37, _, _, _, _, _⟩) (v := .agg #[.int .i64 k, .int .i64 n, .string s, .slice A2_4 m (capF m c2_4)]) rfl (by kernel_rfl) (by kernel_rfl) (by kernel_rfl) (by kernel_rfl) (fun _ _ _ h => h) (.inl ⟨by kernel_rfl, fun W hW => by first | (obtain ⟨z0, z1, z2, z3⟩ := hW; go_simp; done) | (obtain ⟨z0, z1, z2, z3⟩ := hW; go_simp; omega) | (obtain ⟨z0, z1, z2, z3⟩ := hW; go_simp; exact IntWalk.i64_in _ (by omega)) | (obtain ⟨z0, z1, z2, z3⟩ := hW; go_simp; simp [*]; done)⟩) hS_4 ?_
  try simp only [Act.put, List.setIfInBounds_toArray, List.set_cons_zero, List.set_cons_succ]
  refine wpAnyK_one (i := 16) rfl rfl (by kernel_rfl) (fun K hK => ?_)
  have hz_5 := hb_4.size
  have hT9_5 : ELIn u_4 (fun g => w.heap.size + 2 ≤ g) (chEL F l (b + mo)) A2_4 0 := ELIn.keep _ hT_4 fun g j hX _ => ⟨rfl, by have h9 : _ ≤ g := hX; omega⟩
  refine wp_store_as (F := fun W9 => Below w.heap.size w W9 ∧ Lies W9 b6 24 #[.int .i64 k, .int .i64 n, .string s, .slice A2_4 m (capF m c2_4)] ∧ ELIn W9 (fun g => w.heap.size + 2 ≤ g) (chEL F l (b + mo)) A2_4 0) _ _ _ rfl b6 0 #[.int .i64 k, .int .i64 n, .string s, .slice A2_4 m (capF m c2_4)] rfl rfl (lies_is l6_2_3_4 rfl) (by kernel_rfl) (by simp [Value.oneCell']) ⟨below_cells (HB8.out.trans (hb_4.mono HB8.out.size)) (by omega) _ _, lies_set4 l6_2_3_4 _ _ _ _, elin_offs _ hT9_5 (fun h => by have h9 : _ ≤ b6 := h; omega) _ _⟩ (fun W_5 hF_5 => ?_)
  refine hK.out _ _ (fun h => absurd rfl h) (fun _ => ?_)
  clear hK K
  try simp only [Act.put, List.setIfInBounds_toArray]
  refine wpAnyK_done (by kernel_rfl) ?_ _
  obtain ⟨f1, f2, f3⟩ := hF_5
  have f4 := f2.cell 0
  have f5 := f2.cell 1
  have f6 := f2.cell 2
  have f7 := f2.cell 3
  simp at f4 f5 f6 f7
  go_wp2_with fail
  refine bodyPost_ret (res_term (p := 6) Try.results28 rfl f2) rfl ⟨A2_4, c2_4, ?_, ?_, f1⟩
  · have hm := HM.out
    rw [ev]
    simp only [Te.kind, Te.n, Te.name, Te.parts, chEL_length]
    rw [← hm]
    try rfl
  · exact ein_mk hs hn0 hn1 (by rw [chEL_length, ← HM.out]; omega) (ELIn.keep _ f3 fun g j hX _ => ⟨rfl, by have h9 : _ ≤ g := hX; omega⟩)
theorem ch_any (K : Nat) (cap : Array Value) (F : Int → ByteArray → Int → Te) (w0 : World) (hen : ∀ args w, (callFunc K args).run Try.prog w = .ok (.enter K args) w) (hcl : ClosE K cap F w0) (d : Nat) :
    ∀ (t : Te) (b : Int), depthE t ≤ d → d ≤ 4000 → sizeE t ≤ 1000000000000 → tameE 1099511627776 1099511627776 t → -(1099511627776 * (8000 - (d : Int))) ≤ b → b ≤ 1099511627776 * (8000 - (d : Int)) → ChOk (.func (.func K) #[] cap) F w0 t b := by
  induction d with
  | zero => intro t b h; have := depthE_pos t; omega
  | succ d ih =>
    intro t b hd hd4 hs ht h0 h1 A c W hW hI
    obtain ⟨k, n, s, l⟩ := t
    rw [tameE] at ht
    rw [depthE] at hd
    rw [sizeE] at hs
    have hlen := sizeEL_len l
    simp only [ev, Te.kind, Te.n, Te.name, Te.parts]
    by_cases hk : k = 1
    · subst hk
      have ht1 := ht.1 rfl
      obtain rfl := ht1.2.2
      rw [chE, if_pos rfl]
      rw [EIn] at hI
      exact ch_var K cap F w0 hen hcl n s A _ b W hW hI.1.1 ht1.1 ht1.2.1 (by omega) (by omega)
    · have hm : -1099511627776 ≤ moreE k n ∧ moreE k n ≤ 1099511627776 := by
        rw [moreE]
        split
        · omega
        · split
          · rename_i h6; exact ht.2.1 h6
          · omega
      rw [chE, if_neg hk]
      refine ch_node K cap F w0 k n s l A _ b (moreE k n) W hW hk hI (by omega) rfl (by omega) (by omega) fun t htl => ?_
      have h5 := depthEL_mem l t htl
      have h6 := sizeEL_mem l t htl
      exact ih t _ (by omega) (by omega) (by omega) (tameEL_mem l t htl ht.2.2) (by omega) (by omega)
end Lx
end Go.Proofs.Ytcgiloccmehbeaa
namespace Go.Proofs.Ytcgiloccmehbeaa
open Go.RowKit
namespace Lx
set_option maxRecDepth 100000
theorem res_term2 {fn : Func} {p q : Tmp} (h : fn.results = #[.cell p 24, .tmp q]) {tmps : Array Value} {g : Nat} {a b c d : Value} {w : World} (hp : tmps.getD p undef = .pointer (some ⟨g, 0, none⟩)) (L : Lies w g 24 #[a, b, c, d]) :
    (results fn tmps).run Try.prog w = .ok (.tuple #[.agg #[a, b, c, d], tmps.getD q undef]) w := by
  have hl := run_loadVar_row (P := Try.prog) w g 24 24 #[a, b, c, d] (0, 0) _ L Try.underlying24 rfl (by kernel_rfl)
  have hp' : tmps[p]?.getD undef = .pointer (some ⟨g, 0, none⟩) := by simpa using hp
  simp only [results, h]
  simp [hp', asAddr, hl]
theorem below2_new {w : World} (o o' : Obj) : Below w.heap.size w ((w.alloc o).alloc o') := ((Below.refl _ w).alloc (Nat.le_refl _) _).alloc (by simp) _
/-- An answer is stored in the result's box. -/
theorem gives_all {u : Te} {A2 : Option Addr} {c2 : Nat} {w W w2 : World} {g : Nat} (hT : EIn w2 (fun b => W.heap.size ≤ b) u A2) (h0 : w.heap.size ≤ g) (h1 : g < W.heap.size) (hb : Below w.heap.size w w2) (a b c d : Value) :
    GivesE u w (.returned (ev u A2 c2)) ((((w2.setCell ⟨g, 0, none⟩ a).setCell ⟨g, 1, none⟩ b).setCell ⟨g, 2, none⟩ c).setCell ⟨g, 3, none⟩ d) := by
  refine ⟨A2, c2, rfl, EIn.keep _ hT fun g' j hX _ => ?_, Below.all hb h0 _ _ _ _⟩
  have hX' : W.heap.size ≤ g' := hX
  have hne : ∀ q, (⟨g, q, none⟩ : Addr) ≠ ⟨g', j, none⟩ := fun q e => by injection e with e; omega
  refine ⟨?_, by omega⟩
  rw [World.cell?_setCell_other _ _ _ _ (hne _), World.cell?_setCell_other _ _ _ _ (hne _), World.cell?_setCell_other _ _ _ _ (hne _), World.cell?_setCell_other _ _ _ _ (hne _)]
set_option maxHeartbeats 1000000 in
theorem up1_any (by_ from_ : Int) (gf gb : Nat) (w0 : World) (hgf : gf < w0.heap.size) (hgb : gb < w0.heap.size) (cf : w0.cell? ⟨gf, 0, none⟩ = some (.int .i64 from_)) (cb : w0.cell? ⟨gb, 0, none⟩ = some (.int .i64 by_))
    (h0 : -9007199254740992 ≤ by_) (h1 : by_ ≤ 9007199254740992) (h2 : -9007199254740992 ≤ from_) (h3 : from_ ≤ 9007199254740992) :
    ClosE 29 #[.pointer (some ⟨gf, 0, none⟩), .pointer (some ⟨gb, 0, none⟩)] (fun n s b => upF by_ n s (from_ + b)) w0 := by
  intro n s A c b W hW hs n0 n1 b0 b1
  have c1 := (hW.cell (p := ⟨gf, 0, none⟩) hgf).trans cf
  have c2 := (hW.cell (p := ⟨gb, 0, none⟩) hgb).trans cb
  have l2 : gf < W.heap.size := by have := hW.size; omega
  have l3 : gb < W.heap.size := by have := hW.size; omega
  clear hW cf cb hgf hgb
  show Calls Try.prog 29 #[.agg #[.int .i64 1, .int .i64 n, .string s, .slice A 0 c], .int .i64 b, .pointer (some ⟨gf, 0, none⟩), .pointer (some ⟨gb, 0, none⟩)] W _
  have hl : ∀ x : Int, Lies ((W.alloc (.cells #[.int .i64 1, .int .i64 x, .string s, .slice A 0 c] 24)).alloc (.cells #[.int .i64 1, .int .i64 x, .string s, .slice A 0 c] 24)) (W.heap.size + 1) 24 #[.int .i64 1, .int .i64 x, .string s, .slice A 0 c] := fun x => by
    simpa using Lies.new (W.alloc (.cells #[.int .i64 1, .int .i64 x, .string s, .slice A 0 c] 24)) 24 #[.int .i64 1, .int .i64 x, .string s, .slice A 0 c]
  have HL := Lib.hid hl
  clear hl
  by_cases hc : from_ + b ≤ n
  · go_enter Try.func29, Try.ntmps29
    go_wp2_with fail
    exact bodyPost_ret (res_term2 (p := 6) (q := 7) Try.results29 rfl (HL.out _)) rfl ⟨below2_new _ _, .inr ⟨_, rfl, ⟨by omega, by omega⟩, by simp only [upF]; rw [if_pos hc]⟩⟩
  · go_enter Try.func29, Try.ntmps29
    go_wp2_with fail
    exact bodyPost_ret (res_term2 (p := 6) (q := 7) Try.results29 rfl (HL.out _)) rfl ⟨below2_new _ _, .inr ⟨_, rfl, ⟨by omega, by omega⟩, by simp only [upF]; rw [if_neg (by omega)]⟩⟩
set_option maxHeartbeats 1000000 in
theorem up_any (t : Te) (A : Option Addr) (c : Nat) (by_ from_ : Int) (w : World) (hI : EIn w Any t A) (hd : depthE t ≤ 4000) (hs : sizeE t ≤ 1000000000000) (ht : tameE 1099511627776 1099511627776 t)
    (h0 : -9007199254740992 ≤ by_) (h1 : by_ ≤ 9007199254740992) (h2 : -9007199254740992 ≤ from_) (h3 : from_ ≤ 9007199254740992) :
    Calls Try.prog 13 #[ev t A c, .int .i64 by_, .int .i64 from_] w (GivesE (upE t by_ from_) w) := by
  obtain ⟨k, n, s, l⟩ := t
  show Calls Try.prog 13 #[.agg #[.int .i64 k, .int .i64 n, .string s, .slice A l.length (capF l.length c)], .int .i64 by_, .int .i64 from_] w _
  obtain ⟨W, hW⟩ : ∃ W, W = (((w.alloc (.cells #[.int .i64 k, .int .i64 n, .string s, .slice A l.length (capF l.length c)] 24)).alloc (.cells #[.int .i64 by_] 3)).alloc (.cells #[.int .i64 from_] 3)).alloc (.cells #[.int .i64 0, .int .i64 0, .string ⟨#[]⟩, .slice none 0 0] 24) := ⟨_, rfl⟩
  have hb : Below w.heap.size w W := by rw [hW]; exact ((((Below.refl _ w).alloc (Nat.le_refl _) _).alloc (by simp) _).alloc (by simp; omega) _).alloc (by simp; omega) _
  have hz : W.heap.size = w.heap.size + 4 := by rw [hW]; simp
  have lb : Lies W (w.heap.size + 1) 3 #[.int .i64 by_] := by
    rw [hW]; refine Lies.old (Lies.old ?_ _) _; simpa using Lies.new (w.alloc (.cells #[.int .i64 k, .int .i64 n, .string s, .slice A l.length (capF l.length c)] 24)) 3 #[.int .i64 by_]
  have lf : Lies W (w.heap.size + 1 + 1) 3 #[.int .i64 from_] := by
    rw [hW]; refine Lies.old ?_ _; simpa using Lies.new ((w.alloc (.cells #[.int .i64 k, .int .i64 n, .string s, .slice A l.length (capF l.length c)] 24)).alloc (.cells #[.int .i64 by_] 3)) 3 #[.int .i64 from_]
  have lz : Lies W (w.heap.size + 1 + 1 + 1) 24 #[.int .i64 0, .int .i64 0, .string ⟨#[]⟩, .slice none 0 0] := by
    rw [hW]; simpa using Lies.new (((w.alloc (.cells #[.int .i64 k, .int .i64 n, .string s, .slice A l.length (capF l.length c)] 24)).alloc (.cells #[.int .i64 by_] 3)).alloc (.cells #[.int .i64 from_] 3)) 24 #[.int .i64 0, .int .i64 0, .string ⟨#[]⟩, .slice none 0 0]
  have hcl := up1_any by_ from_ (w.heap.size + 1 + 1) (w.heap.size + 1) W lf.lt lb.lt (lf.cell 0) (lb.cell 0) h0 h1 h2 h3
  have hch := ch_any _ _ _ W (enters_of Try.func29 (by kernel_rfl) rfl) hcl (depthE (.node k n s l)) (.node k n s l) 0 (Nat.le_refl _) hd hs ht (by omega) (by omega) A c W (Below.refl _ _) (EIn.below _ hI hb (Nat.le_refl _))
  rw [up_from] at hch
  have HCH := Lib.hid hch
  have HU : Hid (GivesE (upE (.node k n s l) by_ from_) w = GivesE (upE (.node k n s l) by_ from_) w) := Lib.hid rfl
  generalize upE (.node k n s l) by_ from_ = U at HCH
  clear hch hcl ht hs hd hI lb lf HU
  rw [hW] at HCH
  go_enter Try.func13, Try.ntmps13
  go_wp2_with fail
  refine HCH.out.mono ?_
  rw [← hW]
  clear HCH hW
  rintro e w2 ⟨A2, c2, rfl, hT, hb2⟩
  obtain ⟨uk, un, us, ul⟩ := U
  simp only [ev, Te.kind, Te.n, Te.name, Te.parts]
  have lz2 := lz.below hb2 lz.lt
  have hbw := hb.trans (hb2.mono hb.size)
  obtain ⟨⟨x0, x1, x2, x3⟩, g0, g1, g2, g3⟩ := lz2.four
  have HT := Lib.hid hT
  clear hT hb2 hb
  go_wp2_with fail
  exact bodyPost_ret (res_term (p := 6) Try.results13 rfl (lz2.all _ _ _ _)) rfl (gives_all HT.out (by omega) lz.lt hbw _ _ _ _)
set_option maxHeartbeats 1000000 in
theorem put1_any (k : Int) (u : Te) (Au : Option Addr) (cu gk gs : Nat) (w0 : World) (hgk : gk < w0.heap.size) (hgs : gs < w0.heap.size) (ck : w0.cell? ⟨gk, 0, none⟩ = some (.int .i64 k))
    (ls : Lies w0 gs 24 #[.int .i64 u.kind, .int .i64 u.n, .string u.name, .slice Au u.parts.length (capF u.parts.length cu)]) (hI : EIn w0 Any u Au)
    (hd : depthE u ≤ 4000) (hs : sizeE u ≤ 1000000000000) (ht : tameE 1099511627776 1099511627776 u) (h0 : -9007199254740992 ≤ k) (h1 : k ≤ 9007199254740992) :
    ClosE 31 #[.pointer (some ⟨gk, 0, none⟩), .pointer (some ⟨gs, 0, none⟩)] (putF k u) w0 := by
  intro n s A c b W hW hss n0 n1 b0 b1
  have c1 := (hW.cell (p := ⟨gk, 0, none⟩) hgk).trans ck
  have l2 : gk < W.heap.size := by have := hW.size; omega
  have ls1 := ls.below hW hgs
  have l3 := ls1.lt
  have hb2 : Below W.heap.size W ((W.alloc (.cells #[.int .i64 1, .int .i64 n, .string s, .slice A 0 c] 24)).alloc (.cells #[.int .i64 0, .int .i64 0, .string ⟨#[]⟩, .slice none 0 0] 24)) := below2_new _ _
  have hup := up_any u Au cu b 0 ((W.alloc (.cells #[.int .i64 1, .int .i64 n, .string s, .slice A 0 c] 24)).alloc (.cells #[.int .i64 0, .int .i64 0, .string ⟨#[]⟩, .slice none 0 0] 24)) (EIn.below _ (EIn.below _ hI hW (Nat.le_refl _)) hb2 (Nat.le_refl _)) hd hs ht (by omega) (by omega) (by omega) (by omega)
  have lz : Lies ((W.alloc (.cells #[.int .i64 1, .int .i64 n, .string s, .slice A 0 c] 24)).alloc (.cells #[.int .i64 0, .int .i64 0, .string ⟨#[]⟩, .slice none 0 0] 24)) (W.heap.size + 1) 24 #[.int .i64 0, .int .i64 0, .string ⟨#[]⟩, .slice none 0 0] := by
    simpa using Lies.new (W.alloc (.cells #[.int .i64 1, .int .i64 n, .string s, .slice A 0 c] 24)) 24 #[.int .i64 0, .int .i64 0, .string ⟨#[]⟩, .slice none 0 0]
  have hl : ∀ x : Int, Lies ((W.alloc (.cells #[.int .i64 1, .int .i64 x, .string s, .slice A 0 c] 24)).alloc (.cells #[.int .i64 1, .int .i64 x, .string s, .slice A 0 c] 24)) (W.heap.size + 1) 24 #[.int .i64 1, .int .i64 x, .string s, .slice A 0 c] := fun x => by
    simpa using Lies.new (W.alloc (.cells #[.int .i64 1, .int .i64 x, .string s, .slice A 0 c] 24)) 24 #[.int .i64 1, .int .i64 x, .string s, .slice A 0 c]
  have HL := Lib.hid hl
  have HU := Lib.hid hup
  have HZ := Lib.hid lz
  have HB := Lib.hid hb2
  have s4 := ls1.four.1
  have hz : ((W.alloc (.cells #[.int .i64 1, .int .i64 n, .string s, .slice A 0 c] 24)).alloc (.cells #[.int .i64 0, .int .i64 0, .string ⟨#[]⟩, .slice none 0 0] 24)).heap.size = W.heap.size + 2 := by simp
  have HZS := Lib.hid hz
  clear hl hup lz hb2 hz hW ck ls hI hd hs ht ls1 hgk hgs
  obtain ⟨uk, un, us, ul⟩ := u
  simp only [Te.kind, Te.n, Te.name, Te.parts] at s4
  obtain ⟨s0, s1, s2, s3⟩ := s4
  show Calls Try.prog 31 #[.agg #[.int .i64 1, .int .i64 n, .string s, .slice A 0 c], .int .i64 b, .pointer (some ⟨gk, 0, none⟩), .pointer (some ⟨gs, 0, none⟩)] W _
  rcases (by omega : n = k + b ∨ k + b < n ∨ n < k + b) with hc | hc | hc
  · have HC := Lib.hid hc
    have hc1 : (n == k + b) = true := by simp; omega
    clear hc
    go_enter Try.func31, Try.ntmps31
    go_wp2_with fail
    refine HU.out.mono ?_
    rintro e w2 ⟨A2, c2, rfl, hT, hb2⟩
    have HF : Hid (putF k (.node uk un us ul) n s b = upE (.node uk un us ul) b 0) := by
      refine Lib.hid ?_
      rw [putF, if_pos HC.out]
    generalize upE (.node uk un us ul) b 0 = U at HF hT ⊢
    obtain ⟨vk, vn, vs, vl⟩ := U
    simp only [ev, Te.kind, Te.n, Te.name, Te.parts]
    have lz2 := HZ.out.below hb2 HZ.out.lt
    have hbw := HB.out.trans (hb2.mono HB.out.size)
    obtain ⟨⟨x0, x1, x2, x3⟩, g0, g1, g2, g3⟩ := lz2.four
    have HT := Lib.hid hT
    have HW := Lib.hid hbw
    clear hT hb2 hbw
    go_wp2_with fail
    refine bodyPost_ret (res_term2 (p := 6) (q := 7) Try.results31 rfl (lz2.all _ _ _ _)) rfl ?_
    obtain ⟨A3, c3, h3, h4, h5⟩ := gives_all (c2 := c2) HT.out (by omega : W.heap.size ≤ W.heap.size + 1) (by have := HZS.out; omega) HW.out (.int .i64 vk) (.int .i64 vn) (.string vs) (.slice A2 vl.length (capF vl.length c2))
    refine ⟨h5, .inl ⟨A2, c2, by rw [HF.out]; rfl, ?_⟩⟩
    rw [HF.out]
    have h6 : A3 = A2 := by injection h3 with h3; injection h3 with h3; simp at h3; exact h3.1.symm
    rw [h6] at h4
    exact h4
  · have hc1 : (n == k + b) = false := by simp; omega
    go_enter Try.func31, Try.ntmps31
    go_wp2_with fail
    exact bodyPost_ret (res_term2 (p := 6) (q := 7) Try.results31 rfl (HL.out _)) rfl ⟨below2_new _ _, .inr ⟨_, rfl, ⟨by omega, by omega⟩, by rw [putF, if_neg (by omega), if_pos (by omega)]⟩⟩
  · have hc1 : (n == k + b) = false := by simp; omega
    go_enter Try.func31, Try.ntmps31
    go_wp2_with fail
    exact bodyPost_ret (res_term2 (p := 6) (q := 7) Try.results31 rfl (HL.out _)) rfl ⟨below2_new _ _, .inr ⟨_, rfl, ⟨by omega, by omega⟩, by rw [putF, if_neg (by omega), if_neg (by omega)]⟩⟩
set_option maxHeartbeats 1000000 in
theorem put_any (t u : Te) (A Au : Option Addr) (c cu : Nat) (k : Int) (w : World) (hI : EIn w Any t A) (hd : depthE t ≤ 4000) (hs : sizeE t ≤ 1000000000000) (ht : tameE 1099511627776 1099511627776 t)
    (hIu : EIn w Any u Au) (hdu : depthE u ≤ 4000) (hsu : sizeE u ≤ 1000000000000) (htu : tameE 1099511627776 1099511627776 u) (h0 : -9007199254740992 ≤ k) (h1 : k ≤ 9007199254740992) :
    Calls Try.prog 15 #[ev t A c, .int .i64 k, ev u Au cu] w (GivesE (putE t k u) w) := by
  obtain ⟨tk, tn, ts, tl⟩ := t
  obtain ⟨uk, un, us, ul⟩ := u
  show Calls Try.prog 15 #[.agg #[.int .i64 tk, .int .i64 tn, .string ts, .slice A tl.length (capF tl.length c)], .int .i64 k, .agg #[.int .i64 uk, .int .i64 un, .string us, .slice Au ul.length (capF ul.length cu)]] w _
  obtain ⟨O1, hO1⟩ : ∃ O, O = Obj.cells #[.int .i64 tk, .int .i64 tn, .string ts, .slice A tl.length (capF tl.length c)] 24 := ⟨_, rfl⟩
  obtain ⟨O2, hO2⟩ : ∃ O, O = Obj.cells #[.int .i64 k] 3 := ⟨_, rfl⟩
  obtain ⟨O3, hO3⟩ : ∃ O, O = Obj.cells #[.int .i64 uk, .int .i64 un, .string us, .slice Au ul.length (capF ul.length cu)] 24 := ⟨_, rfl⟩
  obtain ⟨O4, hO4⟩ : ∃ O, O = Obj.cells #[.int .i64 0, .int .i64 0, .string ⟨#[]⟩, .slice none 0 0] 24 := ⟨_, rfl⟩
  obtain ⟨W, hW⟩ : ∃ W, W = (((w.alloc O1).alloc O2).alloc O3).alloc O4 := ⟨_, rfl⟩
  have hb : Below w.heap.size w W := by rw [hW]; exact ((((Below.refl _ w).alloc (Nat.le_refl _) _).alloc (by simp) _).alloc (by simp; omega) _).alloc (by simp; omega) _
  have hz : W.heap.size = w.heap.size + 4 := by rw [hW]; simp
  have lk : Lies W (w.heap.size + 1) 3 #[.int .i64 k] := by
    rw [hW, hO2]; refine Lies.old (Lies.old ?_ _) _; simpa using Lies.new (w.alloc O1) 3 #[.int .i64 k]
  have lu : Lies W (w.heap.size + 1 + 1) 24 #[.int .i64 uk, .int .i64 un, .string us, .slice Au ul.length (capF ul.length cu)] := by
    rw [hW, hO3]; refine Lies.old ?_ _; simpa using Lies.new ((w.alloc O1).alloc O2) 24 #[.int .i64 uk, .int .i64 un, .string us, .slice Au ul.length (capF ul.length cu)]
  have lz : Lies W (w.heap.size + 1 + 1 + 1) 24 #[.int .i64 0, .int .i64 0, .string ⟨#[]⟩, .slice none 0 0] := by
    rw [hW, hO4]; simpa using Lies.new (((w.alloc O1).alloc O2).alloc O3) 24 #[.int .i64 0, .int .i64 0, .string ⟨#[]⟩, .slice none 0 0]
  have hcl := put1_any k (.node uk un us ul) Au cu (w.heap.size + 1) (w.heap.size + 1 + 1) W lk.lt lu.lt (lk.cell 0) lu (EIn.below _ hIu hb (Nat.le_refl _)) hdu hsu htu h0 h1
  have hch := ch_any _ _ _ W (enters_of Try.func31 (by kernel_rfl) rfl) hcl (depthE (.node tk tn ts tl)) (.node tk tn ts tl) 0 (Nat.le_refl _) hd hs ht (by omega) (by omega) A c W (Below.refl _ _) (EIn.below _ hI hb (Nat.le_refl _))
  have hpe : chE (putF k (.node uk un us ul)) (.node tk tn ts tl) 0 = putE (.node tk tn ts tl) k (.node uk un us ul) := rfl
  rw [hpe] at hch
  have HCH := Lib.hid hch
  generalize putE (.node tk tn ts tl) k (.node uk un us ul) = U at HCH
  clear hch hcl ht hs hd hI lk lu hIu hdu hsu htu hpe
  rw [hW, hO1, hO2, hO3, hO4] at HCH
  go_enter Try.func15, Try.ntmps15
  go_wp2_with fail
  refine HCH.out.mono ?_
  rw [← hO1, ← hO2, ← hO3, ← hO4, ← hW]
  clear HCH hW hO1 hO2 hO3 hO4
  rintro e w2 ⟨A2, c2, rfl, hT, hb2⟩
  obtain ⟨vk, vn, vs, vl⟩ := U
  simp only [ev, Te.kind, Te.n, Te.name, Te.parts]
  have lz2 := lz.below hb2 lz.lt
  have hbw := hb.trans (hb2.mono hb.size)
  obtain ⟨⟨x0, x1, x2, x3⟩, g0, g1, g2, g3⟩ := lz2.four
  have HT := Lib.hid hT
  clear hT hb2 hb
  go_wp2_with fail
  exact bodyPost_ret (res_term (p := 6) Try.results15 rfl (lz2.all _ _ _ _)) rfl (gives_all HT.out (by omega) lz.lt hbw _ _ _ _)
end Lx
end Go.Proofs.Ytcgiloccmehbeaa
namespace Go.Proofs.Ytcgiloccmehbeaa
open Go.RowKit
namespace Lx
set_option maxRecDepth 100000
/-- Each term of l is fine. -/
def FineL (l : List Te) : Prop := ∀ t ∈ l, depthE t ≤ 4000 ∧ sizeE t ≤ 1000000000000 ∧ tameE 1099511627776 1099511627776 t
set_option maxHeartbeats 1000000 in
theorem inst1_any (l : List Te) (Al : Option Addr) (cl gl : Nat) (w0 : World) (hgl : gl < w0.heap.size) (cg : w0.cell? ⟨gl, 0, none⟩ = some (.slice Al l.length cl))
    (hI : ELIn w0 Any l Al 0) (hl : FineL l) (hlen : l.length ≤ 1000000) :
    ClosE 34 #[.pointer (some ⟨gl, 0, none⟩)] (instF l) w0 := by
  intro n s A c b W hW hss n0 n1 b0 b1
  have c1 := (hW.cell (p := ⟨gl, 0, none⟩) hgl).trans cg
  have l2 : gl < W.heap.size := by have := hW.size; omega
  have hIW : ELIn W Any l Al 0 := ELIn.keep _ hI fun g j _ hlt => ⟨hW.cell (p := ⟨g, j, none⟩) hlt, trivial⟩
  have hlx : ∀ x : Int, Lies ((W.alloc (.cells #[.int .i64 1, .int .i64 x, .string s, .slice A 0 c] 24)).alloc (.cells #[.int .i64 1, .int .i64 x, .string s, .slice A 0 c] 24)) (W.heap.size + 1) 24 #[.int .i64 1, .int .i64 x, .string s, .slice A 0 c] := fun x => by
    simpa using Lies.new (W.alloc (.cells #[.int .i64 1, .int .i64 x, .string s, .slice A 0 c] 24)) 24 #[.int .i64 1, .int .i64 x, .string s, .slice A 0 c]
  have HL := Lib.hid hlx
  clear hlx hW cg hgl hI
  show Calls Try.prog 34 #[.agg #[.int .i64 1, .int .i64 n, .string s, .slice A 0 c], .int .i64 b, .pointer (some ⟨gl, 0, none⟩)] W _
  obtain ⟨m, hm⟩ : ∃ m, m = l.length := ⟨_, rfl⟩
  rw [← hm] at c1 hlen
  have HM := Lib.hid hm
  rcases (by omega : (b ≤ n ∧ n < b + m) ∨ n < b ∨ (n = b ∧ m = 0) ∨ (b < n ∧ b + m ≤ n)) with hc | hc | hc | hc
  · have hjm : (m - 1 - (n - b).toNat) < l.length := by omega
    obtain ⟨g, o, A', c', ⟨hA, _⟩, d0, d1, d2, d3, hIn⟩ := ELIn.at_ l hIW (m - 1 - (n - b).toNat) hjm
    have hfine := hl _ (List.getElem_mem hjm)
    have HF : Hid (instF l n s b = upE (l[m - 1 - (n - b).toNat]'hjm) b 0) := by
      refine Lib.hid ?_
      rw [instF, if_pos (by omega), lastE_mem _ _ (by omega)]
      simp only [HM.out]
    obtain ⟨u, hu⟩ : ∃ u, u = l[m - 1 - (n - b).toNat]'hjm := ⟨_, rfl⟩
    rw [← hu] at d0 d1 d2 d3 hIn hfine HF
    clear hu hIW hl hm
    simp only [Nat.zero_add] at d0 d1 d2 d3
    obtain ⟨j, hj⟩ : ∃ j, j = m - 1 - (n - b).toNat := ⟨_, rfl⟩
    have hj1 : (m : Int) - 1 - (n - b) = (j : Int) := by omega
    rw [← hj] at d0 d1 d2 d3
    have hj2 : j < m := by omega
    clear hj hjm
    subst hA
    have hb2 : Below W.heap.size W ((W.alloc (.cells #[.int .i64 1, .int .i64 n, .string s, .slice A 0 c] 24)).alloc (.cells #[.int .i64 0, .int .i64 0, .string ⟨#[]⟩, .slice none 0 0] 24)) := below2_new _ _
    have hup := up_any u A' c' b 0 ((W.alloc (.cells #[.int .i64 1, .int .i64 n, .string s, .slice A 0 c] 24)).alloc (.cells #[.int .i64 0, .int .i64 0, .string ⟨#[]⟩, .slice none 0 0] 24)) (EIn.below _ hIn hb2 (Nat.le_refl _)) hfine.1 hfine.2.1 hfine.2.2 (by omega) (by omega) (by omega) (by omega)
    have lz : Lies ((W.alloc (.cells #[.int .i64 1, .int .i64 n, .string s, .slice A 0 c] 24)).alloc (.cells #[.int .i64 0, .int .i64 0, .string ⟨#[]⟩, .slice none 0 0] 24)) (W.heap.size + 1) 24 #[.int .i64 0, .int .i64 0, .string ⟨#[]⟩, .slice none 0 0] := by
      simpa using Lies.new (W.alloc (.cells #[.int .i64 1, .int .i64 n, .string s, .slice A 0 c] 24)) 24 #[.int .i64 0, .int .i64 0, .string ⟨#[]⟩, .slice none 0 0]
    have HU := Lib.hid hup
    have HZ := Lib.hid lz
    have HB := Lib.hid hb2
    have hgW : g < W.heap.size := cell_lt d0
    clear hup lz hb2 hIn hfine
    obtain ⟨uk, un, us, ul⟩ := u
    simp only [Te.kind, Te.n, Te.name, Te.parts] at d0 d1 d2 d3
    have hn1 : 0 ≤ n - b := by omega
    have hn2 : n - b < m := by omega
    go_enter Try.func34, Try.ntmps34
    go_wp2_with fail
    refine HU.out.mono ?_
    rintro e w2 ⟨A2, c2, rfl, hT, hb2⟩
    generalize upE (.node uk un us ul) b 0 = U at HF hT ⊢
    obtain ⟨vk, vn, vs, vl⟩ := U
    simp only [ev, Te.kind, Te.n, Te.name, Te.parts]
    have lz2 := HZ.out.below hb2 HZ.out.lt
    have hbw := HB.out.trans (hb2.mono HB.out.size)
    obtain ⟨⟨x0, x1, x2, x3⟩, g0, g1, g2, g3⟩ := lz2.four
    have HT := Lib.hid hT
    have HW := Lib.hid hbw
    clear hT hb2 hbw
    go_wp2_with fail
    refine bodyPost_ret (res_term2 (p := 5) (q := 6) Try.results34 rfl (lz2.all _ _ _ _)) rfl ?_
    obtain ⟨A3, c3, h3, h4, h5⟩ := gives_all (c2 := c2) HT.out (by omega : W.heap.size ≤ W.heap.size + 1) (by simp) HW.out (.int .i64 vk) (.int .i64 vn) (.string vs) (.slice A2 vl.length (capF vl.length c2))
    refine ⟨h5, .inl ⟨A2, c2, by rw [HF.out]; rfl, ?_⟩⟩
    rw [HF.out]
    have h6 : A3 = A2 := by injection h3 with h3; injection h3 with h3; simp at h3; exact h3.1.symm
    rw [h6] at h4
    exact h4
  · clear hIW hl hm
    have hn1 : n - b < 0 := by omega
    have HF : Hid (instF l n s b = .node 1 n s []) := by
      refine Lib.hid ?_
      rw [instF, if_neg (by omega), if_neg (by omega)]
    go_enter Try.func34, Try.ntmps34
    go_wp2_with fail
    exact bodyPost_ret (res_term2 (p := 5) (q := 6) Try.results34 rfl (HL.out _)) rfl ⟨below2_new _ _, .inr ⟨_, rfl, ⟨by omega, by omega⟩, HF.out⟩⟩
  · clear hIW hl hm
    obtain ⟨rfl, rfl⟩ := hc
    have hn1 : n - n = 0 := by omega
    have HF : Hid (instF l n s n = .node 1 n s []) := by
      refine Lib.hid ?_
      rw [instF, if_neg (by have := HM.out; omega), if_neg (by omega)]
    go_enter Try.func34, Try.ntmps34
    go_wp2_with fail
    exact bodyPost_ret (res_term2 (p := 5) (q := 6) Try.results34 rfl (HL.out _)) rfl ⟨below2_new _ _, .inr ⟨_, rfl, ⟨by omega, by omega⟩, HF.out⟩⟩
  · clear hIW hl hm
    have hn1 : 0 ≤ n - b := by omega
    have hn2 : (m : Int) ≤ n - b := by omega
    have HF : Hid (instF l n s b = .node 1 (n - m) s []) := by
      refine Lib.hid ?_
      rw [instF, if_neg (by have := HM.out; omega), if_pos (by omega), HM.out]
    go_enter Try.func34, Try.ntmps34
    go_wp2_with fail
    exact bodyPost_ret (res_term2 (p := 5) (q := 6) Try.results34 rfl (HL.out _)) rfl ⟨below2_new _ _, .inr ⟨_, rfl, ⟨by omega, by omega⟩, HF.out⟩⟩
set_option maxHeartbeats 1000000 in
theorem inst_any (t : Te) (l : List Te) (A Al : Option Addr) (c cl : Nat) (w : World) (hI : EIn w Any t A) (hd : depthE t ≤ 4000) (hs : sizeE t ≤ 1000000000000) (ht : tameE 1099511627776 1099511627776 t)
    (hIl : ELIn w Any l Al 0) (hl : FineL l) (hlen : l.length ≤ 1000000) :
    Calls Try.prog 19 #[ev t A c, .slice Al l.length cl] w (GivesE (instE t l) w) := by
  obtain ⟨tk, tn, ts, tl⟩ := t
  show Calls Try.prog 19 #[.agg #[.int .i64 tk, .int .i64 tn, .string ts, .slice A tl.length (capF tl.length c)], .slice Al l.length cl] w _
  obtain ⟨O1, hO1⟩ : ∃ O, O = Obj.cells #[.int .i64 tk, .int .i64 tn, .string ts, .slice A tl.length (capF tl.length c)] 24 := ⟨_, rfl⟩
  obtain ⟨O2, hO2⟩ : ∃ O, O = Obj.cells #[.slice Al l.length cl] 22 := ⟨_, rfl⟩
  obtain ⟨O4, hO4⟩ : ∃ O, O = Obj.cells #[.int .i64 0, .int .i64 0, .string ⟨#[]⟩, .slice none 0 0] 24 := ⟨_, rfl⟩
  obtain ⟨W, hW⟩ : ∃ W, W = ((w.alloc O1).alloc O2).alloc O4 := ⟨_, rfl⟩
  have hb : Below w.heap.size w W := by rw [hW]; exact (((Below.refl _ w).alloc (Nat.le_refl _) _).alloc (by simp) _).alloc (by simp; omega) _
  have hz : W.heap.size = w.heap.size + 3 := by rw [hW]; simp
  have lk : Lies W (w.heap.size + 1) 22 #[.slice Al l.length cl] := by
    rw [hW, hO2]; refine Lies.old ?_ _; simpa using Lies.new (w.alloc O1) 22 #[.slice Al l.length cl]
  have lz : Lies W (w.heap.size + 1 + 1) 24 #[.int .i64 0, .int .i64 0, .string ⟨#[]⟩, .slice none 0 0] := by
    rw [hW, hO4]; simpa using Lies.new ((w.alloc O1).alloc O2) 24 #[.int .i64 0, .int .i64 0, .string ⟨#[]⟩, .slice none 0 0]
  have hcl := inst1_any l Al cl (w.heap.size + 1) W lk.lt (lk.cell 0) (ELIn.keep _ hIl fun g j _ hlt => ⟨hb.cell (p := ⟨g, j, none⟩) hlt, trivial⟩) hl hlen
  have hch := ch_any _ _ _ W (enters_of Try.func34 (by kernel_rfl) rfl) hcl (depthE (.node tk tn ts tl)) (.node tk tn ts tl) 0 (Nat.le_refl _) hd hs ht (by omega) (by omega) A c W (Below.refl _ _) (EIn.below _ hI hb (Nat.le_refl _))
  have hpe : chE (instF l) (.node tk tn ts tl) 0 = instE (.node tk tn ts tl) l := rfl
  rw [hpe] at hch
  have HCH := Lib.hid hch
  generalize instE (.node tk tn ts tl) l = U at HCH
  clear hch hcl ht hs hd hI lk hIl hl hpe hlen
  rw [hW, hO1, hO2, hO4] at HCH
  go_enter Try.func19, Try.ntmps19
  go_wp2_with fail
  refine HCH.out.mono ?_
  rw [← hO1, ← hO2, ← hO4, ← hW]
  clear HCH hW hO1 hO2 hO4
  rintro e w2 ⟨A2, c2, rfl, hT, hb2⟩
  obtain ⟨vk, vn, vs, vl⟩ := U
  simp only [ev, Te.kind, Te.n, Te.name, Te.parts]
  have lz2 := lz.below hb2 lz.lt
  have hbw := hb.trans (hb2.mono hb.size)
  obtain ⟨⟨x0, x1, x2, x3⟩, g0, g1, g2, g3⟩ := lz2.four
  have HT := Lib.hid hT
  clear hT hb2 hb
  go_wp2_with fail
  exact bodyPost_ret (res_term (p := 4) Try.results19 rfl (lz2.all _ _ _ _)) rfl (gives_all HT.out (by omega) lz.lt hbw _ _ _ _)
end Lx
end Go.Proofs.Ytcgiloccmehbeaa
namespace Go.Proofs.Ytcgiloccmehbeaa
open Go
namespace Lx
set_option maxRecDepth 100000
section
variable {P : Program} {ops : Array Oper} {Q : Exit → Act → World → Prop} {md : Region.Mode} {S : World → Prop} {last : Nat}
/-- One operation alone may come up, and its guard lets it. -/
theorem wpAnyK_oneW {i : Nat} {o : Oper} {fuel : Nat} {listed : Array Bool} {a : Act} {w : World} (ho : ops[i]? = some o) (hw : Region.wanted o (yielded ops a.tmps) = true) (hr : Region.ready md ops listed = [i])
    (h : ∀ K' : Act → World → Prop, Shut (∀ a w, (i ≠ last → S w) → ((i ≠ last → S w) → wpAnyK P md ops Q S last fuel (listed.setIfInBounds i true) a w) → K' a w) → Oper.wp P o a w K' Q) :
    wpAnyK P md ops Q S last (fuel + 1) listed a w := by
  refine ⟨fun h0 => (by rw [hr] at h0; cases h0), fun j hj => ?_⟩
  rw [hr] at hj
  obtain rfl : j = i := by simpa using hj
  refine wpOp_step ho fun K' hK => ?_
  rw [if_pos hw]
  exact h K' (fun a w hS hW => hK a w ⟨hS, hW hS⟩)
/-- Two operations may come up, and their guards let them. -/
theorem wpAnyK_bothW {i j : Nat} {oi oj : Oper} {fuel : Nat} {listed : Array Bool} {a : Act} {w : World} (hoi : ops[i]? = some oi) (hoj : ops[j]? = some oj) (hgi : Region.wanted oi (yielded ops a.tmps) = true) (hgj : Region.wanted oj (yielded ops a.tmps) = true) (hr : Region.ready md ops listed = [i, j])
    (h1 : ∀ K' : Act → World → Prop, Shut (∀ a w, (i ≠ last → S w) → ((i ≠ last → S w) → wpAnyK P md ops Q S last fuel (listed.setIfInBounds i true) a w) → K' a w) → Oper.wp P oi a w K' Q)
    (h2 : ∀ K' : Act → World → Prop, Shut (∀ a w, (j ≠ last → S w) → ((j ≠ last → S w) → wpAnyK P md ops Q S last fuel (listed.setIfInBounds j true) a w) → K' a w) → Oper.wp P oj a w K' Q) :
    wpAnyK P md ops Q S last (fuel + 1) listed a w := by
  refine ⟨fun h0 => (by rw [hr] at h0; cases h0), fun k hk => ?_⟩
  rw [hr] at hk
  rcases List.mem_cons.1 hk with rfl | hk
  · refine wpOp_step hoi fun K' hK => ?_
    rw [if_pos hgi]
    exact h1 K' (fun a w hS hW => hK a w ⟨hS, hW hS⟩)
  · obtain rfl : k = j := by simpa using hk
    refine wpOp_step hoj fun K' hK => ?_
    rw [if_pos hgj]
    exact h2 K' (fun a w hS hW => hK a w ⟨hS, hW hS⟩)
end
end Lx
end Go.Proofs.Ytcgiloccmehbeaa
