/-
  Texts that lie one behind the other: RowTe Su SuRow HeldK RegK SuBi SuAll Lz0 SuCh SuRows SuRowL.
-/
import Derived.Test.YtgnafcnokenogaaC1
import Derived.Test.YtgnafcnokenogaaProg
import Derived.Test.YtgnafcnokenogaaRows
import Derived.Laws.MakeOwn
import Derived.Laws.Entries
import Derived.Deep.RegionHeld
import Derived.Deep.MidRow
import Derived.Deep.Cut
import Derived.ProofKit
import Derived.OpenShut
import Derived.ChangeArms
import Derived.Carry
import Derived.WideKeyArgs
import Derived.SizedLaws
namespace Go.Proofs.Ytgnafcnokenogaa
open Go.RowKit
namespace Lx
set_option maxRecDepth 100000
theorem infoE : (Try.prog.info? 24).map (fun i => (i.zero, i.size, i.bytes)) = some (some (.agg #[.int .i64 0, .int .i64 0, .string ⟨#[]⟩, .slice none 0 0]), 4, 56) := by kernel_rfl
/-- The four cells of a tree. -/
def cellsE (t : Te) (A : Option Addr) (c : Nat) : List Value := [.int .i64 t.kind, .int .i64 t.n, .string t.name, .slice A t.parts.length (capF t.parts.length c)]
theorem cellsE_length (t : Te) (A : Option Addr) (c : Nat) : (cellsE t A c).length = 4 := rfl
/-- The cells xs read as the trees of l. -/
def RowTe (w : World) (X : Nat → Prop) (l : List Te) (xs : List Value) : Prop :=
  xs.length = l.length * 4 ∧ ∀ (j : Nat) (hj : j < l.length), ∃ A c, (∀ q, q < 4 → xs[j * 4 + q]? = (cellsE (l[j]'hj) A c)[q]?) ∧ EIn w X (l[j]'hj) A
theorem RowTe.nil (w : World) (X : Nat → Prop) : RowTe w X [] [] := ⟨rfl, fun j hj => by simp at hj⟩
theorem RowTe.keep {w w' : World} {X Y : Nat → Prop} {l : List Te} {xs : List Value} (h : RowTe w X l xs) (hk : ∀ g j, X g → g < w.heap.size → w'.cell? ⟨g, j, none⟩ = w.cell? ⟨g, j, none⟩ ∧ Y g) : RowTe w' Y l xs :=
  ⟨h.1, fun j hj => by
    obtain ⟨A, c, hc, ht⟩ := h.2 j hj
    exact ⟨A, c, hc, EIn.keep _ ht hk⟩⟩
theorem RowTe.below {w w' : World} {X : Nat → Prop} {l : List Te} {xs : List Value} {B : Nat} (h : RowTe w X l xs) (hb : Below B w w') (hB : w.heap.size ≤ B) : RowTe w' X l xs :=
  h.keep fun g j hX hlt => ⟨hb.cell (p := ⟨g, j, none⟩) (by show g < B; omega), hX⟩
theorem RowTe.wide {w : World} {X Y : Nat → Prop} {l : List Te} {xs : List Value} (h : RowTe w X l xs) (hXY : ∀ g, X g → g < w.heap.size → Y g) : RowTe w Y l xs :=
  h.keep fun g _ hX hlt => ⟨rfl, hXY g hX hlt⟩
theorem RowTe.setCell {w : World} {X : Nat → Prop} {l : List Te} {xs : List Value} (h : RowTe w X l xs) (p : Addr) (u : Value) (hp : ¬ X p.block) : RowTe (w.setCell p u) X l xs :=
  h.keep fun g j hX _ => ⟨World.cell?_setCell_other w p ⟨g, j, none⟩ u (fun e => by subst e; exact hp hX), hX⟩
theorem RowTe.grown {w w' : World} {X : Nat → Prop} {l : List Te} {xs : List Value} {row : Option Nat} (h : RowTe w X l xs) (hg : w.grownBy w' row) (hp : ∀ g, row = some g → ¬ X g) : RowTe w' X l xs :=
  h.keep fun g _ hX hlt => ⟨World.cell?_of_block (hg.block g hlt (fun e => hp g e.symm hX)), hX⟩
theorem RowTe.snoc {w : World} {X : Nat → Prop} {l : List Te} {xs : List Value} (h : RowTe w X l xs) {t : Te} {A : Option Addr} {c : Nat} (ht : EIn w X t A) : RowTe w X (l ++ [t]) (xs ++ cellsE t A c) := by
  refine ⟨by simp [h.1, cellsE_length]; omega, fun j hj => ?_⟩
  rcases Nat.lt_or_ge j l.length with hlt | hge
  · obtain ⟨A', c', hc, ht'⟩ := h.2 j hlt
    rw [List.getElem_append_left hlt]
    refine ⟨A', c', fun q hq => ?_, ht'⟩
    rw [List.getElem?_append_left (by rw [h.1]; omega)]
    exact hc q hq
  · have hj' : j = l.length := by simp at hj; omega
    subst hj'
    rw [List.getElem_append_right (Nat.le_refl _)]
    simp only [Nat.sub_self, List.getElem_singleton]
    refine ⟨A, c, fun q hq => ?_, ht⟩
    rw [List.getElem?_append_right (by rw [h.1]; omega), h.1]
    congr 1
    omega
/-- Trees in a row of the call's own are parts. -/
theorem RowTe.parts {w : World} {X Y : Nat → Prop} {l : List Te} {xs : List Value} {g o : Nat} (h : RowTe w X l xs) (hg : Y g) (hXY : ∀ b, X b → b < w.heap.size → Y b)
    (hc : ∀ j u, xs[j]? = some u → w.cell? ⟨g, o + j, none⟩ = some u) : ELIn w Y l (some ⟨g, o, none⟩) 0 := by
  refine ELIn.mk l 0 fun i hi => ?_
  obtain ⟨A, c, hx, ht⟩ := h.2 i hi
  rw [Nat.zero_add]
  refine ⟨g, o, A, c, ⟨rfl, hg⟩, hc (i * 4) _ ((hx 0 (by omega)).trans rfl), ?_, ?_, ?_, EIn.wide _ ht hXY⟩
  · have := hc (i * 4 + 1) _ ((hx 1 (by omega)).trans rfl); simpa [Nat.add_assoc] using this
  · have := hc (i * 4 + 2) _ ((hx 2 (by omega)).trans rfl); simpa [Nat.add_assoc] using this
  · have := hc (i * 4 + 3) _ ((hx 3 (by omega)).trans rfl); simpa [Nat.add_assoc] using this
/-- A row that the call owns. -/
theorem RowTe.owned {w : World} {X Y : Nat → Prop} {l : List Te} {xs : List Value} {base n c : Nat} {A : Option Addr} (h : RowTe w X l xs) (ho : w.ownsRow base 24 4 (.slice A n c) n xs) (hX : ∀ g, base ≤ g → Y g) (hXY : ∀ b, X b → b < w.heap.size → Y b) :
    ELIn w Y l A 0 := by
  by_cases hl : l = []
  · subst hl; rw [ELIn]; trivial
  · have hn : 0 < n := by
      have h1 := ho.1
      have h2 := h.1
      have := List.length_pos_iff.2 hl
      omega
    obtain ⟨g, cap, hv⟩ := Joins.ownsRow_form ho hn
    have hA : A = some ⟨g, 0, none⟩ := by injection hv
    subst hA
    refine h.parts (hX g ?_) hXY fun j u hu => ?_
    · rcases ho.2 with ⟨e, _⟩ | ⟨g', _, _, e, hb, _⟩
      · cases e
      · injection e with e; injection e with e; injection e with e; subst e; exact hb
    · have h1 := ho.cells (g := g) rfl j u hu
      have hadd : (⟨g, 0, none⟩ : Addr).add j = ⟨g, 0 + j, none⟩ := by unfold Addr.add; split <;> simp_all
      rw [hadd] at h1
      exact h1
theorem res_term {fn : Func} {p : Tmp} (h : fn.results = #[.cell p 24]) {tmps : Array Value} {g : Nat} {a b c d : Value} {w : World} (hp : tmps.getD p undef = .pointer (some ⟨g, 0, none⟩)) (L : Lies w g 24 #[a, b, c, d]) :
    (results fn tmps).run Try.prog w = .ok (.agg #[a, b, c, d]) w := by
  have hl := run_loadVar_row (P := Try.prog) w g 24 24 #[a, b, c, d] (0, 0) _ L Try.underlying24 rfl (by kernel_rfl)
  have hp' : tmps[p]?.getD undef = .pointer (some ⟨g, 0, none⟩) := by simpa using hp
  simp only [results, h]
  simp [hp', asAddr, hl]
end Lx
end Go.Proofs.Ytgnafcnokenogaa
namespace Go.Proofs.Ytgnafcnokenogaa
namespace Lx
set_option maxRecDepth 100000
mutual
/-- A term, each of whose variables is what F tells of its number, its name and how many binders there are. -/
def chE (F : Int → ByteArray → Int → Te) : Te → Int → Te
  | .node k n s l, b => if k = 1 then F n s b else .node k n s (chEL F l (b + moreE k n))
def chEL (F : Int → ByteArray → Int → Te) : List Te → Int → List Te
  | [], _ => []
  | t :: r, b => chE F t b :: chEL F r b
end
def upF (u : Int) (n : Int) (s : ByteArray) (f : Int) : Te := .node 1 (if f ≤ n then n + u else n) s []
def upE (t : Te) (u f : Int) : Te := chE (upF u) t f
def putF (k : Int) (x : Te) (n : Int) (s : ByteArray) (b : Int) : Te := if n = k + b then upE x b 0 else .node 1 (if k + b < n then n - 1 else n) s []
def putE (t : Te) (k : Int) (x : Te) : Te := chE (putF k x) t 0
def lastE (l : List Te) (i : Nat) : Te := l.getD (l.length - 1 - i) (.node 0 0 ⟨#[]⟩ [])
def instF (l : List Te) (n : Int) (s : ByteArray) (b : Int) : Te := if b ≤ n ∧ n < b + l.length then upE (lastE l (n - b).toNat) b 0 else .node 1 (if b < n then n - l.length else n) s []
def instE (t : Te) (l : List Te) : Te := chE (instF l) t 0
mutual
def usesE : Te → Int → Nat
  | .node k n _ l, j => if k = 1 then (if n = j then 1 else 0) else usesEL l (j + moreE k n)
def usesEL : List Te → Int → Nat
  | [], _ => 0
  | t :: r, j => usesE t j + usesEL r j
end
mutual
/-- Variables have no parts, and no number beyond K; alternatives none beyond M. -/
def tameE (K M : Int) : Te → Prop
  | .node k n _ l => (k = 1 → -K ≤ n ∧ n ≤ K ∧ l = []) ∧ (k = 6 → -M ≤ n ∧ n ≤ M) ∧ tameEL K M l
def tameEL (K M : Int) : List Te → Prop
  | [] => True
  | t :: r => tameE K M t ∧ tameEL K M r
end
mutual
/-- What the document's answer asks. -/
def tameB : Te → Bool
  | .node k n _ l => !((decide (k ≠ 7) && (decide (1099511627776 < n) || decide (n < -1099511627776))) || (decide (k = 1) && decide (0 < l.length))) && tameBL l
def tameBL : List Te → Bool
  | [] => true
  | t :: r => tameB t && tameBL r
end
theorem chEL_length (F : Int → ByteArray → Int → Te) : ∀ (l : List Te) (b : Int), (chEL F l b).length = l.length
  | [], _ => by simp [chEL]
  | t :: r, b => by simp [chEL, chEL_length F r b]
theorem chEL_map (F : Int → ByteArray → Int → Te) : ∀ (l : List Te) (b : Int), chEL F l b = l.map (chE F · b)
  | [], _ => by simp [chEL]
  | t :: r, b => by simp [chEL, chEL_map F r b]
theorem chEL_snoc (F : Int → ByteArray → Int → Te) (l : List Te) (t : Te) (b : Int) : chEL F (l ++ [t]) b = chEL F l b ++ [chE F t b] := by simp [chEL_map]
theorem chEL_take (F : Int → ByteArray → Int → Te) (l : List Te) (i : Nat) (b : Int) (h : i < l.length) : chEL F (l.take (i + 1)) b = chEL F (l.take i) b ++ [chE F (l[i]'h) b] := by
  rw [List.take_succ_eq_append_getElem h, chEL_snoc]
theorem usesEL_snoc (l : List Te) (t : Te) (j : Int) : usesEL (l ++ [t]) j = usesEL l j + usesE t j := by
  induction l with
  | nil => simp [usesEL]
  | cons a r ih => simp only [List.cons_append, usesEL, ih]; omega
theorem usesEL_take (l : List Te) (i : Nat) (j : Int) (h : i < l.length) : usesEL (l.take (i + 1)) j = usesEL (l.take i) j + usesE (l[i]'h) j := by
  rw [List.take_succ_eq_append_getElem h, usesEL_snoc]
theorem tameEL_mem {K M : Int} : ∀ (l : List Te) (t : Te), t ∈ l → tameEL K M l → tameE K M t
  | [], t, h, _ => by simp at h
  | a :: r, t, h, ht => by
    rw [tameEL] at ht
    rcases List.mem_cons.1 h with rfl | h
    · exact ht.1
    · exact tameEL_mem r t h ht.2
theorem tameEL_of {K M : Int} : ∀ (l : List Te), (∀ t ∈ l, tameE K M t) → tameEL K M l
  | [], _ => by rw [tameEL]; trivial
  | a :: r, h => by rw [tameEL]; exact ⟨h a (by simp), tameEL_of r fun t ht => h t (by simp [ht])⟩
mutual
theorem tameB_spec : ∀ t : Te, tameB t = true → tameE 1099511627776 1099511627776 t
  | .node k n s l, h => by
    rw [tameB] at h
    rw [tameE]
    simp only [Bool.and_eq_true, Bool.not_eq_true', Bool.or_eq_false_iff, Bool.and_eq_false_iff, decide_eq_false_iff_not] at h
    obtain ⟨⟨h1, h2⟩, h3⟩ := h
    refine ⟨fun hk => ?_, fun hk => by omega, tameBL_spec l h3⟩
    refine ⟨by omega, by omega, ?_⟩
    have : ¬ 0 < l.length := by
      rcases h2 with h2 | h2
      · exact absurd hk h2
      · exact h2
    exact List.eq_nil_of_length_eq_zero (by omega)
theorem tameBL_spec : ∀ l : List Te, tameBL l = true → tameEL 1099511627776 1099511627776 l
  | [], _ => by rw [tameEL]; trivial
  | t :: r, h => by
    rw [tameBL, Bool.and_eq_true] at h
    rw [tameEL]
    exact ⟨tameB_spec t h.1, tameBL_spec r h.2⟩
end
mutual
theorem usesE_le : ∀ (t : Te) (j : Int), usesE t j ≤ sizeE t
  | .node k n s l, j => by
    rw [usesE, sizeE]
    have := usesEL_le l (j + moreE k n)
    split
    · split <;> omega
    · omega
theorem usesEL_le : ∀ (l : List Te) (j : Int), usesEL l j ≤ sizeEL l
  | [], _ => by simp [usesEL]
  | t :: r, j => by rw [usesEL, sizeEL]; have := usesE_le t j; have := usesEL_le r j; omega
end
mutual
theorem tameE_mono {K M K' M' : Int} (hK : K ≤ K') (hM : M ≤ M') : ∀ t : Te, tameE K M t → tameE K' M' t
  | .node k n s l, h => by
    rw [tameE] at h ⊢
    refine ⟨fun hk => ?_, fun hk => ?_, tameEL_mono hK hM l h.2.2⟩
    · have := h.1 hk; exact ⟨by omega, by omega, this.2.2⟩
    · have := h.2.1 hk; omega
theorem tameEL_mono {K M K' M' : Int} (hK : K ≤ K') (hM : M ≤ M') : ∀ l : List Te, tameEL K M l → tameEL K' M' l
  | [], _ => by rw [tameEL]; trivial
  | t :: r, h => by rw [tameEL] at h ⊢; exact ⟨tameE_mono hK hM t h.1, tameEL_mono hK hM r h.2⟩
end
mutual
theorem chE_depth {F : Int → ByteArray → Int → Te} {D : Nat} (hD : 0 < D) (h : ∀ n s b, depthE (F n s b) ≤ D) : ∀ (t : Te) (b : Int), depthE (chE F t b) + 1 ≤ depthE t + D
  | .node k n s l, b => by
    rw [chE, depthE]
    split
    · have := h n s b; omega
    · rw [depthE]; have := chEL_depth hD h l (b + moreE k n); omega
theorem chEL_depth {F : Int → ByteArray → Int → Te} {D : Nat} (hD : 0 < D) (h : ∀ n s b, depthE (F n s b) ≤ D) : ∀ (l : List Te) (b : Int), depthEL (chEL F l b) + 1 ≤ depthEL l + D
  | [], _ => by simp [chEL, depthEL]; omega
  | t :: r, b => by rw [chEL, depthEL, depthEL]; have := chE_depth hD h t b; have := chEL_depth hD h r b; omega
end
mutual
theorem chE_size {F : Int → ByteArray → Int → Te} {S : Nat} (hS : 0 < S) (h : ∀ n s b, sizeE (F n s b) ≤ S) : ∀ (t : Te) (b : Int), sizeE (chE F t b) ≤ sizeE t * S
  | .node k n s l, b => by
    rw [chE]
    have := chEL_size hS h l (b + moreE k n)
    rw [sizeE, Nat.succ_mul]
    split
    · have := h n s b; omega
    · rw [sizeE]; omega
theorem chEL_size {F : Int → ByteArray → Int → Te} {S : Nat} (hS : 0 < S) (h : ∀ n s b, sizeE (F n s b) ≤ S) : ∀ (l : List Te) (b : Int), sizeEL (chEL F l b) ≤ sizeEL l * S
  | [], _ => by simp [chEL, sizeEL]
  | t :: r, b => by rw [chEL, sizeEL, sizeEL, Nat.add_mul]; have := chE_size hS h t b; have := chEL_size hS h r b; omega
end
mutual
theorem chE_tame {F : Int → ByteArray → Int → Te} {K K' M B : Int} (hM : 0 ≤ M) (hM1 : 1 ≤ M) (h : ∀ n s b, -K ≤ n → n ≤ K → -B ≤ b → b ≤ B → tameE K' M (F n s b)) : ∀ (t : Te) (b : Int), tameE K M t → -B ≤ b - (depthE t : Int) * M → b + (depthE t : Int) * M ≤ B → tameE K' M (chE F t b)
  | .node k n s l, b, ht, h1, h2 => by
    rw [tameE] at ht
    rw [depthE] at h1 h2
    have he : ((depthEL l + 1 : Nat) : Int) * M = (depthEL l : Int) * M + M := by rw [Int.natCast_add, Int.add_mul]; simp
    rw [he] at h1 h2
    have hp : 0 ≤ (depthEL l : Int) * M := Int.mul_nonneg (by omega) hM
    rw [chE]
    split
    · rename_i hk
      have := ht.1 hk
      exact h n s b this.1 this.2.1 (by omega) (by omega)
    · rename_i hk
      have hm : -M ≤ moreE k n ∧ moreE k n ≤ M := by
        rw [moreE]
        split
        · omega
        · split
          · rename_i h6; exact ht.2.1 h6
          · omega
      rw [tameE]
      exact ⟨fun e => absurd e hk, ht.2.1, chEL_tame hM hM1 h l (b + moreE k n) ht.2.2 (by omega) (by omega)⟩
theorem chEL_tame {F : Int → ByteArray → Int → Te} {K K' M B : Int} (hM : 0 ≤ M) (hM1 : 1 ≤ M) (h : ∀ n s b, -K ≤ n → n ≤ K → -B ≤ b → b ≤ B → tameE K' M (F n s b)) : ∀ (l : List Te) (b : Int), tameEL K M l → -B ≤ b - (depthEL l : Int) * M → b + (depthEL l : Int) * M ≤ B → tameEL K' M (chEL F l b)
  | [], _, _, _, _ => by rw [chEL, tameEL]; trivial
  | t :: r, b, ht, h1, h2 => by
    rw [tameEL] at ht
    rw [depthEL] at h1 h2
    have e1 : (depthE t : Int) * M ≤ ((max (depthE t) (depthEL r) : Nat) : Int) * M := Int.mul_le_mul_of_nonneg_right (by omega) hM
    have e2 : (depthEL r : Int) * M ≤ ((max (depthE t) (depthEL r) : Nat) : Int) * M := Int.mul_le_mul_of_nonneg_right (by omega) hM
    rw [chEL, tameEL]
    exact ⟨chE_tame hM hM1 h t b ht.1 (by omega) (by omega), chEL_tame hM hM1 h r b ht.2 (by omega) (by omega)⟩
end
theorem upE_depth (t : Te) (u f : Int) : depthE (upE t u f) ≤ depthE t := by
  have := chE_depth (F := upF u) (D := 1) (by omega) (fun n s b => by simp [upF, depthE, depthEL]) t f
  rw [upE]; omega
theorem upE_size (t : Te) (u f : Int) : sizeE (upE t u f) ≤ sizeE t := by
  have := chE_size (F := upF u) (S := 1) (by omega) (fun n s b => by simp [upF, sizeE, sizeEL]) t f
  rw [upE]; omega
theorem upE_tame {K M U : Int} {t : Te} (hM1 : 1 ≤ M) (ht : tameE K M t) (u f : Int) (h0 : -U ≤ u) (h1 : u ≤ U) (hU : 0 ≤ U) : tameE (K + U) M (upE t u f) := by
  have hp : 0 ≤ (depthE t : Int) * M := Int.mul_nonneg (by omega) (by omega)
  rw [upE]
  rcases Int.le_total 0 f with hf | hf
  · exact chE_tame (B := f + (depthE t : Int) * M) (by omega) hM1 (fun n s b h2 h3 _ _ => by
      rw [upF, tameE, tameEL]
      refine ⟨fun _ => ?_, fun e => by omega, trivial⟩
      split <;> exact ⟨by omega, by omega, rfl⟩) t f ht (by omega) (by omega)
  · exact chE_tame (B := -f + (depthE t : Int) * M) (by omega) hM1 (fun n s b h2 h3 _ _ => by
      rw [upF, tameE, tameEL]
      refine ⟨fun _ => ?_, fun e => by omega, trivial⟩
      split <;> exact ⟨by omega, by omega, rfl⟩) t f ht (by omega) (by omega)
theorem putF_depth (k : Int) (x : Te) (n : Int) (s : ByteArray) (b : Int) : depthE (putF k x n s b) ≤ depthE x := by
  rw [putF]
  split
  · exact upE_depth _ _ _
  · have := depthE_pos x; simp [depthE, depthEL]; omega
theorem putF_size (k : Int) (x : Te) (n : Int) (s : ByteArray) (b : Int) : sizeE (putF k x n s b) ≤ sizeE x := by
  rw [putF]
  split
  · exact upE_size _ _ _
  · have := sizeE_pos x; simp [sizeE, sizeEL]; omega
theorem putE_depth (t : Te) (k : Int) (x : Te) : depthE (putE t k x) + 1 ≤ depthE t + depthE x := by
  rw [putE]; exact chE_depth (depthE_pos x) (putF_depth k x) t 0
theorem putE_size (t : Te) (k : Int) (x : Te) : sizeE (putE t k x) ≤ sizeE t * sizeE x := by
  rw [putE]; exact chE_size (sizeE_pos x) (putF_size k x) t 0
theorem putE_tame {K : Int} {t x : Te} (hd : depthE t ≤ 4000) (ht : tameE K 8 t) (hx : tameE K 8 x) (k : Int) : tameE (K + 32001) 8 (putE t k x) := by
  rw [putE]
  refine chE_tame (B := 32000) (by omega) (by omega) (fun n s b h2 h3 h4 h5 => ?_) t 0 ht (by omega) (by omega)
  rw [putF]
  split
  · exact tameE_mono (by omega) (Int.le_refl _) _ (upE_tame (U := 32000) (by omega) hx b 0 (by omega) (by omega) (by omega))
  · rw [tameE, tameEL]
    refine ⟨fun _ => ?_, fun e => by omega, trivial⟩
    split <;> exact ⟨by omega, by omega, rfl⟩
theorem lastE_mem (l : List Te) (i : Nat) (h : i < l.length) : lastE l i = l[l.length - 1 - i]'(by omega) := by
  rw [lastE, List.getD_eq_getElem?_getD, List.getElem?_eq_getElem (by omega)]; rfl
theorem instF_depth {l : List Te} {D : Nat} (hD : 0 < D) (h : ∀ t ∈ l, depthE t ≤ D) (n : Int) (s : ByteArray) (b : Int) : depthE (instF l n s b) ≤ D := by
  rw [instF]
  split
  · rename_i hc
    rw [lastE_mem _ _ (by omega)]
    have := h _ (List.getElem_mem (by omega : l.length - 1 - (n - b).toNat < l.length))
    have := upE_depth (l[l.length - 1 - (n - b).toNat]'(by omega)) b 0
    omega
  · simp [depthE, depthEL]; omega
theorem instF_size {l : List Te} {S : Nat} (hS : 0 < S) (h : ∀ t ∈ l, sizeE t ≤ S) (n : Int) (s : ByteArray) (b : Int) : sizeE (instF l n s b) ≤ S := by
  rw [instF]
  split
  · rename_i hc
    rw [lastE_mem _ _ (by omega)]
    have := h _ (List.getElem_mem (by omega : l.length - 1 - (n - b).toNat < l.length))
    have := upE_size (l[l.length - 1 - (n - b).toNat]'(by omega)) b 0
    omega
  · simp [sizeE, sizeEL]; omega
mutual
theorem chE_congr {F G : Int → ByteArray → Int → Te} {a : Int} (h : ∀ n s b, F n s b = G n s (a + b)) : ∀ (t : Te) (b : Int), chE F t b = chE G t (a + b)
  | .node k n s l, b => by
    rw [chE, chE, h, chEL_congr h l, Int.add_assoc]
theorem chEL_congr {F G : Int → ByteArray → Int → Te} {a : Int} (h : ∀ n s b, F n s b = G n s (a + b)) : ∀ (l : List Te) (b : Int), chEL F l b = chEL G l (a + b)
  | [], b => by rw [chEL, chEL]
  | t :: r, b => by rw [chEL, chEL, chE_congr h t, chEL_congr h r]
end
theorem up_from (t : Te) (u f : Int) : chE (fun n s b => upF u n s (f + b)) t 0 = upE t u f := by
  rw [upE, chE_congr (G := upF u) (a := f) (fun _ _ _ => rfl), Int.add_zero]
end Lx
end Go.Proofs.Ytgnafcnokenogaa
namespace Go.Proofs.Ytgnafcnokenogaa
open Go.RowKit
namespace Lx
set_option maxRecDepth 100000
/-- The answer is a term as a value, its parts in new memory. -/
def GivesE (t : Te) (w : World) (e : Ending) (w' : World) : Prop :=
  ∃ A c, e = .returned (ev t A c) ∧ EIn w' (fun g => w.heap.size ≤ g) t A ∧ Below w.heap.size w w'
theorem run_make_rowE {P : Program} (t e : TypeId) (i : TypeInfo) (z : Value) (ht : P.underlying t = some (.slice e)) (hi : P.info? e = some i) (hz : i.zero = some z)
    (kl kc : IntKind) (n c : Nat) (hnc : n ≤ c) (hbytes : i.bytes * c ≤ 281474976710656) (h63 : c ≤ 9223372036854775807) (w : World) :
    (Instr.makeSlice t (.int kl (n : Int)) (.int kc (c : Int))).run P w = .ok (.slice (some ⟨w.heap.size, 0, none⟩) n c) (w.alloc (.cells (madeCells z.cells (c * i.size)) e)) := by
  have hb : (i.bytes : Int) * (c : Int) ≤ 281474976710656 := by
    have h : ((i.bytes * c : Nat) : Int) ≤ 281474976710656 := by omega
    rwa [Int.natCast_mul] at h
  have hr := run_make (P := P) w t e i z ht hi hz kl kc n c (by omega) (by omega) hb (by omega)
  simp only [Int.toNat_natCast] at hr
  exact hr
/-- Block G is a row of m terms, the first of which are those of l. -/
def RowF (w : World) (G m : Nat) (l : List Te) : Prop := ∃ cs, Lies w G 24 cs ∧ cs.size = m * 4 ∧ RowTe w (fun g => G < g) l (cs.toList.take (l.length * 4))
theorem RowF.cell {w : World} {G m : Nat} {l : List Te} (h : RowF w G m l) (i q : Nat) (hi : i < m) (hq : q < 4) : ∃ u, w.cell? ⟨G, i * 4 + q, none⟩ = some u ∧ w.frozen? ⟨G, i * 4 + q, none⟩ = false := by
  obtain ⟨cs, hL, hs, _⟩ := h
  have hlt : i * 4 + q < cs.size := by omega
  exact ⟨cs[i * 4 + q], (hL.cell _).trans (Array.getElem?_eq_getElem hlt), hL.frozen _⟩
theorem RowF.below {w w' : World} {G m : Nat} {l : List Te} {B : Nat} (h : RowF w G m l) (hb : Below B w w') (hB : w.heap.size ≤ B) : RowF w' G m l := by
  obtain ⟨cs, hL, hs, hr⟩ := h
  exact ⟨cs, hL.below hb (by have := hL.lt; omega), hs, hr.below hb hB⟩
theorem RowF.lt {w : World} {G m : Nat} {l : List Te} (h : RowF w G m l) : G < w.heap.size := by obtain ⟨cs, hL, _⟩ := h; exact hL.lt
theorem take_set4 (cs : List Value) (p : Nat) (a b c d : Value) (h : p + 4 ≤ cs.length) :
    ((((cs.set p a).set (p + 1) b).set (p + 2) c).set (p + 3) d).take (p + 4) = cs.take p ++ [a, b, c, d] := by
  apply List.ext_getElem?
  intro j
  by_cases hj : j < p + 4
  · rw [List.getElem?_take_of_lt hj]
    by_cases h0 : j < p
    · rw [List.getElem?_append_left (by simp; omega), List.getElem?_take_of_lt h0]
      simp [show ¬ p = j by omega, show ¬ p + 1 = j by omega, show ¬ p + 2 = j by omega, show ¬ p + 3 = j by omega]
    · rw [List.getElem?_append_right (by simp; omega)]
      have hl : (cs.take p).length = p := by simp; omega
      rw [hl]
      rcases (by omega : j = p ∨ j = p + 1 ∨ j = p + 2 ∨ j = p + 3) with rfl | rfl | rfl | rfl
      · simp [List.getElem?_set]; omega
      · simp [List.getElem?_set, show p + 1 - p = 1 by omega]; omega
      · simp [List.getElem?_set, show p + 2 - p = 2 by omega]; omega
      · simp [List.getElem?_set, show p + 3 - p = 3 by omega]; omega
  · rw [List.getElem?_eq_none (by simp; omega), List.getElem?_eq_none (by simp; omega)]
/-- The next term is stored. -/
theorem RowF.put {w : World} {G m : Nat} {l : List Te} (h : RowF w G m l) (t : Te) (A : Option Addr) (c : Nat) (hi : l.length < m) (ht : EIn w (fun g => G < g) t A) :
    RowF ((((w.setCell ⟨G, l.length * 4, none⟩ (.int .i64 t.kind)).setCell ⟨G, l.length * 4 + 1, none⟩ (.int .i64 t.n)).setCell ⟨G, l.length * 4 + 2, none⟩ (.string t.name)).setCell ⟨G, l.length * 4 + 3, none⟩ (.slice A t.parts.length (capF t.parts.length c))) G m (l ++ [t]) := by
  obtain ⟨cs, hL, hs, hr⟩ := h
  have hX : ∀ p : Addr, p.block = G → ¬ G < p.block := fun p e => by omega
  refine ⟨_, (((hL.put _ _).put _ _).put _ _).put _ _, by simp [hs], ?_⟩
  have h5 : (l ++ [t]).length * 4 = l.length * 4 + 4 := by simp; omega
  rw [h5]
  simp only [Array.toList_setIfInBounds]
  rw [take_set4 _ _ _ _ _ _ (by simp [hs]; omega)]
  have h1 := (((hr.setCell ⟨G, l.length * 4, none⟩ (.int .i64 t.kind) (hX _ rfl)).setCell ⟨G, l.length * 4 + 1, none⟩ (.int .i64 t.n) (hX _ rfl)).setCell ⟨G, l.length * 4 + 2, none⟩ (.string t.name) (hX _ rfl)).setCell ⟨G, l.length * 4 + 3, none⟩ (.slice A t.parts.length (capF t.parts.length c)) (hX _ rfl)
  have h2 := EIn.setCell _ (EIn.setCell _ (EIn.setCell _ (EIn.setCell _ ht ⟨G, l.length * 4, none⟩ (.int .i64 t.kind) (hX _ rfl)) ⟨G, l.length * 4 + 1, none⟩ (.int .i64 t.n) (hX _ rfl)) ⟨G, l.length * 4 + 2, none⟩ (.string t.name) (hX _ rfl)) ⟨G, l.length * 4 + 3, none⟩ (.slice A t.parts.length (capF t.parts.length c)) (hX _ rfl)
  exact h1.snoc (c := c) h2
theorem Lies.far4 {w : World} {g : Nat} {t : TypeId} {cs : Array Value} (h : Lies w g t cs) {G : Nat} (hg : g ≠ G) (o : Nat) (a b c d : Value) :
    Lies ((((w.setCell ⟨G, o, none⟩ a).setCell ⟨G, o + 1, none⟩ b).setCell ⟨G, o + 2, none⟩ c).setCell ⟨G, o + 3, none⟩ d) g t cs :=
  (((h.far (p := ⟨G, o, none⟩) hg _).far (p := ⟨G, o + 1, none⟩) hg _).far (p := ⟨G, o + 2, none⟩) hg _).far (p := ⟨G, o + 3, none⟩) hg _
theorem Below.four {B : Nat} {a w : World} (h : Below B a w) {G : Nat} (hg : B ≤ G) (o : Nat) (x y z u : Value) :
    Below B a ((((w.setCell ⟨G, o, none⟩ x).setCell ⟨G, o + 1, none⟩ y).setCell ⟨G, o + 2, none⟩ z).setCell ⟨G, o + 3, none⟩ u) :=
  (((h.setCell (p := ⟨G, o, none⟩) hg x).setCell (p := ⟨G, o + 1, none⟩) hg y).setCell (p := ⟨G, o + 2, none⟩) hg z).setCell (p := ⟨G, o + 3, none⟩) hg u
/-- All are there. -/
theorem RowF.parts {w : World} {G : Nat} {l : List Te} {Y : Nat → Prop} (h : RowF w G l.length l) (hY : ∀ g, G ≤ g → Y g) : ELIn w Y l (some ⟨G, 0, none⟩) 0 := by
  obtain ⟨cs, hL, hs, hr⟩ := h
  refine hr.parts (hY _ (Nat.le_refl _)) (fun b hb _ => hY b (by omega)) fun j u hu => ?_
  rw [Nat.zero_add, hL.cell j]
  have hj : j < l.length * 4 := by
    rcases Nat.lt_or_ge j (l.length * 4) with h | h
    · exact h
    · rw [List.getElem?_eq_none (by simp; omega)] at hu; cases hu
  rw [List.getElem?_take_of_lt hj] at hu
  simpa using hu
theorem RowF.fresh (w : World) (m : Nat) : RowF (w.alloc (.cells (madeCells #[.int .i64 0, .int .i64 0, .string ⟨#[]⟩, .slice none 0 0] (m * 4)) 24)) w.heap.size m [] := by
  refine ⟨_, Lies.new _ _ _, size_madeCells #[.int .i64 0, .int .i64 0, .string ⟨#[]⟩, .slice none 0 0] _, RowTe.nil _ _⟩
end Lx
end Go.Proofs.Ytgnafcnokenogaa
namespace Go.Proofs.Ytgnafcnokenogaa
open Go
namespace Lx
set_option maxRecDepth 100000
section
variable {P : Program} {ops : Array Oper} {Q : Exit → Act → World → Prop} {md : Region.Mode} {S : World → Prop} {last : Nat}

/-- Whatever order is picked from here on, and S holds behind every operation but the last. -/
def wpAnyK (P : Program) (md : Region.Mode) (ops : Array Oper) (Q : Exit → Act → World → Prop) (S : World → Prop) (last : Nat) : Nat → Array Bool → Act → World → Prop
  | 0, listed, a, w => Region.ready md ops listed = [] ∧ Q .normal a w
  | fuel + 1, listed, a, w =>
    (Region.ready md ops listed = [] → Q .normal a w) ∧
    ∀ i ∈ Region.ready md ops listed, wpOp P ops Q i (fun a' w' => (i ≠ last → S w') ∧ wpAnyK P md ops Q S last fuel (listed.setIfInBounds i true) a' w') a w
theorem wpAny_of_K : ∀ (fuel : Nat) (listed : Array Bool) (a : Act) (w : World), wpAnyK P md ops Q S last fuel listed a w → wpAny P md ops Q fuel listed a w
  | 0, _, _, _, h => h
  | fuel + 1, _, _, _, h => ⟨h.1, fun i hi => wpOp_mono (fun a' w' h' => wpAny_of_K fuel _ a' w' h'.2) (h.2 i hi)⟩
/-- The last operation waits for number i. -/
def waitsB (md : Region.Mode) (ops : Array Oper) (last i : Nat) : Bool :=
  match ops[last]? with
  | some o => o.after.any fun e => Region.binds md e && e.on == i
  | none => false
theorem waits_ready {i : Nat} {listed : Array Bool} (h : waitsB md ops last i = true) (hl : last ∈ Region.ready md ops listed) : listed.getD i false = true := by
  obtain ⟨_, o, ho, hall⟩ := mem_ready.1 hl
  unfold waitsB at h
  rw [ho] at h
  obtain ⟨e, he, hb⟩ := Array.any_eq_true'.1 h
  simp only [Bool.and_eq_true, beq_iff_eq] at hb
  have := hall e he hb.1
  rwa [hb.2] at this
theorem unlisted {i : Nat} {listed : Array Bool} (h : listed.getD i true = false) : listed.getD i false ≠ true := by
  intro h'
  rcases Nat.lt_or_ge i listed.size with hl | hl
  · simp [hl] at h h'; rw [h] at h'; cases h'
  · simp [Array.getElem?_eq_none hl] at h
theorem wpAnyK_first {i : Nat} {oi : Oper} {v : Value} (hi : ops[i]? = some oi) (hsel : ∀ (j : Nat) (o : Oper) cs b, ops[j]? = some o → o.op ≠ .select cs b)
    (hQ : ∀ c a w, Q (.panic c) (a.put oi.dst v) w → Q (.panic c) a w) (hwt : waitsB md ops last i = true) :
    ∀ (fuel : Nat) (listed : Array Bool) (a : Act) (w : World),
      (∀ j oj, ops[j]? = some oj → j ≠ i → listed.getD j true = false → (∀ e ∈ oj.after, Region.binds md e = true → e.on ≠ i) → oi.apart ops oj = true) →
      i ∈ Region.ready md ops listed → YieldsIf P ops S oi v a → S w →
      wpAnyK P md ops Q S last fuel (listed.setIfInBounds i true) (a.put oi.dst v) w → wpAnyK P md ops Q S last (fuel + 1) listed a w := by
  intro fuel
  induction fuel with
  | zero =>
    intro listed a w _ hr hy hS H
    refine ⟨fun h => (by rw [h] at hr; cases hr), fun j hj => ?_⟩
    by_cases hji : j = i
    · subst hji; exact hy.wpOp hi hS ⟨fun _ => hS, H⟩
    · have := ready_mono hj hji
      rw [H.1] at this
      cases this
  | succ fuel ih =>
    intro listed a w hfree hr hy hS H
    refine ⟨fun h => (by rw [h] at hr; cases hr), fun j hj => ?_⟩
    by_cases hji : j = i
    · subst hji; exact hy.wpOp hi hS ⟨fun _ => hS, H⟩
    · have hjl : j ≠ last := fun e => by
        subst e
        exact unlisted (mem_ready.1 hr).1 (waits_ready hwt hj)
      have h1 := H.2 j (ready_mono hj hji)
      obtain ⟨hjun, oj, hoj, hall⟩ := mem_ready.1 hj
      have hnot : ∀ e ∈ oj.after, Region.binds md e = true → e.on ≠ i := fun e he hb heq => by
        have h1 := hall e he hb
        rw [heq] at h1
        exact unlisted (mem_ready.1 hr).1 h1
      have h2 := wpOp_putIf hoj (hfree j oj hoj hji hjun hnot) (fun cs b => hsel i oi cs b hi) (fun cs b => hsel j oj cs b hoj) hQ hy h1
      have hfree' : ∀ k ok, ops[k]? = some ok → k ≠ i → (listed.setIfInBounds j true).getD k true = false →
          (∀ e ∈ ok.after, Region.binds md e = true → e.on ≠ i) → oi.apart ops ok = true := fun k ok hk hki hun hno => by
        refine hfree k ok hk hki ?_ hno
        by_cases hjk : j = k
        · subst hjk; exact hjun
        · rw [getD_set_ne true hjk] at hun; exact hun
      refine wpOp_mono (fun a' w' h3 => ⟨h3.2.1, ih (listed.setIfInBounds j true) a' w' hfree' (ready_mono hr (Ne.symm hji)) h3.1 (h3.2.1 hjl) ?_⟩) h2
      rw [Array.setIfInBounds_comm _ _ hji]
      exact h3.2.2
theorem wpAnyK_take {i : Nat} {oi : Oper} {v : Value} {fuel : Nat} {listed : Array Bool} {a : Act} {w : World} (hi : ops[i]? = some oi)
    (hs : Region.noSelect ops = true) (hwt : waitsB md ops last i = true) (hf : Region.free md ops listed i = true) (hr : (Region.ready md ops listed).contains i = true)
    (hQ : ∀ c a w, Q (.panic c) (a.put oi.dst v) w → Q (.panic c) a w) (hy : YieldsIf P ops S oi v a) (hS : S w)
    (h : wpAnyK P md ops Q S last fuel (listed.setIfInBounds i true) (a.put oi.dst v) w) : wpAnyK P md ops Q S last (fuel + 1) listed a w :=
  wpAnyK_first hi (Region.noSelect_spec hs) hQ hwt fuel listed a w (Region.free_spec hi hf) (by simpa using hr) hy hS h
/-- One operation alone may come up. -/
theorem wpAnyK_one {i : Nat} {o : Oper} {fuel : Nat} {listed : Array Bool} {a : Act} {w : World} (ho : ops[i]? = some o) (hg : o.guard = none) (hr : Region.ready md ops listed = [i])
    (h : ∀ K' : Act → World → Prop, Shut (∀ a w, (i ≠ last → S w) → ((i ≠ last → S w) → wpAnyK P md ops Q S last fuel (listed.setIfInBounds i true) a w) → K' a w) → Oper.wp P o a w K' Q) :
    wpAnyK P md ops Q S last (fuel + 1) listed a w := by
  refine ⟨fun h0 => (by rw [hr] at h0; cases h0), fun j hj => ?_⟩
  rw [hr] at hj
  obtain rfl : j = i := by simpa using hj
  refine wpOp_step ho fun K' hK => ?_
  rw [if_pos (by simp [Region.wanted, hg])]
  exact h K' (fun a w hS hW => hK a w ⟨hS, hW hS⟩)
theorem wpAnyK_done {listed : Array Bool} {a : Act} {w : World} (hr : Region.ready md ops listed = []) (h : Q .normal a w) : ∀ fuel, wpAnyK P md ops Q S last fuel listed a w
  | 0 => ⟨hr, h⟩
  | _ + 1 => ⟨fun _ => h, by rw [hr]; simp⟩
theorem wp_region_K {id : Nat} {a : Act} {w : World} (last : Nat) (hm : P.follows .mixedOrders = true) (hS : S w.drew)
    (h : S w.drew → wpAnyK P .any ops Q S last ops.size (Array.replicate ops.size false) a w.drew) : (Code.region id ops true).wp P Q a w :=
  wp_region_any hm (wpAny_of_K _ _ _ _ (h hS))
end
end Lx
end Go.Proofs.Ytgnafcnokenogaa
namespace Go.Proofs.Ytgnafcnokenogaa
open Go Go.RowKit
namespace Lx
set_option maxRecDepth 100000
section
variable {P : Program} {ops : Array Oper} {Q : Exit → Act → World → Prop} {md : Region.Mode} {S : World → Prop} {last : Nat}
/-- Two operations may come up. -/
theorem wpAnyK_both {i j : Nat} {oi oj : Oper} {fuel : Nat} {listed : Array Bool} {a : Act} {w : World} (hoi : ops[i]? = some oi) (hoj : ops[j]? = some oj) (hgi : oi.guard = none) (hgj : oj.guard = none) (hr : Region.ready md ops listed = [i, j])
    (h1 : ∀ K' : Act → World → Prop, Shut (∀ a w, (i ≠ last → S w) → ((i ≠ last → S w) → wpAnyK P md ops Q S last fuel (listed.setIfInBounds i true) a w) → K' a w) → Oper.wp P oi a w K' Q)
    (h2 : ∀ K' : Act → World → Prop, Shut (∀ a w, (j ≠ last → S w) → ((j ≠ last → S w) → wpAnyK P md ops Q S last fuel (listed.setIfInBounds j true) a w) → K' a w) → Oper.wp P oj a w K' Q) :
    wpAnyK P md ops Q S last (fuel + 1) listed a w := by
  refine ⟨fun h0 => (by rw [hr] at h0; cases h0), fun k hk => ?_⟩
  rw [hr] at hk
  rcases List.mem_cons.1 hk with rfl | hk
  · refine wpOp_step hoi fun K' hK => ?_
    rw [if_pos (by simp [Region.wanted, hgi])]
    exact h1 K' (fun a w hS hW => hK a w ⟨hS, hW hS⟩)
  · obtain rfl : k = j := by simpa using hk
    refine wpOp_step hoj fun K' hK => ?_
    rw [if_pos (by simp [Region.wanted, hgj])]
    exact h2 K' (fun a w hS hW => hK a w ⟨hS, hW hS⟩)
end
theorem lies_is {w : World} {g n : Nat} {t : TypeId} {cs : Array Value} (h : Lies w g t cs) (hn : cs.size = n) : w.there g 0 n := fun k hk => by
  subst hn
  exact ⟨by rw [Nat.zero_add, h.cell k, Array.getElem?_eq_getElem hk]; rfl, by rw [Nat.zero_add]; exact h.frozen k⟩
theorem lies_set4 {w : World} {g : Nat} {t : TypeId} {a b c d : Value} (h : Lies w g t #[a, b, c, d]) (x y z u : Value) : Lies (w.setCells g 0 [x, y, z, u]) g t #[x, y, z, u] := h.all x y z u
theorem below_cells {B : Nat} {a : World} : ∀ {w : World} (_ : Below B a w) {g : Nat} (_ : B ≤ g) (vs : List Value) (o : Nat), Below B a (w.setCells g o vs)
  | _, h, _, _, [], _ => h
  | _, h, g, hg, v :: vs, o => below_cells (h.setCell (p := ⟨g, o, none⟩) hg v) hg vs (o + 1)
theorem lies_offs {g' : Nat} {t : TypeId} {cs : Array Value} : ∀ {w : World} (_ : Lies w g' t cs) {g : Nat} (_ : g' ≠ g) (vs : List Value) (o : Nat), Lies (w.setCells g o vs) g' t cs
  | _, h, _, _, [], _ => h
  | _, h, g, hg, v :: vs, o => lies_offs (h.far (p := ⟨g, o, none⟩) hg v) hg vs (o + 1)
theorem ein_offs {X : Nat → Prop} {A : Option Addr} (t : Te) : ∀ {w : World} (_ : EIn w X t A) {g : Nat} (_ : ¬ X g) (vs : List Value) (o : Nat), EIn (w.setCells g o vs) X t A
  | _, h, _, _, [], _ => h
  | _, h, g, hg, v :: vs, o => ein_offs t (EIn.setCell t h ⟨g, o, none⟩ v hg) hg vs (o + 1)
theorem elin_offs {X : Nat → Prop} {A : Option Addr} (l : List Te) {i : Nat} {w : World} (h : ELIn w X l A i) {g : Nat} (hg : ¬ X g) (vs : List Value) (o : Nat) : ELIn (w.setCells g o vs) X l A i :=
  ELIn.keep l h fun g' j hX _ => by
    have hne : g' ≠ g := fun e => hg (e ▸ hX)
    refine ⟨?_, hX⟩
    have : ∀ (vs : List Value) (w : World) (o : Nat), (w.setCells g o vs).cell? ⟨g', j, none⟩ = w.cell? ⟨g', j, none⟩ := by
      intro vs
      induction vs with
      | nil => intro w o; rfl
      | cons v vs ih =>
        intro w o
        show ((w.setCell ⟨g, o, none⟩ v).setCells g (o + 1) vs).cell? _ = _
        rw [ih]
        exact World.cell?_setCell_other w ⟨g, o, none⟩ ⟨g', j, none⟩ v (fun e => by injection e with e; exact hne e.symm)
    exact this vs w o
theorem size_cells : ∀ (w : World) (g : Nat) (vs : List Value) (o : Nat), (w.setCells g o vs).heap.size = w.heap.size
  | w, g, [], o => rfl
  | w, g, v :: vs, o => by
    show ((w.setCell ⟨g, o, none⟩ v).setCells g (o + 1) vs).heap.size = _
    rw [size_cells]
    simp [World.setCell]
/-- A store of a whole struct, the world behind it a letter. -/
theorem wp_store_as {P : Program} {op : Oper} {a : Act} {w : World} {K : Act → World → Prop} {Q : Exit → Act → World → Prop} (F : World → Prop) (ty : TypeId) (x y : Operand) (ho : op.op = .store ty x y)
    (b o : Nat) (cells : Array Value) (hx : a.eval x = .pointer (some ⟨b, o, none⟩)) (hy : a.eval y = .agg cells)
    (ht : w.there b o cells.size) (hi : (P.info? ty).map (·.size) = some cells.size) (h1 : cells.all (·.oneCell') = true) (hF : F (w.setCells b o cells.toList))
    (h : ∀ W, F W → K (a.put op.dst undef) W) : op.wp P a w K Q := wp_store_mid ty x y ho b o cells hx hy ht hi h1 (h _ hF)
theorem below_on {a b c : World} (h : Below a.heap.size a b) (k : Below b.heap.size b c) : Below a.heap.size a c := h.trans (k.mono h.size)
end Lx
end Go.Proofs.Ytgnafcnokenogaa
namespace Go.Proofs.Ytgnafcnokenogaa
open Go.RowKit
namespace Lx
set_option maxRecDepth 100000
theorem more_any (k n : Int) (s : ByteArray) (A : Option Addr) (m c : Nat) (w : World) :
    Calls Try.prog 65 #[.agg #[.int .i64 k, .int .i64 n, .string s, .slice A m c]] w fun e w' => e = .returned (.int .i64 (moreE k n)) ∧ Below w.heap.size w w' := by
  have hb : Below w.heap.size w (w.alloc (.cells #[.int .i64 k, .int .i64 n, .string s, .slice A m c] 24)) := (Below.refl _ w).alloc (Nat.le_refl _) _
  rcases (by omega : k = 2 ∨ k = 6 ∨ (k ≠ 2 ∧ k ≠ 6)) with rfl | rfl | ⟨h2, h6⟩
  · go_enter Try.func65, Try.ntmps65
    go_wp2_with fail
    go_ret
    exact ⟨rfl, hb⟩
  · go_enter Try.func65, Try.ntmps65
    go_wp2_with fail
    go_ret
    exact ⟨rfl, hb⟩
  · have e2 : (k == 2) = false := by simpa using h2
    have e6 : (k == 6) = false := by simpa using h6
    have HE : Hid (moreE k n = 0) := by
      refine Lib.hid ?_
      simp [moreE, h2, h6]
    clear h2 h6
    go_enter Try.func65, Try.ntmps65
    go_wp2_with fail
    go_ret
    exact ⟨ret_int HE.out.symm, hb⟩
end Lx
end Go.Proofs.Ytgnafcnokenogaa
namespace Go.Proofs.Ytgnafcnokenogaa
open Go.RowKit
namespace Lx
set_option maxRecDepth 100000
theorem chE_kind (F : Int → ByteArray → Int → Te) (k n : Int) (s : ByteArray) (l : List Te) (b : Int) (h : k ≠ 1) : chE F (.node k n s l) b = .node k n s (chEL F l (b + moreE k n)) := by rw [chE, if_neg h]
theorem ev_eta (t : Te) (A : Option Addr) (c : Nat) : ∃ u : Te, u = t ∧ ev t A c = .agg #[.int .i64 u.kind, .int .i64 u.n, .string u.name, .slice A u.parts.length (capF u.parts.length c)] := ⟨t, rfl, rfl⟩
end Lx
end Go.Proofs.Ytgnafcnokenogaa
namespace Go.Proofs.Ytgnafcnokenogaa
open Go.RowKit
namespace Lx
set_option maxRecDepth 100000
theorem ein_mk {w : World} {X : Nat → Prop} {k n : Int} {s : ByteArray} {l : List Te} {A : Option Addr} (hs : s.size ≤ 140737488351232) (h0 : -9223372036854775808 ≤ n) (h1 : n ≤ 9223372036854775807) (hl : l.length ≤ 140737488351232) (h : ELIn w X l A 0) : EIn w X (.node k n s l) A := by
  rw [EIn]; exact ⟨⟨hs, h0, h1⟩, hl, h⟩
theorem lies_next (w : World) (t : TypeId) (cs : Array Value) (g : Nat) (hg : g = w.heap.size) : Lies (w.alloc (.cells cs t)) g t cs := by subst hg; exact Lies.new w t cs
theorem ein_lies1 {w : World} {X : Nat → Prop} {t : Te} {A : Option Addr} {c g : Nat} {ty : TypeId} (L : Lies w g ty #[.int .i64 t.kind, .int .i64 t.n, .string t.name, .slice A t.parts.length (capF t.parts.length c)]) (hg : X g) (h : EIn w X t A) : ELIn w X [t] (some ⟨g, 0, none⟩) 0 := by
  rw [ELIn]
  refine ⟨⟨g, 0, A, c, ⟨rfl, hg⟩, L.cell 0, L.cell 1, L.cell 2, L.cell 3, h⟩, ?_⟩
  rw [ELIn]; trivial
theorem ein_lies2 {w : World} {X : Nat → Prop} {t u : Te} {A B : Option Addr} {c d g : Nat} {ty : TypeId} (L : Lies w g ty #[.int .i64 t.kind, .int .i64 t.n, .string t.name, .slice A t.parts.length (capF t.parts.length c), .int .i64 u.kind, .int .i64 u.n, .string u.name, .slice B u.parts.length (capF u.parts.length d)]) (hg : X g) (h : EIn w X t A) (hu : EIn w X u B) : ELIn w X [t, u] (some ⟨g, 0, none⟩) 0 := by
  rw [ELIn]
  refine ⟨⟨g, 0, A, c, ⟨rfl, hg⟩, L.cell 0, L.cell 1, L.cell 2, L.cell 3, h⟩, ?_⟩
  rw [ELIn]
  refine ⟨⟨g, 0, B, d, ⟨rfl, hg⟩, L.cell 4, L.cell 5, L.cell 6, L.cell 7, hu⟩, ?_⟩
  rw [ELIn]; trivial
end Lx
end Go.Proofs.Ytgnafcnokenogaa
namespace Go.Proofs.Ytgnafcnokenogaa
open Go.RowKit
namespace Lx
set_option maxRecDepth 100000
/-- What is told of a variable: a term of its own, or the variable with another number. -/
def ClosP (F : Int → ByteArray → Int → Te) (n : Int) (s : ByteArray) (A : Option Addr) (c : Nat) (b : Int) (W : World) (e : Ending) (w' : World) : Prop :=
  Below W.heap.size W w' ∧ ((∃ A' c', e = .returned (.tuple #[ev (F n s b) A' c', .bool true]) ∧ EIn w' (fun g => W.heap.size ≤ g) (F n s b) A') ∨
    (∃ n', e = .returned (.tuple #[.agg #[.int .i64 1, .int .i64 n', .string s, .slice A 0 c], .bool false]) ∧ (-9223372036854775808 ≤ n' ∧ n' ≤ 9223372036854775807) ∧ F n s b = .node 1 n' s []))
/-- What becomes of a variable is told by the function K, with what it holds behind. -/
def ClosE (K : Nat) (cap : Array Value) (F : Int → ByteArray → Int → Te) (w0 : World) : Prop :=
  ∀ (n : Int) (s : ByteArray) (A : Option Addr) (c : Nat) (b : Int) (W : World), Below w0.heap.size w0 W → s.size ≤ 140737488351232 → -1099511627776 ≤ n → n ≤ 1099511627776 → -35184372088832000 ≤ b → b ≤ 35184372088832000 →
    Calls Try.prog K (#[.agg #[.int .i64 1, .int .i64 n, .string s, .slice A 0 c], .int .i64 b] ++ cap) W (ClosP F n s A c b W)
end Lx
end Go.Proofs.Ytgnafcnokenogaa
namespace Go.Proofs.Ytgnafcnokenogaa
open Go.ChangeShapes Go.WideShapes Go.ChangeAt Go.RowKit
namespace Lx
set_option maxRecDepth 100000
section
variable {H : Type} {enc : TypeId × Value → H}
theorem cE4S : Try.prog.cellsOf 24 = 4 := by kernel_rfl
theorem bE56S : Try.prog.bytesOf 24 = 56 := by kernel_rfl
theorem wf6S {n : Int} (h : (Lit.int .i64 n).wf = true) : -9223372036854775808 ≤ n ∧ n ≤ 9223372036854775807 := by
  simp [Lit.wf, IntKind.min, IntKind.max, IntKind.signed, IntKind.bits] at h
  omega
theorem c6_3S : Try.prog.cellsOf 3 = 1 := by kernel_rfl
theorem c6_9S : Try.prog.cellsOf 9 = 1 := by kernel_rfl
theorem c6_LS : Try.prog.cellsOf 22 = 1 := by kernel_rfl
theorem cells6_getS {w : World} {base : Nat} {a : Addr} {n : Nat} {cs : List Value} (h : w.cells? base a n = some cs) : ∀ j, j < n → w.cell? (a.add j) = cs[j]? := (World.cells?_some h).2.2
/-- The four cells of a term's reading. -/
theorem open6_partsS {W : World} {base : Nat} {sp : Nat → Bool} {hd : Bool} {fuel : Nat} {cs : List Value} {x : DataW H × List MemPlace} (h : DataW.trod enc Try.prog W base sp hd fuel 24 cs = some x) :
    ∃ (k n : Int) (s : ByteArray) (v : Value) (m : Nat) (y : DataW H × List MemPlace), fuel = m + 1 ∧ cs = [.int .i64 k, .int .i64 n, .string s, v] ∧ DataW.trod enc Try.prog W base sp hd m 22 [v] = some y ∧
      x = (.agg [.lit (.int .i64 k), .lit (.int .i64 n), .lit (.string s.data.toList), y.1], y.2) ∧ -9223372036854775808 ≤ n ∧ n ≤ 9223372036854775807 := by
  obtain ⟨xs, m, e, hx, hl, hlen, hf⟩ := DataW.trod_struct Try.underlying24 h
  rw [cE4S] at hl
  match cs, hl with
  | [c0, c1, c2, c3], _ =>
  match xs, hlen with
  | [x0, x1, x2, x3], _ =>
  have h0 := hf 0 { name := "Kind", type := 3, offset := 0, embedded := false, tag := "", pkgPath := "", byteOffset := 0 } rfl
  have h1 := hf 1 { name := "N", type := 3, offset := 1, embedded := false, tag := "", pkgPath := "", byteOffset := 8 } rfl
  have h2 := hf 2 { name := "Name", type := 9, offset := 2, embedded := false, tag := "", pkgPath := "", byteOffset := 16 } rfl
  have h3 := hf 3 { name := "L", type := 22, offset := 3, embedded := false, tag := "", pkgPath := "", byteOffset := 32 } rfl
  dsimp only at h0 h1 h2 h3
  rw [c6_3S] at h0 h1
  rw [c6_9S] at h2
  rw [c6_LS] at h3
  dsimp at h0 h1 h2 h3
  obtain ⟨k, e0, y0, _⟩ := DataW.trod_int Try.underlying3 h0
  obtain ⟨n, e1, y1, wn⟩ := DataW.trod_int Try.underlying3 h1
  obtain ⟨s, e2, y2, _⟩ := DataW.trod_string Try.underlying9 h2
  obtain rfl := (List.cons.inj e0).1
  obtain rfl := (List.cons.inj e1).1
  obtain rfl := (List.cons.inj e2).1
  subst y0 y1 y2
  refine ⟨k, n, s, c3, m, x3, e, rfl, ?_, ?_, ?_⟩
  · exact h3
  · rw [hx]; simp
  · exact wf6S wn
theorem row6_ofS {Q : Nat → Te → Prop} : ∀ (n : Nat), (∀ i, i < n → ∃ t, Q i t) → ∃ l : List Te, l.length = n ∧ ∀ (i : Nat) (hi : i < l.length), Q i (l[i]'hi)
  | 0, _ => ⟨[], rfl, fun i hi => by simp at hi⟩
  | n + 1, h => by
    obtain ⟨l, hl, hq⟩ := row6_ofS n fun i hi => h i (by omega)
    obtain ⟨t, ht⟩ := h n (by omega)
    refine ⟨l ++ [t], by simp [hl], fun i hi => ?_⟩
    rcases Nat.lt_or_ge i l.length with hlt | hge
    · rw [List.getElem_append_left hlt]; exact hq i hlt
    · have e : i = n := by simp at hi; omega
      subst e
      rw [List.getElem_append_right (by omega)]
      simpa [hl] using ht
theorem spot6_noneS {w : World} {a : Addr} {v : Value} (h : w.cell? a = some v) : a.spot = none := by
  unfold World.cell? at h
  split at h
  · split at h
    · cases h
    · rename_i hs; simpa using hs
  · cases h
theorem weights6_memS {P : Program} {e : TypeId} : ∀ (L : List (DataW H)) (d : DataW H), d ∈ L → ∀ q ∈ DataW.weights P e d, q ∈ DataW.weightsAll P e L
  | [], d, h, _, _ => by cases h
  | a :: r, d, h, q, hq => by
    rw [DataW.weightsAll, List.mem_append]
    rcases List.mem_cons.1 h with rfl | h
    · exact .inl hq
    · exact .inr (weights6_memS r d h q hq)
/-- What reads as a term is one. -/
theorem open_termS {W : World} {base : Nat} {sp : Nat → Bool} {hd : Bool} : ∀ (N fuel : Nat), fuel ≤ N → ∀ {cs : List Value} {x : DataW H × List MemPlace}, DataW.trod enc Try.prog W base sp hd fuel 24 cs = some x →
    (∀ k ∈ DataW.weights Try.prog 24 x.1, k ≤ reachBytes) → ∃ t A c, cs = cellsE t A c ∧ EIn W Any t A := by
  intro N
  induction N with
  | zero => intro fuel hf cs x h; obtain ⟨_, _, _, _, m, _, e, _⟩ := open6_partsS h; omega
  | succ N ih =>
    intro fuel hf cs x h hw
    obtain ⟨k, n, s, v, m, y, e, rfl, hv, rfl, hn0, hn1⟩ := open6_partsS h
    have hwv : ∀ q ∈ DataW.weights Try.prog 22 y.1, q ≤ reachBytes := fun q hq => hw q (by
      rw [DataW.weights, Try.underlying24]
      simp [DataW.weightsEach, DataW.weights, hq])
    have hs : s.size ≤ 140737488351232 := by
      have := hw s.data.toList.length (by
        rw [DataW.weights, Try.underlying24]
        simp [DataW.weightsEach, DataW.weights])
      simpa [reachBytes] using this
    rcases DataW.trod_slice Try.underlying22 hv with ⟨e1, rfl⟩ | ⟨p, len, cap, elems, rest, m', em, e1, rfl, hb, hl, hm, hlen, hel, _, _⟩
    · obtain rfl := (List.cons.inj e1).1
      exact ⟨.node k n s [], none, 0, rfl, ein_mk hs hn0 hn1 (by simp) (by rw [ELIn]; trivial)⟩
    · obtain rfl := (List.cons.inj e1).1
      have hwe : ∀ (i : Nat) (y' : DataW H × List MemPlace), elems[i]? = some y' → ∀ q ∈ DataW.weights Try.prog 24 y'.1, q ≤ reachBytes := fun i y' hy q hq => hwv q (by
        rw [DataW.weights, Try.underlying22]
        have := weights6_memS (elems.map (·.1)) y'.1 (List.mem_map_of_mem (List.mem_of_getElem? hy)) q hq
        simp [this])
      have hlen' : len ≤ 140737488351232 := by
        have := hwv ((elems.length + rest.length) * 56) (by
          rw [DataW.weights, Try.underlying22]
          simp [bE56S])
        have : (elems.length + rest.length) * 56 ≤ 140737488351232 := this
        omega
      obtain ⟨l, hll, hq⟩ := row6_ofS (Q := fun i t => ∃ A c, W.cells? base (p.add (i * 4)) 4 = some (cellsE t A c) ∧ EIn W Any t A ) len fun i hi => by
        have h1 := hel i hi
        rw [cE4S] at h1
        obtain ⟨y', hy'⟩ : ∃ y', elems[i]? = some y' := ⟨_, List.getElem?_eq_getElem (by omega)⟩
        rw [hy', Option.bind_eq_some_iff] at h1
        obtain ⟨cs', hc', ht'⟩ := h1
        obtain ⟨t, A, c, rfl, hT⟩ := ih m' (by omega) ht' (hwe i y' hy')
        exact ⟨t, A, c, hc', hT⟩
      subst hll
      refine ⟨.node k n s l, some p, cap, (by simp only [cellsE, Te.kind, Te.n, Te.name, Te.parts]; rw [capF_of hl]), ein_mk hs hn0 hn1 hlen' ?_⟩
      cases l with
      | nil => trivial
      | cons t0 r =>
        have hps : p.spot = none := by
          obtain ⟨A, c, hc, _⟩ := hq 0 (by simp)
          have := cells6_getS hc 0 (by omega)
          have := spot6_noneS (this.trans (rfl : (cellsE _ _ _)[0]? = some _))
          simpa [Addr.add] using this
        obtain ⟨pb, po, ps⟩ := p
        dsimp only at hps
        subst hps
        refine ELIn.mk (t0 :: r) 0 fun i hi => ?_
        obtain ⟨A, c, hc, hT⟩ := hq i hi
        have hcell : ∀ j, j < 4 → W.cell? ⟨pb, po + i * 4 + j, none⟩ = (cellsE ((t0 :: r)[i]'hi) A c)[j]? := fun j hj => by
          have ea : ((⟨pb, po, none⟩ : Addr).add (i * 4)).add j = ⟨pb, po + i * 4 + j, none⟩ := by
            by_cases hi0 : i * 4 = 0 <;> by_cases hj0 : j = 0 <;> simp [Addr.add, hi0, hj0]
          rw [← cells6_getS hc j hj, ea]
        rw [Nat.zero_add]
        exact ⟨pb, po, A, c, ⟨rfl, trivial⟩, hcell 0 (by omega), hcell 1 (by omega), hcell 2 (by omega), hcell 3 (by omega), hT⟩
/-- The end of a row without variables whose call left all that was there as it was. -/
theorem post_leftS {P : Program} {f : Func} {s : ChangeSpec} {apart fresh handsOn again : Bool} {W W' : World} {args : Array Value} {v : Value} {ds : List (DataW H)} {before : List MemPlace}
    (hW : DataW.Whole enc P f.params.toList s.vars apart W args.toList ds [] before)
    (hres : ∀ (b : Nat) (sp : Nat → Bool) (hd : Bool), DataW.TrodAll enc P W' b sp hd f.resultTypes.toList (v.resultList f.resultTypes.size) (s.fn H (ds ++ [])).results [])
    (hargs : ∀ sp : Nat → Bool, (∀ p ∈ before, sp p.block = true) → DataW.TrodAll enc P W' 0 sp true f.params.toList args.toList (s.fn H (ds ++ [])).args before)
    (hvars : ∀ sp : Nat → Bool, DataW.TrodVars enc P W' sp s.vars (s.fn H (ds ++ [])).vars [])
    (hb : Below W.heap.size W W')
    (hok : ∀ (j : Nat) (t : TypeId) (r : Value), f.resultTypes[j]? = some t → (v.resultList f.resultTypes.size)[j]? = some r → Value.okWide P W' .any 0 t r) :
    s.post enc P f apart fresh handsOn again W args v W' := by
  have hlt : ∀ p ∈ before, p.block < W.heap.size := fun p hp => hW.lt p hp
  refine ⟨ds, [], before, [], before, [], hW, hres _ _ _, hargs _ (fun p hp => by simpa using hlt p hp), hvars _, World.keptBut_mono (fun p hp => ⟨hp, .inr (.inl hp)⟩) (hb.frame (· ∈ before)), fun _ => ?_⟩
  obtain ⟨_, _, _, _, _, hz, hn⟩ := hW
  refine ⟨hok, _, _, ([] ++ before) ++ [], ⟨[] ++ before, [], trodAll_append (hargs _ (fun _ _ => rfl)) (hres _ _ _), hvars _, rfl, ?_, ?_⟩, ?_⟩
  · intro b off hp
    have hin : MemPlace.cell b off ∈ before := by simpa using hp
    rw [hb.frozen (hlt _ hin)]
    exact hz b off hin
  · intro ha
    simpa using hn ha
  · intro p hp _
    simpa using hp
/-- A term among the arguments. -/
theorem term_argS {W : World} {base b0 : Nat} {sp : Nat → Bool} {hd : Bool} {v : Value} {d : DataW H} {ps : List MemPlace} (hval : Value.okWide Try.prog W .any b0 24 v)
    (h : DataW.Trod enc Try.prog W base sp hd 24 v d ps) (hw : ∀ k ∈ DataW.weights Try.prog 24 d, k ≤ reachBytes) : ∃ t A c, v = ev t A c ∧ EIn W Any t A := by
  obtain ⟨cs, rfl, _⟩ := okWide_struct Try.underlying24 hval
  obtain ⟨fuel, hf⟩ := h
  obtain ⟨t, A, c, hcs, hT⟩ := open_termS fuel fuel (Nat.le_refl _) hf hw
  refine ⟨t, A, c, ?_, hT⟩
  have : cs = #[.int .i64 t.kind, .int .i64 t.n, .string t.name, .slice A t.parts.length (capF t.parts.length c)] := Array.ext' hcs
  rw [this]
  rfl
/-- It reads behind the call as it read before. -/
theorem term_againS {W W' : World} {v : Value} {d : DataW H} {ps : List MemPlace} (h : DataW.Trod enc Try.prog W 0 (fun _ => true) true 24 v d ps) (hb : Below W.heap.size W W') (hlt : ∀ x ∈ ps, x.block < W.heap.size)
    {sp : Nat → Bool} (hs : ∀ x ∈ ps, sp x.block = true) : DataW.Trod enc Try.prog W' 0 sp true 24 v d ps :=
  WideElems.Trod_stays (by kernel_rfl) (by kernel_rfl) (of_decide_eq_true (by kernel_rfl)) h (fun x hx => hb.same (hlt x hx)) hs
end
end Lx
end Go.Proofs.Ytgnafcnokenogaa
namespace Go.Proofs.Ytgnafcnokenogaa
open Go.ChangeShapes Go.WideShapes Go.ChangeAt Go.RowKit
namespace Lx
set_option maxRecDepth 100000
section
variable {H : Type} {enc : TypeId × Value → H}
/-- A row of terms among the arguments. -/
theorem list_argS {W : World} {base b0 : Nat} {sp : Nat → Bool} {hd : Bool} {v : Value} {d : DataW H} {ps : List MemPlace} (hval : Value.okWide Try.prog W .any b0 22 v)
    (h : DataW.Trod enc Try.prog W base sp hd 22 v d ps) (hw : ∀ k ∈ DataW.weights Try.prog 22 d, k ≤ reachBytes) : ∃ (l : List Te) (A : Option Addr) (c : Nat), v = .slice A l.length c ∧ l.length ≤ 140737488351232 ∧ ELIn W Any l A 0 := by
  obtain ⟨fuel, hf⟩ := h
  obtain ⟨cs, hcs⟩ : ∃ cs, cs = [v] := ⟨_, rfl⟩
  have hf : DataW.trod enc Try.prog W base sp hd fuel 22 [v] = some (d, ps) := by
    cases v
    case agg cs =>
      exfalso
      unfold Value.okWide at hval
      rw [Try.underlying22] at hval
      unfold Cell.okWide at hval
      rw [Try.underlying22] at hval
      unfold Cell.ok at hval
      rw [Try.underlying22] at hval
      exact hval
    all_goals exact hf
  rcases DataW.trod_slice Try.underlying22 hf with ⟨e1, h1⟩ | ⟨p, len, cap, elems, rest, m', em, e1, h1, hb, hl, hm, hlen, hel, _, _⟩
  · obtain rfl := (List.cons.inj e1).1
    exact ⟨[], none, 0, rfl, by simp, by rw [ELIn]; trivial⟩
  · obtain rfl := (List.cons.inj e1).1
    injection h1 with h1 h2
    subst h1
    have hwe : ∀ (i : Nat) (y' : DataW H × List MemPlace), elems[i]? = some y' → ∀ q ∈ DataW.weights Try.prog 24 y'.1, q ≤ reachBytes := fun i y' hy q hq => hw q (by
      rw [DataW.weights, Try.underlying22]
      have := weights6_memS (elems.map (·.1)) y'.1 (List.mem_map_of_mem (List.mem_of_getElem? hy)) q hq
      simp [this])
    have hlen' : len ≤ 140737488351232 := by
      have := hw ((elems.length + rest.length) * 56) (by
        rw [DataW.weights, Try.underlying22]
        simp [bE56S])
      have : (elems.length + rest.length) * 56 ≤ 140737488351232 := this
      omega
    obtain ⟨l, hll, hq⟩ := row6_ofS (Q := fun i t => ∃ A c, W.cells? base (p.add (i * 4)) 4 = some (cellsE t A c) ∧ EIn W Any t A) len fun i hi => by
      have h1 := hel i hi
      rw [cE4S] at h1
      obtain ⟨y', hy'⟩ : ∃ y', elems[i]? = some y' := ⟨_, List.getElem?_eq_getElem (by omega)⟩
      rw [hy', Option.bind_eq_some_iff] at h1
      obtain ⟨cs', hc', ht'⟩ := h1
      obtain ⟨t, A, c, rfl, hT⟩ := open_termS m' m' (Nat.le_refl _) ht' (hwe i y' hy')
      exact ⟨t, A, c, hc', hT⟩
    subst hll
    refine ⟨l, some p, cap, rfl, hlen', ?_⟩
    cases l with
    | nil => rw [ELIn]; trivial
    | cons t0 r =>
      have hps : p.spot = none := by
        obtain ⟨A, c, hc, _⟩ := hq 0 (by simp)
        have := cells6_getS hc 0 (by omega)
        have := spot6_noneS (this.trans (rfl : (cellsE _ _ _)[0]? = some _))
        simpa [Addr.add] using this
      obtain ⟨pb, po, ps'⟩ := p
      dsimp only at hps
      subst hps
      refine ELIn.mk (t0 :: r) 0 fun i hi => ?_
      obtain ⟨A, c, hc, hT⟩ := hq i hi
      have hcell : ∀ j, j < 4 → W.cell? ⟨pb, po + i * 4 + j, none⟩ = (cellsE ((t0 :: r)[i]'hi) A c)[j]? := fun j hj => by
        have ea : ((⟨pb, po, none⟩ : Addr).add (i * 4)).add j = ⟨pb, po + i * 4 + j, none⟩ := by
          by_cases hi0 : i * 4 = 0 <;> by_cases hj0 : j = 0 <;> simp [Addr.add, hi0, hj0]
        rw [← cells6_getS hc j hj, ea]
      rw [Nat.zero_add]
      exact ⟨pb, po, A, c, ⟨rfl, trivial⟩, hcell 0 (by omega), hcell 1 (by omega), hcell 2 (by omega), hcell 3 (by omega), hT⟩
theorem list_againS {W W' : World} {v : Value} {d : DataW H} {ps : List MemPlace} (h : DataW.Trod enc Try.prog W 0 (fun _ => true) true 22 v d ps) (hb : Below W.heap.size W W') (hlt : ∀ x ∈ ps, x.block < W.heap.size)
    {sp : Nat → Bool} (hs : ∀ x ∈ ps, sp x.block = true) : DataW.Trod enc Try.prog W' 0 sp true 22 v d ps :=
  WideElems.Trod_stays (by kernel_rfl) (by kernel_rfl) (of_decide_eq_true (by kernel_rfl)) h (fun x hx => hb.same (hlt x hx)) hs
end
end Lx
end Go.Proofs.Ytgnafcnokenogaa
