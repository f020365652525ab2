/-
  Texts that lie one behind the other: UsP UsT.
-/
import Derived.Test.YtikchgigakbeiaaC2
import Derived.Deep.Cut
namespace Go.Proofs.Ytikchgigakbeiaa
open Go Go.RowKit
namespace Lx
set_option maxRecDepth 100000
/-- A node's own binders' uses. -/
def ownE (k n : Int) (l : List Te) : List Int :=
  match l with
  | [] => []
  | t :: _ => (List.range (toldN k n)).map fun (i : Nat) => (usesE t (moreE k n - 1 - (i : Int)) : Int)
mutual
/-- The uses of each binder, in order. -/
def ofE : Te → List Int
  | .node k n _ l => ownE k n l ++ ofEL l
def ofEL : List Te → List Int
  | [] => []
  | t :: r => ofE t ++ ofEL r
end
theorem ofEL_drop (l : List Te) (i : Nat) (h : i < l.length) : ofEL (l.drop i) = ofE (l[i]'h) ++ ofEL (l.drop (i + 1)) := by rw [List.drop_eq_getElem_cons h, ofEL]
theorem usesEL_drop (l : List Te) (i : Nat) (h : i < l.length) (j : Int) : usesEL (l.drop i) j = usesE (l[i]'h) j + usesEL (l.drop (i + 1)) j := by rw [List.drop_eq_getElem_cons h, usesEL]
theorem sizeEL_drop (l : List Te) (i : Nat) (h : i < l.length) : sizeEL (l.drop i) = sizeE (l[i]'h) + sizeEL (l.drop (i + 1)) := by rw [List.drop_eq_getElem_cons h, sizeEL]
theorem ofEL_split (l : List Te) (i : Nat) : ofEL l = ofEL (l.take i) ++ ofEL (l.drop i) := by
  induction l generalizing i with
  | nil => simp [ofEL]
  | cons t r ih =>
    cases i with
    | zero => simp [ofEL]
    | succ i => simp only [List.take_succ_cons, List.drop_succ_cons, ofEL, ih i, List.append_assoc]
theorem of_rev (k n : Int) (s : ByteArray) (t0 : Te) (r : List Te) : (ofE (.node k n s (t0 :: r))).reverse = (ofEL r).reverse ++ ((ofE t0).reverse ++ (ownE k n (t0 :: r)).reverse) := by
  rw [ofE, ofEL]
  simp [List.append_assoc]
theorem drop_rev (xs : List Int) (i : Nat) : (xs.drop i).reverse <+: xs.reverse := ⟨(xs.take i).reverse, by rw [← List.reverse_append, List.take_append_drop]⟩
theorem ofEL_rev (r : List Te) (i : Nat) : (ofEL (r.drop i)).reverse <+: (ofEL r).reverse := ⟨(ofEL (r.take i)).reverse, by rw [← List.reverse_append, ← ofEL_split]⟩
theorem app_pref {a b c full : List Int} (h : b <+: c) (hf : a ++ c <+: full) : a ++ b <+: full := (List.prefix_append_right_inj a |>.2 h).trans hf
theorem sizeEL_drop_le (l : List Te) : ∀ i, sizeEL (l.drop i) ≤ sizeEL l := by
  induction l with
  | nil => simp
  | cons t r ih =>
    intro i
    cases i with
    | zero => simp
    | succ i => rw [List.drop_succ_cons, sizeEL]; have := ih i; omega
/-- The numbers of a map behind a term that was gone through within b binders. -/
def keyC (C : Int → Int) (t : Te) (b : Int) : Int → Int := fun v => C v + (usesE t (b - 1 - v) : Int)
def keyCL (C : Int → Int) (l : List Te) (b : Int) : Int → Int := fun v => C v + (usesEL l (b - 1 - v) : Int)
theorem keyCL_nil (C : Int → Int) (b : Int) : keyCL C [] b = C := by funext v; simp [keyCL, usesEL]
theorem keyCL_drop (C : Int → Int) (l : List Te) (b : Int) (i : Nat) (h : i < l.length) : keyC (keyCL C (l.drop (i + 1)) b) (l[i]'h) b = keyCL C (l.drop i) b := by
  funext v
  simp only [keyC, keyCL, usesEL_drop l i h]
  omega
theorem keyC_cons (C : Int → Int) (t : Te) (r : List Te) (b : Int) : keyC (keyCL C r b) t b = keyCL C (t :: r) b := by
  funext v
  simp only [keyC, keyCL, usesEL]
  omega
theorem keyC_node (C : Int → Int) (k n : Int) (s : ByteArray) (l : List Te) (b : Int) (hk : k ≠ 1) : keyC C (.node k n s l) b = keyCL C l (b + moreE k n) := by
  funext v
  simp only [keyC, keyCL, usesE, if_neg hk]
  rw [show b - 1 - v + moreE k n = b + moreE k n - 1 - v from by omega]
theorem keyC_var (C : Int → Int) (n : Int) (s : ByteArray) (b : Int) : keyC C (.node 1 n s []) b = fun v => if v = b - 1 - n then C v + 1 else C v := by
  funext v
  simp only [keyC, usesE, if_pos]
  split
  · rename_i h; rw [if_pos (by omega)]; omega
  · rename_i h; rw [if_neg (by omega)]; omega
theorem keyC_bound {C : Int → Int} {N : Nat} (hC : ∀ v, 0 ≤ C v ∧ C v ≤ N) (t : Te) (b : Int) : ∀ v, 0 ≤ keyC C t b v ∧ keyC C t b v ≤ (N + sizeE t : Nat) := by
  intro v
  have h1 := hC v
  have h2 := usesE_le t (b - 1 - v)
  simp only [keyC]
  omega
theorem keyCL_bound {C : Int → Int} {N : Nat} (hC : ∀ v, 0 ≤ C v ∧ C v ≤ N) (l : List Te) (b : Int) : ∀ v, 0 ≤ keyCL C l b v ∧ keyCL C l b v ≤ (N + sizeEL l : Nat) := by
  intro v
  have h1 := hC v
  have h2 := usesEL_le l (b - 1 - v)
  simp only [keyCL]
  omega
/-- What a node yields of its own, of the numbers behind its first part less those ahead of it. -/
theorem own_is (C : Int → Int) (k n : Int) (t : Te) (r : List Te) (b : Int) (i : Nat) (hi : i < toldN k n) :
    (ownE k n (t :: r))[i]? = some (keyC C t (b + moreE k n) (b + (i : Int)) - C (b + (i : Int))) := by
  simp only [ownE, keyC]
  rw [List.getElem?_map, List.getElem?_range hi]
  simp only [Option.map_some]
  rw [show b + moreE k n - 1 - (b + (i : Int)) = moreE k n - 1 - (i : Int) from by omega]
  congr 1
  omega
theorem ownE_len (k n : Int) (t : Te) (r : List Te) : (ownE k n (t :: r)).length = toldN k n := by simp [ownE]
mutual
theorem ofE_len : ∀ t : Te, (ofE t).length ≤ 8 * sizeE t
  | .node k n s l => by
    have := ofEL_len l
    rw [ofE, sizeE, List.length_append]
    have : (ownE k n l).length ≤ 8 := by
      cases l with
      | nil => simp [ownE]
      | cons t r => rw [ownE_len, toldN]; omega
    omega
theorem ofEL_len : ∀ l : List Te, (ofEL l).length ≤ 8 * sizeEL l
  | [] => by simp [ofEL]
  | t :: r => by rw [ofEL, sizeEL, List.length_append]; have := ofE_len t; have := ofEL_len r; omega
end
/-- Who asks for numbers, one by one, of which J holds between two rounds, and Jx once no more are wanted: it stands on Z's blocks alone. -/
structure Asks (l : Nat) (full : List Int) (J Jx : List Int → (Nat → Prop) → World → Prop) : Prop where
  frame : ∀ pre Z A B, J pre Z A → A.heap.size ≤ B.heap.size → (∀ k, Z k → B.heap[k]? = A.heap[k]?) → J pre Z B
  frameX : ∀ pre Z A B, Jx pre Z A → A.heap.size ≤ B.heap.size → (∀ k, Z k → B.heap[k]? = A.heap[k]?) → Jx pre Z B
  lt : ∀ pre Z A, J pre Z A → ∀ k, Z k → k < A.heap.size
  ltX : ∀ pre Z A, Jx pre Z A → ∀ k, Z k → k < A.heap.size
  round : ∀ pre x Z A, J pre Z A → pre ++ [x] <+: full → YieldAt Fence.wide 0 Try.prog l #[.int .i64 x] A fun e B => ∃ (r : Bool) (Z' : Nat → Prop), e = .returned (.bool r) ∧ Gz (fun _ => False) Z A Z' B ∧
    (r = true → J (pre ++ [x]) Z' B) ∧ (r = false → Jx (pre ++ [x]) Z' B)
/-- One's own steps leave who asks as he is. -/
theorem Asks.own {l : Nat} {full : List Int} {J Jx : List Int → (Nat → Prop) → World → Prop} (h : Asks l full J Jx) {pre : List Int} {Z E : Nat → Prop} {A B : World} (hJ : J pre Z A) (hG : Gz E (fun _ => False) A (fun _ => False) B) (hE : ∀ k, Z k → ¬ E k) : J pre Z B :=
  h.frame pre Z A B hJ hG.size fun k hk => hG.same k (h.lt pre Z A hJ k hk) (fun h => h) (hE k hk)
theorem Asks.ownX {l : Nat} {full : List Int} {J Jx : List Int → (Nat → Prop) → World → Prop} (h : Asks l full J Jx) {pre : List Int} {Z E : Nat → Prop} {A B : World} (hJ : Jx pre Z A) (hG : Gz E (fun _ => False) A (fun _ => False) B) (hE : ∀ k, Z k → ¬ E k) : Jx pre Z B :=
  h.frameX pre Z A B hJ hG.size fun k hk => hG.same k (h.ltX pre Z A hJ k hk) (fun h => h) (hE k hk)
/-- One's own steps, whoever asks. -/
theorem Gz.any {E Z : Nat → Prop} {A B : World} (h : Gz E (fun _ => False) A (fun _ => False) B) : Gz E Z A Z B :=
  ⟨h.os, h.tape, h.output, h.size, fun k hk _ he => h.same k hk (fun h => h) he, fun _ hz => .inl hz⟩
abbrev No : Nat → Prop := fun _ => False
/-- The captured boxes of the closure that goes through. -/
structure Held (l M T Yb bm : Nat) (W : World) : Prop where
  m : W.cell? ⟨M, 0, none⟩ = some (.map (some bm))
  t : W.cell? ⟨T, 0, none⟩ = some (.func (.func 34) #[] #[.pointer (some ⟨M, 0, none⟩), .pointer (some ⟨T, 0, none⟩), .pointer (some ⟨Yb, 0, none⟩)])
  y : W.cell? ⟨Yb, 0, none⟩ = some (.func (.yield l) #[] #[])
theorem Gz.cell {E Z Z' : Nat → Prop} {A B : World} (h : Gz E Z A Z' B) {k i : Nat} {v : Value} (hc : A.cell? ⟨k, i, none⟩ = some v) (hz : ¬ Z k) (he : ¬ E k) : B.cell? ⟨k, i, none⟩ = some v :=
  (World.cell?_of_block (h.same k (World.block_lt_of_cell? A ⟨k, i, none⟩ hc) hz he)).trans hc
theorem Held.gz {l M T Yb bm : Nat} {E Z Z' : Nat → Prop} {A B : World} (h : Held l M T Yb bm A) (hG : Gz E Z A Z' B) (hz : ∀ k, k = M ∨ k = T ∨ k = Yb → ¬ Z k ∧ ¬ E k) : Held l M T Yb bm B :=
  ⟨hG.cell h.m (hz M (by simp)).1 (hz M (by simp)).2, hG.cell h.t (hz T (by simp)).1 (hz T (by simp)).2, hG.cell h.y (hz Yb (by simp)).1 (hz Yb (by simp)).2⟩
theorem EIn.gz {X E Z Z' : Nat → Prop} {A B : World} (t : Te) {a : Option Addr} (h : EIn A X t a) (hG : Gz E Z A Z' B) (hX : ∀ g, X g → ¬ Z g ∧ ¬ E g) : EIn B X t a :=
  EIn.keep t h fun g _j hg hlt => ⟨World.cell?_of_block (hG.same g hlt (hX g hg).1 (hX g hg).2), hg⟩
theorem ELIn.gz {X E Z Z' : Nat → Prop} {A B : World} (t : List Te) {a : Option Addr} {i : Nat} (h : ELIn A X t a i) (hG : Gz E Z A Z' B) (hX : ∀ g, X g → ¬ Z g ∧ ¬ E g) : ELIn B X t a i :=
  ELIn.keep t h fun g _j hg hlt => ⟨World.cell?_of_block (hG.same g hlt (hX g hg).1 (hX g hg).2), hg⟩
theorem MapIs.mono {W : World} {bm N N' : Nat} {C : Int → Int} (h : MapIs W bm N C) (hN : N ≤ N') : MapIs W bm N' C := by
  obtain ⟨n, D, hw, hn, hC⟩ := h
  exact ⟨n, D, hw, by omega, hC⟩
theorem drop_snoc_rev (xs : List Int) (i : Nat) (x : Int) (h : xs[i]? = some x) : (xs.drop (i + 1)).reverse ++ [x] = (xs.drop i).reverse := by
  obtain ⟨hi, rfl⟩ := List.getElem?_eq_some_iff.1 h
  rw [List.drop_eq_getElem_cons hi, List.reverse_cons]
/-- What the closure that goes through answers of a term within b binders. -/
def ThrPost (_l _M _T _Yb bm : Nat) (full : List Int) (J Jx : List Int → (Nat → Prop) → World → Prop) (t : Te) (b : Int) (N : Nat) (C : Int → Int) (pre : List Int) (Z : Nat → Prop) (W : World) (e : Ending) (W' : World) : Prop :=
  ∃ (r : Bool) (Z' : Nat → Prop), e = .returned (.bool r) ∧ Gz (· = bm) Z W Z' W' ∧
    (r = true → MapIs W' bm (N + sizeE t) (keyC C t b) ∧ J (pre ++ (ofE t).reverse) Z' W') ∧ (r = false → ∃ q, pre ++ q <+: full ∧ Jx (pre ++ q) Z' W')
/-- What it asks. -/
structure ThrPre (l M T Yb bm : Nat) (full : List Int) (J : List Int → (Nat → Prop) → World → Prop) (X : Nat → Prop) (t : Te) (A : Option Addr) (d : Nat) (b : Int) (N : Nat) (C : Int → Int) (pre : List Int) (Z : Nat → Prop) (W : World) : Prop where
  dep : depthE t ≤ d
  dep4 : d ≤ 4000
  siz : N + sizeE t ≤ 1000000000000
  tame : tameE 1099511627776 1099511627776 t
  b0 : -(1099511627776 * (8000 - (d : Int))) ≤ b
  b1 : b ≤ 1099511627776 * (8000 - (d : Int))
  lies : EIn W X t A
  mapi : MapIs W bm N C
  cbd : ∀ v, 0 ≤ C v ∧ C v ≤ N
  held : Held l M T Yb bm W
  asks : J pre Z W
  offX : ∀ g, X g → g < W.heap.size ∧ ¬ Z g ∧ g ≠ bm
  offM : ∀ k, k = M ∨ k = T ∨ k = Yb → ¬ Z k ∧ k ≠ bm
  offB : ¬ Z bm
  pref : pre ++ (ofE t).reverse <+: full
theorem ownsRow_base {W : World} {b b' e sz n : Nat} {v : Value} {xs : List Value} (h : W.ownsRow b e sz v n xs) (hb : b' ≤ b) : W.ownsRow b' e sz v n xs := by
  obtain ⟨hl, h | ⟨g, cap, cur, h1, h2, h3⟩⟩ := h
  · exact ⟨hl, .inl h⟩
  · exact ⟨hl, .inr ⟨g, cap, cur, h1, Nat.le_trans hb h2, h3⟩⟩
theorem ownsRow_slice {W : World} {b e sz n : Nat} {v : Value} {xs : List Value} (h : W.ownsRow b e sz v n xs) : ∃ A c, v = .slice A n c ∧ (0 < n → ∃ g, A = some ⟨g, 0, none⟩) := by
  obtain ⟨_, ⟨h1, h2⟩ | ⟨g, cap, cur, h1, _⟩⟩ := h
  · subst h2; exact ⟨_, _, h1, fun h => absurd h (by omega)⟩
  · exact ⟨_, _, h1, fun _ => ⟨g, rfl⟩⟩
theorem ownsRow_cells {W : World} {b e n : Nat} {A : Option Addr} {c : Nat} {C : Int → Int} {x : Int} (h : W.ownsRow b e 1 (.slice A n c) n (vI (rowC C x n))) (hn : 0 < n) :
    ∃ g, A = some ⟨g, 0, none⟩ ∧ b ≤ g ∧ g < W.heap.size ∧ ∀ j : Nat, j < n → W.cell? ⟨g, j, none⟩ = some (.int .i64 (C (x + (j : Int)))) := by
  obtain ⟨hl, ⟨_, h2⟩ | ⟨g, cap, cur, h1, h2, h3, h4, h5, h6, h7⟩⟩ := h
  · omega
  · injection h1 with hA _ hc
    refine ⟨g, hA, h2, (Array.getElem?_eq_some_iff.1 h3).1, fun j hj => ?_⟩
    have hj2 : j < n * 1 := by omega
    have e1 : (cur.toList.take (n * 1))[j]? = cur.toList[j]? := List.getElem?_take_of_lt hj2
    rw [h7] at e1
    have e2 : (vI (rowC C x n))[j]? = some (.int .i64 (C (x + (j : Int)))) := by
      simp only [vI, rowC, List.map_map]
      rw [List.getElem?_map, List.getElem?_range hj]
      rfl
    rw [e2] at e1
    rw [cell_of_row W g j cur e (0, 0) h3]
    simpa using e1.symm
/-- A row's slice is stored in a box of one's own. -/
theorem own_put {A W : World} {gb n : Nat} {e t : TypeId} {v : Value} {xs : List Value} {z : Value} (h : W.ownsRow A.heap.size e 1 v n xs) (hn : ∀ q, v.ownBlock = some q → q ≠ gb) (L : Lies W gb t #[z]) (hb : Below A.heap.size A W) (hg : A.heap.size ≤ gb) :
    Lies (W.setCell ⟨gb, 0, none⟩ v) gb t #[v] ∧ (W.setCell ⟨gb, 0, none⟩ v).ownsRow A.heap.size e 1 v n xs ∧ Below A.heap.size A (W.setCell ⟨gb, 0, none⟩ v) := by
  refine ⟨by have := L.put 0 v; simpa using this, ?_, hb.setCell (p := ⟨gb, 0, none⟩) hg _⟩
  obtain ⟨hl, h | ⟨g, cap, cur, h1, h2, h3, h4⟩⟩ := h
  · exact ⟨hl, .inl h⟩
  · refine ⟨hl, .inr ⟨g, cap, cur, h1, h2, (Below.heap_setCell W ⟨gb, 0, none⟩ v g ?_).trans h3, h4⟩⟩
    exact hn g (by rw [h1]; rfl)
end Lx
end Go.Proofs.Ytikchgigakbeiaa
namespace Go.Proofs.Ytikchgigakbeiaa
open Go Go.RowKit
namespace Lx
set_option maxRecDepth 100000
theorem MapIs.put {w' : World} {bm n N : Nat} {D : DataW Unit} {C : Int → Int} {x y : Int} (h : w'.ownsMap Try.prog 3 (plainElem Try.prog 3) bm (n + 1) (D.put (.int .i64 x) (.lit (.int .i64 y)))) (hn : n ≤ N) (hD : Maps.IsMap D)
    (hC : ∀ x : Int, D.atKey (.int .i64 x) (.lit (.int .i64 0)) = .lit (.int .i64 (C x))) : MapIs w' bm (N + 1) (fun v => if v = x then y else C v) := by
  refine ⟨n + 1, _, h, by omega, fun v => ?_⟩
  by_cases hv : v = x
  · subst hv
    simp only [if_pos]
    exact Maps.atKey_put_same hD (k := .int .i64 v) (by unfold WideAt.IsKeyLit; trivial) _ _
  · simp only [if_neg hv]
    rw [Maps.atKey_put_other (fun e => hv (by injection e))]
    exact hC v
theorem Gz.grown {E Z Z' : Nat → Prop} {A B C : World} {row : Option Nat} (h : Gz E Z A Z' B) (hg : B.grownBy C row) (hr : ∀ k, row = some k → A.heap.size ≤ k ∨ E k) : Gz E Z A Z' C :=
  ⟨hg.os.trans h.os, hg.tape.trans h.tape, hg.output.trans h.output, Nat.le_trans h.size hg.size,
    fun k hk hz he => (hg.block k (by have := h.size; omega) (fun e => (hr k e.symm).elim (fun h' => by omega) he)).trans (h.same k hk hz he), h.ext⟩
theorem Gz.setCell {E Z Z' : Nat → Prop} {A B : World} (h : Gz E Z A Z' B) (p : Addr) (v : Value) (hp : A.heap.size ≤ p.block ∨ E p.block) : Gz E Z A Z' (B.setCell p v) :=
  ⟨h.os, h.tape, h.output, by rw [show (B.setCell p v).heap.size = B.heap.size from by simp [World.setCell]]; exact h.size,
    fun k hk hz he => (Below.heap_setCell B p v k (fun e => by subst e; exact hp.elim (fun h' => by omega) he)).trans (h.same k hk hz he), h.ext⟩
theorem load_bool {W : World} {g : Nat} {r : Bool} (hc : W.cell? ⟨g, 0, none⟩ = some (.bool r)) : (loadVar 4 ⟨g, 0, none⟩).run Try.prog W = .ok (.bool r) W := by
  have := Try.underlying4
  go_simp
theorem results_bool {fn : Func} {p : Tmp} (h : fn.results = #[.cell p 4]) (tmps : Array Value) {W : World} {g : Nat} {r : Bool} (hp : tmps.getD p undef = .pointer (some ⟨g, 0, none⟩)) (hc : W.cell? ⟨g, 0, none⟩ = some (.bool r)) :
    (results fn tmps).run Try.prog W = .ok (.bool r) W := by
  have hp' : tmps[p]?.getD undef = .pointer (some ⟨g, 0, none⟩) := by simpa using hp
  simp [results, h, hp', asAddr, load_bool hc]
section
variable {l M T Yb bm : Nat} {full : List Int} {J Jx : List Int → (Nat → Prop) → World → Prop} {X : Nat → Prop}
abbrev thrArgs (M T Yb : Nat) (v : Value) (b : Int) : Array Value := #[v, .int .i64 b, .pointer (some ⟨M, 0, none⟩), .pointer (some ⟨T, 0, none⟩), .pointer (some ⟨Yb, 0, none⟩)]
set_option maxHeartbeats 4000000 in
theorem thr_var (hA : Asks l full J Jx) (d : Nat) (n : Int) (s : ByteArray) (A : Option Addr) (c : Nat) (b : Int) (N : Nat) (C : Int → Int) (pre : List Int) (Z : Nat → Prop) (W : World)
    (h : ThrPre l M T Yb bm full J X (.node 1 n s []) A d b N C pre Z W) :
    Calls Try.prog 34 (thrArgs M T Yb (ev (.node 1 n s []) A c) b) W (ThrPost l M T Yb bm full J Jx (.node 1 n s []) b N C pre Z W) := by
  show Calls Try.prog 34 #[.agg #[.int .i64 1, .int .i64 n, .string s, .slice A 0 (capF 0 c)], .int .i64 b, .pointer (some ⟨M, 0, none⟩), .pointer (some ⟨T, 0, none⟩), .pointer (some ⟨Yb, 0, none⟩)] W _
  generalize capF 0 c = c
  obtain ⟨hdep, hd4, hsz, htame, hb0, hb1, _, hmap, hcb, hheld, hask, hoX, hoM, hoB, hpre⟩ := h
  rw [tameE] at htame
  obtain ⟨hn0, hn1, _⟩ := htame.1 rfl
  have hbm := hmap.lt
  obtain ⟨q, D, hown, hqN, hC⟩ := hmap
  have hD : Maps.IsMap D := by obtain ⟨es, clock, _, _, _, hD⟩ := hown; exact ⟨_, hD⟩
  have hM := hheld.m
  have hMs : M < W.heap.size := World.block_lt_of_cell? W _ hM
  obtain ⟨w3, hw3⟩ : ∃ w3, w3 = ((W.alloc (.cells #[.int .i64 1, .int .i64 n, .string s, .slice A 0 c] 24)).alloc (.cells #[.int .i64 b] 3)).alloc (.cells #[.bool false] 4) := ⟨_, rfl⟩
  have hG : Gz No No W No w3 := by rw [hw3]; exact (((Gz.refl _ _ _).alloc _).alloc _).alloc _
  have hs3 : w3.heap.size = W.heap.size + 3 := by rw [hw3]; simp
  have L0 : Lies w3 W.heap.size 24 #[.int .i64 1, .int .i64 n, .string s, .slice A 0 c] := by rw [hw3]; exact ((Lies.new _ _ _).old _).old _
  have L1 : Lies w3 (W.heap.size + 1) 3 #[.int .i64 b] := by rw [hw3]; exact (lies_next _ _ _ _ (by simp)).old _
  have L2 : Lies w3 (W.heap.size + 2) 4 #[.bool false] := by rw [hw3]; exact lies_next _ _ _ _ (by simp)
  have hown3 : w3.ownsMap Try.prog 3 (plainElem Try.prog 3) bm q D := by
    obtain ⟨es, clock, hw, F, hs, hD⟩ := hown
    exact ⟨es, clock, hG.heap hw (fun h => h) (fun h => h), F, hs, hD⟩
  have hM3 : w3.cell? ⟨M, 0, none⟩ = some (.map (some bm)) := hG.cell hM (fun h => h) (fun h => h)
  have hkw : (Lit.int .i64 (b - 1 - n)).wf = true := lit_wf (by omega) (by omega)
  have hcv := hcb (b - 1 - n)
  have HC := Lib.hid hC
  have hPost : ∀ wx, wx.ownsMap Try.prog 3 (plainElem Try.prog 3) bm (q + 1) (D.put (.int .i64 (b - 1 - n)) (.lit (.int .i64 (C (b - 1 - n) + 1)))) → w3.grownBy wx (some bm) →
      ThrPost l M T Yb bm full J Jx (.node 1 n s []) b N C pre Z W (.returned (.bool true)) (wx.setCell ⟨W.heap.size + 2, 0, none⟩ (.bool true)) := by
    intro wx hox hgx
    have hG4 : Gz (· = bm) No W No (wx.setCell ⟨W.heap.size + 2, 0, none⟩ (.bool true)) := ((hG.more (fun _ h => h.elim)).grown hgx (fun k e => by injection e with e; exact .inr e.symm)).setCell _ _ (.inl (by show _ ≤ W.heap.size + 2; omega))
    refine ⟨true, Z, rfl, hG4.any, fun _ => ⟨?_, ?_⟩, fun h => by cases h⟩
    · have hp := MapIs.put hox hqN hD hC
      rw [keyC_var]
      have hss : sizeE (.node 1 n s []) = 1 := by simp [sizeE, sizeEL]
      rw [hss]
      have hcc : (fun v => if v = b - 1 - n then C (b - 1 - n) + 1 else C v) = (fun v => if v = b - 1 - n then C v + 1 else C v) := by
        funext v; split
        · rename_i h; rw [h]
        · rfl
      rw [← hcc]
      exact hp.heap (Below.heap_setCell _ _ _ _ (by show bm ≠ W.heap.size + 2; omega))
    · have : (ofE (.node 1 n s [])).reverse = [] := by simp [ofE, ofEL, ownE]
      rw [this, List.append_nil]
      exact hA.own hask hG4 fun k hz e => hoB (e ▸ hz)
  obtain ⟨R, hR⟩ : ∃ R, R = ThrPost l M T Yb bm full J Jx (.node 1 n s []) b N C pre Z W := ⟨_, rfl⟩
  rw [← hR] at hPost ⊢
  have HP := Lib.hid hPost
  have c0 := L0.four
  have b0 := L1.cell 0
  simp at b0
  have HG : Hid (∀ wx, w3.grownBy wx (some bm) → wx.cell? ⟨W.heap.size, 3, none⟩ = some (.slice A 0 c) ∧ wx.cell? ⟨W.heap.size + 1 + 1, 0, none⟩ = some (.bool false) ∧ wx.frozen? ⟨W.heap.size + 1 + 1, 0, none⟩ = false) := Lib.hid fun wx hg => by
    have hne : some W.heap.size ≠ some bm := fun e => by injection e with e; omega
    have hne2 : some (W.heap.size + 1 + 1) ≠ some bm := fun e => by injection e with e; omega
    exact ⟨(World.cell?_of_block (hg.block W.heap.size (by omega) hne)).trans (L0.cell 3), (World.cell?_of_block (hg.block (W.heap.size + 1 + 1) (by omega) hne2)).trans (L2.cell 0), (World.frozen?_of_block (hg.block (W.heap.size + 1 + 1) (by omega) hne2)).trans (L2.frozen 0)⟩
  clear hPost hR hC hask hheld hM hoX hoM hoB hpre hG htame hcb hdep hd4 L0 L1 hown hA
  go_enter Try.func34, Try.ntmps34
  go_upto_region 1 with fail
  rw [← hw3]
  clear hw3
  go_wp2_with (first
        | (at_lookup; refine wpList_lookup_own_int _ rfl _ _ 50 rfl 3 3 .i64 (Maps.int_keyed Try.underlying3) Try.underlying50 Try.underlying3 (Try.zeroValue3 _) bm q D rfl hown3 _ _ rfl (Maps.keyOf_int_mk Try.underlying3 hkw) ?_; intro cc hat hwc; obtain rfl : cc = C (b - 1 - n) := (by rw [HC.out] at hat; injection hat with hat; injection hat with _ hat; exact hat.symm))
        | (at_mapUpdate; refine wpList_mapUpdate_own _ rfl _ _ _ 50 rfl 3 3 (Maps.int_keyed Try.underlying3) Try.underlying50 _ bm q D rfl hown3 (by simp only [maxLen]; omega) _ _ _ rfl rfl (Maps.keyOf_int_mk Try.underlying3 hkw) _ [] (plainElem_int Try.underlying3 (lit_wf (by omega) (by omega))) ?_; intro w1 hown1 hgrow1; obtain ⟨x3, r1, rf1⟩ := HG.out w1 hgrow1))
  try simp only [Exit.inBlock, Exit.then]
  refine bodyPost_ret (results_bool rfl _ (g := W.heap.size + 1 + 1) (r := true) rfl (World.cell?_setCell_same' _ _ _ (by rw [r1]; rfl))) rfl ?_
  exact HP.out _ hown1 hgrow1
set_option maxHeartbeats 4000000 in
theorem thr_leaf (hA : Asks l full J Jx) (d : Nat) (k n : Int) (s : ByteArray) (A : Option Addr) (c : Nat) (b : Int) (N : Nat) (C : Int → Int) (pre : List Int) (Z : Nat → Prop) (W : World) (hk : k ≠ 1)
    (h : ThrPre l M T Yb bm full J X (.node k n s []) A d b N C pre Z W) :
    Calls Try.prog 34 (thrArgs M T Yb (ev (.node k n s []) A c) b) W (ThrPost l M T Yb bm full J Jx (.node k n s []) b N C pre Z W) := by
  show Calls Try.prog 34 #[.agg #[.int .i64 k, .int .i64 n, .string s, .slice A 0 (capF 0 c)], .int .i64 b, .pointer (some ⟨M, 0, none⟩), .pointer (some ⟨T, 0, none⟩), .pointer (some ⟨Yb, 0, none⟩)] W _
  generalize capF 0 c = c
  obtain ⟨w3, hw3⟩ : ∃ w3, w3 = ((W.alloc (.cells #[.int .i64 k, .int .i64 n, .string s, .slice A 0 c] 24)).alloc (.cells #[.int .i64 b] 3)).alloc (.cells #[.bool false] 4) := ⟨_, rfl⟩
  have hG : Gz No No W No w3 := by rw [hw3]; exact (((Gz.refl _ _ _).alloc _).alloc _).alloc _
  have hs3 : w3.heap.size = W.heap.size + 3 := by rw [hw3]; simp
  have L0 : Lies w3 W.heap.size 24 #[.int .i64 k, .int .i64 n, .string s, .slice A 0 c] := by rw [hw3]; exact ((Lies.new _ _ _).old _).old _
  have L2 : Lies w3 (W.heap.size + 2) 4 #[.bool false] := by rw [hw3]; exact lies_next _ _ _ _ (by simp)
  have hPost : ThrPost l M T Yb bm full J Jx (.node k n s []) b N C pre Z W (.returned (.bool true)) (w3.setCell ⟨W.heap.size + 2, 0, none⟩ (.bool true)) := by
    have hG4 : Gz (· = bm) No W No (w3.setCell ⟨W.heap.size + 2, 0, none⟩ (.bool true)) := (hG.more (fun _ h => h.elim)).setCell _ _ (.inl (by show _ ≤ W.heap.size + 2; omega))
    have hG5 : Gz No No W No (w3.setCell ⟨W.heap.size + 2, 0, none⟩ (.bool true)) := hG.setCell _ _ (.inl (by show _ ≤ W.heap.size + 2; omega))
    refine ⟨true, Z, rfl, hG4.any, fun _ => ⟨?_, ?_⟩, fun h => by cases h⟩
    · rw [keyC_node C k n s [] b hk, keyCL_nil]
      obtain ⟨q, D, hown, hqN, hC⟩ := h.mapi
      have hss : sizeE (.node k n s []) = 1 := by simp [sizeE, sizeEL]
      have hm2 : MapIs W bm (N + sizeE (.node k n s [])) C := ⟨q, D, hown, by omega, hC⟩
      exact hm2.heap (hG5.same bm h.mapi.lt (fun h => h) (fun h => h))
    · have : (ofE (.node k n s [])).reverse = [] := by simp [ofE, ofEL, ownE]
      rw [this, List.append_nil]
      exact hA.own h.asks hG5 fun k hz e => e
  obtain ⟨R, hR⟩ : ∃ R, R = ThrPost l M T Yb bm full J Jx (.node k n s []) b N C pre Z W := ⟨_, rfl⟩
  rw [← hR] at hPost ⊢
  have HP := Lib.hid hPost
  have c0 := L0.four
  have r1 : w3.cell? ⟨W.heap.size + 1 + 1, 0, none⟩ = some (.bool false) := L2.cell 0
  have rf1 : w3.frozen? ⟨W.heap.size + 1 + 1, 0, none⟩ = false := L2.frozen 0
  have hk1 : (k == 1) = false := by simpa using hk
  clear hPost hR hG L0 L2 hA h hk
  go_enter Try.func34, Try.ntmps34
  go_upto_region 1 with fail
  rw [← hw3]
  clear hw3
  go_wp2_with fail
  try simp only [Exit.inBlock, Exit.then]
  refine bodyPost_ret (results_bool rfl _ (g := W.heap.size + 1 + 1) (r := true) rfl (World.cell?_setCell_same' _ _ _ (by rw [r1]; rfl))) rfl ?_
  exact HP.out
end
end Lx
end Go.Proofs.Ytikchgigakbeiaa
