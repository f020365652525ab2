/-
  Texts that lie one behind the other: PRd PSees PTake PLeaf PModel PAtom PApp POp PRow PSum PCmp PLam PLet PCon PExpr PChain.
-/
import Derived.Test.YteabbkhlgnoliaaGreatDoorK1
import Derived.Test.YteabbkhlgnoliaaGreatDoorK3
import Derived.Deep.DeepCutAuto
import Derived.Deep.AppendLies
namespace Go.Proofs.YteabbkhlgnoliaaGreatDoor
open Go.RowKit
namespace Lx
set_option maxRecDepth 100000
def Tok.val (t : Tok) : Value := .agg #[.int .i64 t.kind, .string ⟨t.text.toArray⟩, .int .i64 t.n, .int .i64 t.place]
/-- The reader in block r has the tokens l ahead, of a text that ends at e. -/
structure Rd (W : World) (r Tb : Nat) (l : List Tok) (e : Int) : Prop where
  small : l.length ≤ 60000
  txt : ∀ t ∈ l, t.text.length ≤ 60000
  par : ∀ t ∈ l, t.kind = 2 → (t.text == [40]) = false
  ne : Tb ≠ r
  lt : Tb < W.heap.size
  ex : ∃ A c, Lies W r 63 #[.slice A l.length c, .int .i64 e] ∧ l.length ≤ c ∧ Row W A l ∧ (∀ g o s, A = some ⟨g, o, s⟩ → g = Tb)
/-- Nothing that was there has turned, but for the block r. -/
def Moves (r : Nat) (w w' : World) : Prop := w.grownBy w' (some r)
theorem Moves.refl (r : Nat) (w : World) : Moves r w w := ⟨rfl, rfl, rfl, Nat.le_refl _, fun _ _ _ => rfl⟩
theorem Moves.trans {r : Nat} {a b c : World} (h : Moves r a b) (k : Moves r b c) : Moves r a c :=
  ⟨k.os.trans h.os, k.tape.trans h.tape, k.output.trans h.output, Nat.le_trans h.size k.size, fun q hq hr => (k.block q (Nat.lt_of_lt_of_le hq h.size) hr).trans (h.block q hq hr)⟩
theorem Moves.of_below {r : Nat} {w w' : World} (h : Below w.heap.size w w') : Moves r w w' := ⟨h.os, h.tape, h.output, h.size, fun q hq _ => h.block q hq⟩
theorem Moves.lies {r : Nat} {w w' : World} (h : Moves r w w') {g : Nat} {t : TypeId} {cs : Array Value} (hL : Lies w g t cs) (hg : g ≠ r) : Lies w' g t cs :=
  hL.grown h (fun e => hg (Option.some.inj e))
/-- What stands next: at the end a token of no kind. -/
def peekV : List Tok → Int → Tok
  | [], e => ⟨0, [], 0, e⟩
  | t :: _, _ => t
theorem Rd.lt' {W : World} {r Tb : Nat} {l : List Tok} {e : Int} (h : Rd W r Tb l e) : r < W.heap.size := by
  obtain ⟨_, _, _, _, _, _, _, hL, _⟩ := h
  exact hL.lt
theorem Rd.keep {W W' : World} {r Tb : Nat} {l : List Tok} {e : Int} (h : Rd W r Tb l e) (hr : W'.heap[r]? = W.heap[r]?) (ht : W'.heap[Tb]? = W.heap[Tb]?) : Rd W' r Tb l e := by
  obtain ⟨hs, htx, hpar, hne, hlt, A, c, hL, hc, hR, hA⟩ := h
  refine ⟨hs, htx, hpar, hne, ?_, A, c, hr.trans hL, hc, fun hl => ?_, hA⟩
  · by_cases hx : Tb < W'.heap.size
    · exact hx
    · rw [Array.getElem?_eq_none (by omega), Array.getElem?_eq_getElem hlt] at ht
      cases ht
  · obtain ⟨g, o, rfl, hcell⟩ := hR hl
    obtain rfl := hA g o none rfl
    exact ⟨g, o, rfl, fun n u hu => (World.cell?_of_block (a := ⟨g, o + n, none⟩) ht).trans (hcell n u hu)⟩
theorem Rd.below {W W' : World} {r Tb : Nat} {l : List Tok} {e : Int} (h : Rd W r Tb l e) (hb : Below W.heap.size W W') : Rd W' r Tb l e :=
  h.keep (hb.block r h.lt') (hb.block Tb h.lt)
theorem res_tok1 {fn : Func} {p : Tmp} (h : fn.results = #[.cell p 68]) {tmps : Array Value} {g : Nat} {a b c d : Value} {w : World} (hp : tmps.getD p undef = .pointer (some ⟨g, 0, none⟩)) (L : Lies w g 68 #[a, b, c, d]) :
    (results fn tmps).run Tryz.prog w = .ok (.agg #[a, b, c, d]) w := by
  have hl := run_loadVar_row (P := Tryz.prog) w g 68 68 #[a, b, c, d] (0, 0) _ L Tryz.underlying68 rfl (by kernel_rfl)
  have hp' : tmps[p]?.getD undef = .pointer (some ⟨g, 0, none⟩) := by simpa using hp
  simp only [results, h]
  simp [hp', asAddr, hl]
set_option maxHeartbeats 2000000 in
theorem peek_any (r Tb : Nat) (l : List Tok) (e : Int) (w : World) (h : Rd w r Tb l e) :
    Calls Tryz.prog 102 #[.pointer (some ⟨r, 0, none⟩)] w fun x w' => x = .returned (peekV l e).val ∧ Below w.heap.size w w' := by
  obtain ⟨hs, _, _, _, _, A, c, hL, hc, hR, hA⟩ := h
  have c0 := (hL.old (.cells #[.int .i64 0, .string ⟨#[]⟩, .int .i64 0, .int .i64 0] 68)).cell 0
  have c1 := (hL.old (.cells #[.int .i64 0, .string ⟨#[]⟩, .int .i64 0, .int .i64 0] 68)).cell 1
  simp at c0 c1
  have hT := Lies.new w 68 #[.int .i64 0, .string ⟨#[]⟩, .int .i64 0, .int .i64 0]
  obtain ⟨⟨z0, z1, z2, z3⟩, f0, f1, f2, f3⟩ := hT.four
  cases l with
  | nil =>
    simp only [List.length_nil] at c0
    go_enter Tryz.func102, Tryz.ntmps102
    go_wp2_with fail
    exact bodyPost_ret (res_tok1 (p := 2) Tryz.results102 rfl (Lies.new w _ _)) rfl ⟨rfl, (Below.refl _ w).alloc (Nat.le_refl _) _⟩
  | cons t q =>
    simp only [List.length_cons] at c0
    obtain ⟨g, o, hA2, d0, d1, d2, d3⟩ := (hR.below ((Below.refl _ w).alloc (Nat.le_refl _) (.cells #[.int .i64 0, .string ⟨#[]⟩, .int .i64 0, .int .i64 0] 68)) (Nat.le_refl _)).at_ (i := 0) (by simp)
    subst hA2
    simp only [Nat.zero_mul, Nat.add_zero, List.getElem_cons_zero] at d0 d1 d2 d3
    have hq : ((q.length : Int) + 1 == 0) = false := by simp; omega
    have hq2 : (0 : Int) < (q.length : Int) + 1 := by omega
    go_enter Tryz.func102, Tryz.ntmps102
    go_wp2_with fail
    exact bodyPost_ret (res_tok1 (p := 2) Tryz.results102 rfl (Lies.new w _ _)) rfl ⟨rfl, (Below.refl _ w).alloc (Nat.le_refl _) _⟩
/-- A token's slice, one on. -/
theorem Row.tail {w : World} {g o : Nat} {t : Tok} {q : List Tok} (h : Row w (some ⟨g, o, none⟩) (t :: q)) : Row w (some ⟨g, o + 4, none⟩) q := fun _ => by
  obtain ⟨g', o', hA, hc⟩ := h (by simp)
  injection hA with hA
  injection hA with h1 h2
  subst h1 h2
  refine ⟨g, o + 4, rfl, fun n u hu => ?_⟩
  have h4 : (cellsOf (t :: q))[4 + n]? = some u := by
    rw [cellsOf, List.flatMap_cons, List.getElem?_append_right (by simp [Tok.cells])]
    simpa [Tok.cells, cellsOf] using hu
  have := hc _ _ h4
  rwa [← Nat.add_assoc] at this
theorem Row.moves {r : Nat} {w w' : World} {A : Option Addr} {l : List Tok} (h : Row w A l) (hm : Moves r w w') (hA : ∀ g o s, A = some ⟨g, o, s⟩ → g ≠ r) : Row w' A l := fun hne => by
  obtain ⟨g, o, rfl, hc⟩ := h hne
  refine ⟨g, o, rfl, fun n u hu => ?_⟩
  have h1 := hc n u hu
  exact (World.cell?_of_block (hm.block g (cell_lt h1) (fun e => hA g o none rfl (Option.some.inj e)))).trans h1
theorem moves_put {w : World} {r : Nat} (i : Nat) (u : Value) : Moves r w (w.setCell ⟨r, i, none⟩ u) :=
  ⟨rfl, rfl, rfl, by simp, fun q _ hq => Below.heap_setCell w ⟨r, i, none⟩ u q (fun e => hq (by rw [e]))⟩
theorem Moves.alloc {r : Nat} {a w : World} (h : Moves r a w) (o : Obj) : Moves r a (w.alloc o) := h.trans (Moves.of_below ((Below.refl _ w).alloc (Nat.le_refl _) o))
set_option maxHeartbeats 4000000 in
theorem next_any (r Tb : Nat) (t : Tok) (q : List Tok) (e : Int) (w : World) (h : Rd w r Tb (t :: q) e) :
    Calls Tryz.prog 144 #[.pointer (some ⟨r, 0, none⟩)] w fun x w' => x = .returned t.val ∧ Moves r w w' ∧ Rd w' r Tb q e := by
  obtain ⟨hs, htx, hpar, hTr, hTl, A, c, hL, hc, hR, hA⟩ := h
  obtain ⟨g, o, hA2, d0, d1, d2, d3⟩ := (hR.below ((Below.refl _ w).alloc (Nat.le_refl _) (.cells #[.int .i64 0, .string ⟨#[]⟩, .int .i64 0, .int .i64 0] 68)) (Nat.le_refl _)).at_ (i := 0) (by simp)
  subst hA2
  have L0 := hL.old (.cells #[.int .i64 0, .string ⟨#[]⟩, .int .i64 0, .int .i64 0] 68)
  have L1 := L0.old (.cells #[.int .i64 t.kind, .string ⟨t.text.toArray⟩, .int .i64 t.n, .int .i64 t.place] 68)
  have c0 := L0.cell 0
  have c1 := L1.cell 0
  have f1 := L1.frozen 0
  simp at c0 c1
  simp only [List.length_cons] at c0 c1 hc hs
  simp only [Nat.zero_mul, Nat.add_zero, List.getElem_cons_zero] at d0 d1 d2 d3
  have hq2 : (0 : Int) < (q.length : Int) + 1 := by omega
  have hq3 : (1 : Int) ≤ (q.length : Int) + 1 := by omega
  have hq4 : (q.length : Int) + 1 ≤ (c : Int) := by omega
  have hr := hL.lt
  have HE : Hid (∀ (S : Value) (o1 o2 : Obj) (A2 : Option Addr) (c2 : Nat), S = .slice A2 q.length c2 → q.length ≤ c2 → Row w A2 q → (∀ g o s, A2 = some ⟨g, o, s⟩ → g = Tb) →
      Moves r w (((w.setCell ⟨r, 0, none⟩ S).alloc o1).alloc o2) ∧ Rd (((w.setCell ⟨r, 0, none⟩ S).alloc o1).alloc o2) r Tb q e) := fun S o1 o2 A2 c2 hS hc2 hR2 hA2 => by
    have hm := ((moves_put (w := w) (r := r) 0 S).alloc o1).alloc o2
    refine ⟨hm, by omega, fun u hu => htx u (List.mem_cons_of_mem _ hu), fun u hu => hpar u (List.mem_cons_of_mem _ hu), hTr, by simp [World.setCell]; omega, A2, c2, ?_, hc2, hR2.moves hm (fun g o s h => by rw [hA2 g o s h]; exact hTr), hA2⟩
    rw [← hS]
    have := ((hL.put 0 S).old o1).old o2
    simpa using this
  have hRt := hR.tail
  have hne : ∀ g1 o1 s1, (some ⟨g, o, none⟩ : Option Addr) = some ⟨g1, o1, s1⟩ → g1 = Tb := hA
  clear hR hA hL L0 L1 hs
  by_cases hc1 : c = 1
  · subst hc1
    obtain rfl : q = [] := List.eq_nil_of_length_eq_zero (by omega)
    go_enter Tryz.func144, Tryz.ntmps144
    go_wp2_with fail
    have h9 := HE.out _ (.cells #[.int .i64 t.kind, .string ⟨t.text.toArray⟩, .int .i64 t.n, .int .i64 t.place] 68) (.cells #[.int .i64 t.kind, .string ⟨t.text.toArray⟩, .int .i64 t.n, .int .i64 t.place] 68) (some ⟨g, o, none⟩) 0 rfl (Nat.le_refl _) (fun h => absurd rfl h) hne
    refine bodyPost_ret (res_tok1 (g := w.heap.size) (p := 2) Tryz.results144 rfl ?_) rfl ⟨rfl, h9⟩
    have h8 := (Lies.new (w.setCell ⟨r, 0, none⟩ (.slice (some ⟨g, o, none⟩) 0 0)) 68 #[.int .i64 t.kind, .string ⟨t.text.toArray⟩, .int .i64 t.n, .int .i64 t.place]).old (.cells #[.int .i64 t.kind, .string ⟨t.text.toArray⟩, .int .i64 t.n, .int .i64 t.place] 68)
    simpa [World.setCell] using h8
  · have hc2 : ¬ c - 1 = 0 := by omega
    go_enter Tryz.func144, Tryz.ntmps144
    go_wp2_with fail
    have h9 := HE.out _ (.cells #[.int .i64 t.kind, .string ⟨t.text.toArray⟩, .int .i64 t.n, .int .i64 t.place] 68) (.cells #[.int .i64 t.kind, .string ⟨t.text.toArray⟩, .int .i64 t.n, .int .i64 t.place] 68) (some ⟨g, o + 4, none⟩) (c - 1) rfl (by omega) hRt (fun g1 o1 s1 h => by injection h with h; injection h with h; exact h ▸ hne g o none rfl)
    refine bodyPost_ret (res_tok1 (g := w.heap.size) (p := 2) Tryz.results144 rfl ?_) rfl ⟨rfl, h9⟩
    have h8 := (Lies.new (w.setCell ⟨r, 0, none⟩ (.slice (some ⟨g, o + 4, none⟩) q.length (c - 1))) 68 #[.int .i64 t.kind, .string ⟨t.text.toArray⟩, .int .i64 t.n, .int .i64 t.place]).old (.cells #[.int .i64 t.kind, .string ⟨t.text.toArray⟩, .int .i64 t.n, .int .i64 t.place] 68)
    simpa [World.setCell] using h8
end Lx
end Go.Proofs.YteabbkhlgnoliaaGreatDoor
namespace Go.Proofs.YteabbkhlgnoliaaGreatDoor
open Go.RowKit
namespace Lx
set_option maxRecDepth 100000
theorem fld0 (a b c d : Value) (w : World) : (Instr.field 68 (.agg #[a, b, c, d]) 0).run Tryz.prog w = .ok a w := by kernel_rfl
theorem fld1 (a b c d : Value) (w : World) : (Instr.field 68 (.agg #[a, b, c, d]) 1).run Tryz.prog w = .ok b w := by kernel_rfl
theorem fld3 (a b c d : Value) (w : World) : (Instr.field 68 (.agg #[a, b, c, d]) 3).run Tryz.prog w = .ok d w := by kernel_rfl
/-- The strings ss lie in the block G. -/
def StrIn (w : World) (G : Nat) (ss : List ByteArray) : Prop := ∀ (i : Nat) (h : i < ss.length), w.cell? ⟨G, i, none⟩ = some (.string (ss[i]'h))
theorem StrIn.below {w w' : World} {G : Nat} {ss : List ByteArray} (h : StrIn w G ss) (hb : Below w.heap.size w w') : StrIn w' G ss := fun i hi =>
  (hb.cell (p := ⟨G, i, none⟩) (cell_lt (h i hi))).trans (h i hi)
/-- Is s one of them? -/
def hasS (ss : List ByteArray) (s : ByteArray) : Bool := ss.any fun u => s.toList == u.toList
theorem hasS_take (ss : List ByteArray) (s : ByteArray) (i : Nat) (h : i < ss.length) : hasS (ss.take (i + 1)) s = (hasS (ss.take i) s || s.toList == (ss[i]'h).toList) := by
  rw [hasS, List.take_succ_eq_append_getElem h, List.any_append]
  simp [hasS]
theorem hasS_mem (ss : List ByteArray) (s : ByteArray) (i : Nat) (h : i < ss.length) (he : (s.toList == (ss[i]'h).toList) = true) : hasS ss s = true :=
  List.any_eq_true.2 ⟨_, List.getElem_mem h, he⟩
set_option maxHeartbeats 2000000 in
theorem index_any (G : Nat) (ss : List ByteArray) (n c : Nat) (s : ByteArray) (w : World) (hn : n = ss.length) (hs : n ≤ 1000) (h : StrIn w G ss) :
    Calls Tryz.prog 180 #[.slice (some ⟨G, 0, none⟩) n c, .string s] w fun x w' => ∃ k : Int, x = .returned (.int .i64 k) ∧ decide (0 ≤ k) = hasS ss s ∧ w = w' := by
  have hn1 : n ≤ ss.length := by omega
  have hn2 : ss.length ≤ n := by omega
  clear hn
  go_enter Tryz.func180, Tryz.ntmps180
  go_wp2_with fail
  go_loopw [8] (fun x wr => ∃ i : Nat, i ≤ n ∧ x = .int .i64 i ∧ hasS (ss.take i) s = false ∧ w = wr) (fun x _ => n - (intOf x).toNat)
  case atStart => exact ⟨0, by omega, rfl, by simp [hasS], rfl⟩
  case round =>
    obtain ⟨i, hi, rfl, hno, rfl⟩ := hrel
    by_cases hlt : i < n
    · have hia : i < ss.length := by omega
      have d0 := h i hia
      have ht := hasS_take ss s i hia
      have hm := hasS_mem ss s i hia
      obtain ⟨u, hu⟩ : ∃ u, u = ss[i]'hia := ⟨_, rfl⟩
      rw [← hu] at d0 ht hm
      clear hu
      cases he : s.toList == u.toList with
      | true =>
        have HM := Lib.hid (hm he)
        have he' : s.toList = u.toList := by simpa using he
        clear hm ht hno he
        go_wp2_with fail
        go_ret
        exact ⟨i, rfl, by rw [HM.out]; simp, rfl⟩
      | false =>
        rw [hno, he] at ht
        have HT := Lib.hid ht
        have he' : ¬ s.toList = u.toList := by simpa using he
        clear hm ht hno
        go_wp2_with fail
        go_roundw
        case rel => exact ⟨i + 1, by omega, by go_num, HT.out, trivial⟩
        case measure => simp [intOf]; omega
    · go_wp2_with fail
      go_ret
      rw [List.take_of_length_le (by omega)] at hno
      exact ⟨-1, rfl, by rw [hno]; rfl, rfl⟩
theorem contains_any (G : Nat) (ss : List ByteArray) (n c : Nat) (s : ByteArray) (w : World) (hn : n = ss.length) (hs : n ≤ 1000) (h : StrIn w G ss) :
    Calls Tryz.prog 169 #[.slice (some ⟨G, 0, none⟩) n c, .string s] w fun x w' => x = .returned (.bool (hasS ss s)) ∧ w = w' := by
  have HI := Lib.hid (index_any G ss n c s w hn hs h)
  clear hn hs h
  go_enter Tryz.func169, Tryz.ntmps169
  go_wp2_with fail
  refine HI.out.mono ?_
  rintro e w1 ⟨k, rfl, hk, rfl⟩
  go_wp2_with fail
  go_ret
  exact ⟨by rw [← hk]; rfl, rfl⟩
theorem sees_any (r Tb G : Nat) (ss : List ByteArray) (n c : Nat) (l : List Tok) (e : Int) (w : World) (hn : n = ss.length) (hs : n ≤ 1000) (h : StrIn w G ss) (hR : Rd w r Tb l e) :
    Calls Tryz.prog 146 #[.pointer (some ⟨r, 0, none⟩), .slice (some ⟨G, 0, none⟩) n c] w fun x w' => x = .returned (.bool (hasS ss ⟨(peekV l e).text.toArray⟩)) ∧ Below w.heap.size w w' := by
  have HP := Lib.hid (peek_any r Tb l e w hR)
  have HC := fun w' (hb : Below w.heap.size w w') => Lib.hid (contains_any G ss n c ⟨(peekV l e).text.toArray⟩ w' hn hs (h.below hb))
  clear hn hs h hR
  obtain ⟨t, ht⟩ : ∃ t, t = peekV l e := ⟨_, rfl⟩
  rw [← ht] at HP HC ⊢
  clear ht
  unfold Tok.val at HP
  go_enter Tryz.func146, Tryz.ntmps146
  go_wp2_with fail
  refine HP.out.mono ?_
  rintro x w1 ⟨rfl, hb1⟩
  have hf1 := fld1
  go_wp2_with fail
  refine (HC _ hb1).out.mono ?_
  rintro x w2 ⟨rfl, rfl⟩
  go_wp2_with fail
  go_ret
  exact ⟨rfl, hb1⟩
def noEx (at_ : Int) : Value := .iface 102 (.agg #[.int .i64 at_])
theorem stop_any (r Tb : Nat) (l : List Tok) (e : Int) (w : World) (hR : Rd w r Tb l e) :
    Calls Tryz.prog 68 #[.pointer (some ⟨r, 0, none⟩)] w fun x w' => x = .panicked [{ v := noEx (peekV l e).place, recovered := false }] ∧ Below w.heap.size w w' := by
  have HP := Lib.hid (peek_any r Tb l e w hR)
  clear hR
  obtain ⟨t, ht⟩ : ∃ t, t = peekV l e := ⟨_, rfl⟩
  rw [← ht] at HP ⊢
  clear ht
  unfold Tok.val at HP
  unfold noEx
  go_enter Tryz.func68, Tryz.ntmps68
  go_wp2_with fail
  refine HP.out.mono ?_
  rintro x w1 ⟨rfl, hb1⟩
  have hf3 := fld3
  go_wp2_with fail
  exact ⟨rfl, rfl, hb1⟩
end Lx
end Go.Proofs.YteabbkhlgnoliaaGreatDoor
namespace Go.Proofs.YteabbkhlgnoliaaGreatDoor
open Go.RowKit
namespace Lx
set_option maxRecDepth 100000
/-- A token that has to be s, or of kind k. -/
def isS (s : ByteArray) (t : Tok) : Bool := s.toList == t.text
theorem hasS_one (s : ByteArray) (t : Tok) : hasS [s] ⟨t.text.toArray⟩ = (t.text == s.toList) := by
  simp [hasS]
theorem StrIn.one {w : World} {G : Nat} {t : TypeId} {s : ByteArray} (h : Lies w G t #[.string s]) : StrIn w G [s] := fun i hi => by
  obtain rfl : i = 0 := by simpa using hi
  exact h.cell 0
theorem Rd.nonempty {w : World} {r Tb : Nat} {l : List Tok} {e : Int} {s : List UInt8} (_h : Rd w r Tb l e) (hs : s ≠ []) (hp : ((peekV l e).text == s) = true) : ∃ t q, l = t :: q := by
  cases l with
  | nil => simp [peekV] at hp; exact absurd hp.symm (by simpa using hs)
  | cons t q => exact ⟨t, q, rfl⟩
theorem Moves.put {r : Nat} {a w : World} (h : Moves r a w) {G : Nat} (hG : a.heap.size ≤ G) (i : Nat) (u : Value) : Moves r a (w.setCell ⟨G, i, none⟩ u) :=
  ⟨h.os, h.tape, h.output, by simpa using h.size, fun q hq hr => (Below.heap_setCell w ⟨G, i, none⟩ u q (by show q ≠ G; omega)).trans (h.block q hq hr)⟩
theorem Rd.put {w : World} {r Tb : Nat} {l : List Tok} {e : Int} (h : Rd w r Tb l e) {G : Nat} (hG : G ≠ r) (hT : G ≠ Tb) (i : Nat) (u : Value) : Rd (w.setCell ⟨G, i, none⟩ u) r Tb l e :=
  h.keep (Below.heap_setCell w ⟨G, i, none⟩ u r (fun e => hG e.symm)) (Below.heap_setCell w ⟨G, i, none⟩ u Tb (fun e => hT e.symm))
/-- Four stores into a block of the call's own. -/
theorem put4 {r Tb : Nat} {a w : World} {l : List Tok} {e : Int} (h : Moves r a w) (hR : Rd w r Tb l e) {G : Nat} (hG : a.heap.size ≤ G) (hr : r < a.heap.size) (hT : Tb < a.heap.size) (x y z u : Value) :
    Moves r a ((((w.setCell ⟨G, 0, none⟩ x).setCell ⟨G, 1, none⟩ y).setCell ⟨G, 2, none⟩ z).setCell ⟨G, 3, none⟩ u) ∧ Rd ((((w.setCell ⟨G, 0, none⟩ x).setCell ⟨G, 1, none⟩ y).setCell ⟨G, 2, none⟩ z).setCell ⟨G, 3, none⟩ u) r Tb l e :=
  ⟨(((h.put hG 0 x).put hG 1 y).put hG 2 z).put hG 3 u, (((hR.put (by omega) (by omega) 0 x).put (by omega) (by omega) 1 y).put (by omega) (by omega) 2 z).put (by omega) (by omega) 3 u⟩
set_option maxHeartbeats 2000000 in
/-- take goes over the token s, or stops. -/
theorem take_good (r Tb : Nat) (s : ByteArray) (t : Tok) (q : List Tok) (e : Int) (w : World) (hR : Rd w r Tb (t :: q) e) (hp : (t.text == s.toList) = true) :
    Calls Tryz.prog 142 #[.pointer (some ⟨r, 0, none⟩), .string s] w fun x w' => x = .returned t.val ∧ Moves r w w' ∧ Rd w' r Tb q e := by
  have hr := hR.lt'
  have hTb := hR.lt
  have hb0 : Below w.heap.size w ((w.alloc (.cells #[.int .i64 0, .string ⟨#[]⟩, .int .i64 0, .int .i64 0] 68)).alloc (.cells #[.string s] 9)) := ((Below.refl _ w).alloc (Nat.le_refl _) _).alloc (by simp) _
  have hG : Lies ((w.alloc (.cells #[.int .i64 0, .string ⟨#[]⟩, .int .i64 0, .int .i64 0] 68)).alloc (.cells #[.string s] 9)) (w.heap.size + 1) 9 #[.string s] := by simpa using Lies.new (w.alloc (.cells #[.int .i64 0, .string ⟨#[]⟩, .int .i64 0, .int .i64 0] 68)) 9 #[.string s]
  have hT : Lies ((w.alloc (.cells #[.int .i64 0, .string ⟨#[]⟩, .int .i64 0, .int .i64 0] 68)).alloc (.cells #[.string s] 9)) w.heap.size 68 #[.int .i64 0, .string ⟨#[]⟩, .int .i64 0, .int .i64 0] := (Lies.new w _ _).old _
  have HS := Lib.hid (sees_any r Tb (w.heap.size + 1) [s] 1 1 (t :: q) e _ rfl (by omega) (StrIn.one hG) (hR.below hb0))
  rw [show peekV (t :: q) e = t from rfl, hasS_one, hp] at HS
  have HN := fun w' (h : Rd w' r Tb (t :: q) e) => Lib.hid (next_any r Tb t q e w' h)
  have HR := Lib.hid (hR.below hb0)
  clear hR hp hG
  unfold Tok.val at HN ⊢
  go_enter Tryz.func142, Tryz.ntmps142
  go_wp2_with fail
  refine HS.out.mono ?_
  rintro x w1 ⟨rfl, hb1⟩
  have hb01 := hb0.trans (hb1.mono hb0.size)
  have hT1 := hT.below hb1 hT.lt
  have hR1 := HR.out.below hb1
  go_wp2_with fail
  refine (HN _ hR1).out.mono ?_
  rintro x w2 ⟨rfl, hm, hR2⟩
  have hT2 := hm.lies hT1 (by omega)
  obtain ⟨⟨z0, z1, z2, z3⟩, f0, f1, f2, f3⟩ := hT2.four
  go_wp2_with fail
  exact bodyPost_ret (res_tok1 (p := 4) Tryz.results142 rfl (hT2.all _ _ _ _)) rfl ⟨rfl, put4 ((Moves.of_below hb01).trans hm) hR2 (Nat.le_refl _) hr hTb _ _ _ _⟩
set_option maxHeartbeats 2000000 in
theorem take_bad (r Tb : Nat) (s : ByteArray) (l : List Tok) (e : Int) (w : World) (hR : Rd w r Tb l e) (hp : ((peekV l e).text == s.toList) = false) :
    Calls Tryz.prog 142 #[.pointer (some ⟨r, 0, none⟩), .string s] w fun x w' => x = .panicked [{ v := noEx (peekV l e).place, recovered := false }] ∧ Below w.heap.size w w' := by
  have hb0 : Below w.heap.size w ((w.alloc (.cells #[.int .i64 0, .string ⟨#[]⟩, .int .i64 0, .int .i64 0] 68)).alloc (.cells #[.string s] 9)) := ((Below.refl _ w).alloc (Nat.le_refl _) _).alloc (by simp) _
  have hG : Lies ((w.alloc (.cells #[.int .i64 0, .string ⟨#[]⟩, .int .i64 0, .int .i64 0] 68)).alloc (.cells #[.string s] 9)) (w.heap.size + 1) 9 #[.string s] := by simpa using Lies.new (w.alloc (.cells #[.int .i64 0, .string ⟨#[]⟩, .int .i64 0, .int .i64 0] 68)) 9 #[.string s]
  have HS := Lib.hid (sees_any r Tb (w.heap.size + 1) [s] 1 1 l e _ rfl (by omega) (StrIn.one hG) (hR.below hb0))
  rw [hasS_one, hp] at HS
  have HN := fun w' (h : Rd w' r Tb l e) => Lib.hid (stop_any r Tb l e w' h)
  have HR := Lib.hid (hR.below hb0)
  clear hR hp hG
  go_enter Tryz.func142, Tryz.ntmps142
  go_wp2_with fail
  refine HS.out.mono ?_
  rintro x w1 ⟨rfl, hb1⟩
  have hb01 := hb0.trans (hb1.mono hb0.size)
  have hR1 := HR.out.below hb1
  go_wp2_with fail
  refine (HN _ hR1).out.mono ?_
  rintro x w2 ⟨rfl, hb2⟩
  go_wp2_with fail
  exact ⟨rfl, rfl, hb01.trans (hb2.mono hb01.size)⟩
set_option maxHeartbeats 2000000 in
/-- takeKind goes over a token of that kind, or stops. -/
theorem takeKind_good (r Tb : Nat) (k : Int) (t : Tok) (q : List Tok) (e : Int) (w : World) (hR : Rd w r Tb (t :: q) e) (hp : t.kind = k) :
    Calls Tryz.prog 143 #[.pointer (some ⟨r, 0, none⟩), .int .i64 k] w fun x w' => x = .returned t.val ∧ Moves r w w' ∧ Rd w' r Tb q e := by
  have hr := hR.lt'
  have hTb := hR.lt
  have hb0 : Below w.heap.size w (w.alloc (.cells #[.int .i64 0, .string ⟨#[]⟩, .int .i64 0, .int .i64 0] 68)) := (Below.refl _ w).alloc (Nat.le_refl _) _
  have hT := Lies.new w 68 #[.int .i64 0, .string ⟨#[]⟩, .int .i64 0, .int .i64 0]
  have HS := Lib.hid (peek_any r Tb (t :: q) e _ (hR.below hb0))
  rw [show peekV (t :: q) e = t from rfl] at HS
  have HN := fun w' (h : Rd w' r Tb (t :: q) e) => Lib.hid (next_any r Tb t q e w' h)
  have HR := Lib.hid (hR.below hb0)
  have hf0 := fld0
  subst hp
  clear hR
  unfold Tok.val at HN HS ⊢
  go_enter Tryz.func143, Tryz.ntmps143
  go_wp2_with fail
  refine HS.out.mono ?_
  rintro x w1 ⟨rfl, hb1⟩
  have hb01 := hb0.trans (hb1.mono hb0.size)
  have hT1 := hT.below hb1 hT.lt
  have hR1 := HR.out.below hb1
  go_wp2_with fail
  refine (HN _ hR1).out.mono ?_
  rintro x w2 ⟨rfl, hm, hR2⟩
  have hT2 := hm.lies hT1 (by omega)
  obtain ⟨⟨z0, z1, z2, z3⟩, f0, f1, f2, f3⟩ := hT2.four
  go_wp2_with fail
  exact bodyPost_ret (res_tok1 (p := 4) Tryz.results143 rfl (hT2.all _ _ _ _)) rfl ⟨rfl, put4 ((Moves.of_below hb01).trans hm) hR2 (Nat.le_refl _) hr hTb _ _ _ _⟩
set_option maxHeartbeats 2000000 in
theorem takeKind_bad (r Tb : Nat) (k : Int) (l : List Tok) (e : Int) (w : World) (hR : Rd w r Tb l e) (hp : ((peekV l e).kind == k) = false) :
    Calls Tryz.prog 143 #[.pointer (some ⟨r, 0, none⟩), .int .i64 k] w fun x w' => x = .panicked [{ v := noEx (peekV l e).place, recovered := false }] ∧ Below w.heap.size w w' := by
  have hb0 : Below w.heap.size w (w.alloc (.cells #[.int .i64 0, .string ⟨#[]⟩, .int .i64 0, .int .i64 0] 68)) := (Below.refl _ w).alloc (Nat.le_refl _) _
  have HS := Lib.hid (peek_any r Tb l e _ (hR.below hb0))
  have HN := fun w' (h : Rd w' r Tb l e) => Lib.hid (stop_any r Tb l e w' h)
  have HR := Lib.hid (hR.below hb0)
  obtain ⟨t, ht⟩ : ∃ t, t = peekV l e := ⟨_, rfl⟩
  rw [← ht] at HS HN hp ⊢
  have hf0 := fld0
  clear hR ht
  unfold Tok.val at HS
  go_enter Tryz.func143, Tryz.ntmps143
  go_wp2_with fail
  refine HS.out.mono ?_
  rintro x w1 ⟨rfl, hb1⟩
  have hb01 := hb0.trans (hb1.mono hb0.size)
  have hR1 := HR.out.below hb1
  go_wp2_with fail
  refine (HN _ hR1).out.mono ?_
  rintro x w2 ⟨rfl, hb2⟩
  go_wp2_with fail
  exact ⟨rfl, rfl, hb01.trans (hb2.mono hb01.size)⟩
end Lx
end Go.Proofs.YteabbkhlgnoliaaGreatDoor
namespace Go.Proofs.YteabbkhlgnoliaaGreatDoor
open Go.RowKit
namespace Lx
set_option maxRecDepth 100000
/-- Does an atom begin with it? -/
def atomS (t : Tok) : Bool := decide (t.kind = 1) || (decide (t.kind = 2) || (decide (t.kind = 3) || t.text == [40]))
set_option maxHeartbeats 2000000 in
theorem seesAtom_any (r Tb : Nat) (l : List Tok) (e : Int) (w : World) (hR : Rd w r Tb l e) :
    Calls Tryz.prog 178 #[.pointer (some ⟨r, 0, none⟩)] w fun x w' => x = .returned (.bool (atomS (peekV l e))) ∧ Below w.heap.size w w' := by
  have HP := Lib.hid (peek_any r Tb l e w hR)
  have HSS := fun w' (h : Below w.heap.size w w') => Lib.hid (sees_any r Tb w'.heap.size [⟨#[40]⟩] 1 1 l e (w'.alloc (.cells #[.string ⟨#[40]⟩] 9)) rfl (by omega) (StrIn.one (Lies.new w' 9 #[.string ⟨#[40]⟩])) ((hR.below h).below ((Below.refl _ w').alloc (Nat.le_refl _) _)))
  have h40 : (⟨#[40]⟩ : ByteArray).toList = [40] := ByteArray.toList_mk [40]
  obtain ⟨t, ht⟩ : ∃ t, t = peekV l e := ⟨_, rfl⟩
  rw [← ht] at HP HSS ⊢
  rw [hasS_one, h40] at HSS
  clear hR ht h40
  have hf0 := fld0
  unfold Tok.val at HP
  by_cases k1 : t.kind = 1
  · have e1 : (t.kind == 1) = true := by simp [k1]
    have hA : Hid (atomS t = true) := by show atomS t = true; simp [atomS, k1]
    go_enter Tryz.func178, Tryz.ntmps178
    go_wp2_with fail
    refine HP.out.mono ?_
    rintro x w1 ⟨rfl, hb1⟩
    go_wp2_with fail
    go_ret
    exact ⟨by rw [hA.out]; rfl, hb1⟩
  · have e1 : (t.kind == 1) = false := by simp [k1]
    by_cases k2 : t.kind = 2
    · have e2 : (t.kind == 2) = true := by simp [k2]
      have hA : Hid (atomS t = true) := by show atomS t = true; simp [atomS, k2]
      go_enter Tryz.func178, Tryz.ntmps178
      go_wp2_with fail
      refine HP.out.mono ?_
      rintro x w1 ⟨rfl, hb1⟩
      go_wp2_with fail
      go_ret
      exact ⟨by rw [hA.out]; rfl, hb1⟩
    · have e2 : (t.kind == 2) = false := by simp [k2]
      by_cases k3 : t.kind = 3
      · have e3 : (t.kind == 3) = true := by simp [k3]
        have hA : Hid (atomS t = true) := by show atomS t = true; simp [atomS, k3]
        go_enter Tryz.func178, Tryz.ntmps178
        go_wp2_with fail
        refine HP.out.mono ?_
        rintro x w1 ⟨rfl, hb1⟩
        go_wp2_with fail
        go_ret
        exact ⟨by rw [hA.out]; rfl, hb1⟩
      · have e3 : (t.kind == 3) = false := by simp [k3]
        have hA : Hid (atomS t = (t.text == [40])) := by show atomS t = _; simp [atomS, k1, k2, k3]
        obtain ⟨b, hb⟩ : ∃ b, b = (t.text == [40]) := ⟨_, rfl⟩
        rw [← hb] at HSS hA
        clear hb
        go_enter Tryz.func178, Tryz.ntmps178
        go_wp2_with fail
        refine HP.out.mono ?_
        rintro x w1 ⟨rfl, hb1⟩
        go_wp2_with fail
        refine (HSS _ hb1).out.mono ?_
        rintro x w2 ⟨rfl, hb2⟩
        go_wp2_with fail
        go_ret
        exact ⟨by rw [hA.out]; rfl, (hb1.alloc hb1.size _).trans (hb2.mono (by have := hb1.size; simp; omega))⟩
theorem lies_new1 (w : World) (o : Obj) (t : TypeId) (cs : Array Value) : Lies ((w.alloc o).alloc (.cells cs t)) (w.heap.size + 1) t cs := by
  have h := Lies.new (w.alloc o) t cs
  have e : (w.alloc o).heap.size = w.heap.size + 1 := by simp
  rw [e] at h
  exact h
/-- The tree of a token that is an atom by itself. -/
def leafV (t : Tok) : Tr := if t.kind = 1 then .node 1 ⟨t.text.toArray⟩ 0 t.place [] else if t.kind = 2 then .node 6 ⟨t.text.toArray⟩ 0 t.place [] else .node 9 ⟨#[]⟩ t.n t.place []
set_option maxHeartbeats 2000000 in
theorem leaf_any (t : Tok) (w : World) :
    Calls Tryz.prog 179 #[t.val] w fun x w' => x = .returned (tv (leafV t) none 0) ∧ Below w.heap.size w w' := by
  have hbox : Lies (w.alloc (.cells #[.int .i64 t.kind, .string ⟨t.text.toArray⟩, .int .i64 t.n, .int .i64 t.place] 68)) w.heap.size 68 #[.int .i64 t.kind, .string ⟨t.text.toArray⟩, .int .i64 t.n, .int .i64 t.place] := Lies.new w _ _
  have hT : Lies ((w.alloc (.cells #[.int .i64 t.kind, .string ⟨t.text.toArray⟩, .int .i64 t.n, .int .i64 t.place] 68)).alloc (.cells #[.int .i64 0, .string ⟨#[]⟩, .int .i64 0, .int .i64 0, .slice none 0 0] 24)) (w.heap.size + 1) 24 #[.int .i64 0, .string ⟨#[]⟩, .int .i64 0, .int .i64 0, .slice none 0 0] := by
    simpa using Lies.new (w.alloc (.cells #[.int .i64 t.kind, .string ⟨t.text.toArray⟩, .int .i64 t.n, .int .i64 t.place] 68)) 24 #[.int .i64 0, .string ⟨#[]⟩, .int .i64 0, .int .i64 0, .slice none 0 0]
  obtain ⟨⟨c0, c1, c2, c3⟩, _⟩ := (hbox.old (.cells #[.int .i64 0, .string ⟨#[]⟩, .int .i64 0, .int .i64 0, .slice none 0 0] 24)).four
  clear hT hbox
  by_cases k1 : t.kind = 1
  · have e1 : (t.kind == 1) = true := by simp [k1]
    have hV : leafV t = .node 1 ⟨t.text.toArray⟩ 0 t.place [] := by simp [leafV, k1]
    rw [hV]
    unfold Tok.val
    go_enter Tryz.func179, Tryz.ntmps179
    go_wp2_with fail
    refine bodyPost_ret (res_tree (p := 2) (g := w.heap.size + 1) Tryz.results179 rfl ?_) rfl ⟨rfl, ((Below.refl _ w).alloc (Nat.le_refl _) _).alloc (by simp) _⟩
    exact lies_new1 w _ _ _
  · have e1 : (t.kind == 1) = false := by simp [k1]
    by_cases k2 : t.kind = 2
    · have e2 : (t.kind == 2) = true := by simp [k2]
      have hV : leafV t = .node 6 ⟨t.text.toArray⟩ 0 t.place [] := by simp [leafV, k2]
      rw [hV]
      unfold Tok.val
      go_enter Tryz.func179, Tryz.ntmps179
      go_wp2_with fail
      refine bodyPost_ret (res_tree (p := 2) (g := w.heap.size + 1) Tryz.results179 rfl ?_) rfl ⟨rfl, ((Below.refl _ w).alloc (Nat.le_refl _) _).alloc (by simp) _⟩
      exact lies_new1 w _ _ _
    · have e2 : (t.kind == 2) = false := by simp [k2]
      have hV : leafV t = .node 9 ⟨#[]⟩ t.n t.place [] := by simp [leafV, k1, k2]
      rw [hV]
      unfold Tok.val
      go_enter Tryz.func179, Tryz.ntmps179
      go_wp2_with fail
      refine bodyPost_ret (res_tree (p := 2) (g := w.heap.size + 1) Tryz.results179 rfl ?_) rfl ⟨rfl, ((Below.refl _ w).alloc (Nat.le_refl _) _).alloc (by simp) _⟩
      exact lies_new1 w _ _ _
end Lx
end Go.Proofs.YteabbkhlgnoliaaGreatDoor
namespace Go.Proofs.YteabbkhlgnoliaaGreatDoor
open Go.RowKit
namespace Lx
set_option maxRecDepth 100000
/-- A tree and what stands behind it, or the place of the first token with which no expr can go on. -/
abbrev PR := Except Int (Tr × List Tok)
def takeV (s : List UInt8) (e : Int) : List Tok → Except Int (Tok × List Tok)
  | [] => .error e
  | t :: q => if t.text == s then .ok (t, q) else .error t.place
def withinV (ex : List Tok → PR) (e : Int) (l : List Tok) : PR :=
  match takeV [40] e l with
  | .error p => .error p
  | .ok (_, l1) => match ex l1 with
    | .error p => .error p
    | .ok (t, l2) => match takeV [41] e l2 with
      | .error p => .error p
      | .ok (_, l3) => .ok (t, l3)
def atomV (ex : List Tok → PR) (e : Int) : List Tok → PR
  | [] => .error e
  | t :: q => if t.text == [40] then withinV ex e (t :: q) else if atomS t then .ok (leafV t, q) else .error t.place
/-- What a method answers that reads a tree. -/
structure PPost (w : World) (r Tb : Nat) (e : Int) (res : PR) (x : Ending) (w' : World) : Prop where
  mv : Moves r w w'
  good : ∀ t q, res = .ok (t, q) → ∃ A c, x = .returned (tv t A c) ∧ TIn w' (fun g => w.heap.size ≤ g) t A ∧ Rd w' r Tb q e
  bad : ∀ p, res = .error p → x = .panicked [{ v := noEx p, recovered := false }]
/-- take, by its answer. -/
theorem take_both (r Tb : Nat) (s : ByteArray) (hs : s.toList ≠ []) (l : List Tok) (e : Int) (w : World) (hR : Rd w r Tb l e) :
    Calls Tryz.prog 142 #[.pointer (some ⟨r, 0, none⟩), .string s] w fun x w' => Moves r w w' ∧
      (∀ t q, takeV s.toList e l = .ok (t, q) → x = .returned t.val ∧ Rd w' r Tb q e) ∧ (∀ p, takeV s.toList e l = .error p → x = .panicked [{ v := noEx p, recovered := false }]) := by
  cases l with
  | nil =>
    refine (take_bad r Tb s [] e w hR ?_).mono ?_
    · simp [peekV]
      exact hs
    · rintro x w' ⟨rfl, hb⟩
      exact ⟨Moves.of_below hb, fun t q h => (by cases h), fun p h => by simp only [takeV, Except.error.injEq] at h; rw [← h]; rfl⟩
  | cons t q =>
    cases ht : t.text == s.toList with
    | true =>
      refine (take_good r Tb s t q e w hR ht).mono ?_
      rintro x w' ⟨rfl, hm, hR'⟩
      refine ⟨hm, fun t' q' h => ?_, fun p h => ?_⟩
      · simp only [takeV, ht, if_true, Except.ok.injEq, Prod.mk.injEq] at h
        obtain ⟨rfl, rfl⟩ := h
        exact ⟨rfl, hR'⟩
      · simp [takeV, ht] at h
    | false =>
      refine (take_bad r Tb s (t :: q) e w hR ht).mono ?_
      rintro x w' ⟨rfl, hb⟩
      refine ⟨Moves.of_below hb, fun t' q' h => ?_, fun p h => ?_⟩
      · simp [takeV, ht] at h
      · simp only [takeV, ht, Bool.false_eq_true, if_false, Except.error.injEq] at h
        rw [← h]
        rfl
theorem takeV_len {s : List UInt8} {e : Int} {l : List Tok} {t : Tok} {q : List Tok} (h : takeV s e l = .ok (t, q)) : q.length + 1 = l.length := by
  cases l with
  | nil => cases h
  | cons a r =>
    cases ha : a.text == s with
    | true =>
      simp only [takeV, ha, if_true, Except.ok.injEq, Prod.mk.injEq] at h
      rw [← h.2]; rfl
    | false => simp [takeV, ha] at h
theorem tin_moves {w w' : World} {r : Nat} {t : Tr} {A : Option Addr} {X : Nat → Prop} (h : TIn w X t A) (hm : Moves r w w') (hX : ¬ X r) : TIn w' X t A :=
  TIn.grown _ h hm (fun g hg => by rw [← Option.some.inj hg]; exact hX)
/-- Five stores into a block of the call's own, behind which a tree lies as it lay. -/
theorem put5 {r Tb : Nat} {a w : World} {l : List Tok} {e : Int} (h : Moves r a w) (hR : Rd w r Tb l e) {G : Nat} (hG : a.heap.size ≤ G) (hr : r < a.heap.size) (hT : Tb < a.heap.size) (x y z u v : Value) {t : Tr} {A : Option Addr} {X : Nat → Prop} (hTt : TIn w X t A) (hX : ¬ X G) :
    Moves r a (((((w.setCell ⟨G, 0, none⟩ x).setCell ⟨G, 1, none⟩ y).setCell ⟨G, 2, none⟩ z).setCell ⟨G, 3, none⟩ u).setCell ⟨G, 4, none⟩ v) ∧ Rd (((((w.setCell ⟨G, 0, none⟩ x).setCell ⟨G, 1, none⟩ y).setCell ⟨G, 2, none⟩ z).setCell ⟨G, 3, none⟩ u).setCell ⟨G, 4, none⟩ v) r Tb l e ∧
      TIn (((((w.setCell ⟨G, 0, none⟩ x).setCell ⟨G, 1, none⟩ y).setCell ⟨G, 2, none⟩ z).setCell ⟨G, 3, none⟩ u).setCell ⟨G, 4, none⟩ v) X t A :=
  ⟨((((h.put hG 0 x).put hG 1 y).put hG 2 z).put hG 3 u).put hG 4 v, ((((hR.put (by omega) (by omega) 0 x).put (by omega) (by omega) 1 y).put (by omega) (by omega) 2 z).put (by omega) (by omega) 3 u).put (by omega) (by omega) 4 v,
    TIn.setCell _ (TIn.setCell _ (TIn.setCell _ (TIn.setCell _ (TIn.setCell _ hTt ⟨G, 0, none⟩ x hX) ⟨G, 1, none⟩ y hX) ⟨G, 2, none⟩ z hX) ⟨G, 3, none⟩ u hX) ⟨G, 4, none⟩ v hX⟩
set_option maxHeartbeats 4000000 in
/-- within, by what expr answers of fewer tokens. -/
theorem within_any (r Tb : Nat) (e : Int) (ex : List Tok → PR) (l : List Tok) (w : World) (hR : Rd w r Tb l e)
    (hex : ∀ (l' : List Tok) (w' : World), l'.length < l.length → Rd w' r Tb l' e → Calls Tryz.prog 67 #[.pointer (some ⟨r, 0, none⟩)] w' fun x w'' => PPost w' r Tb e (ex l') x w'') :
    Calls Tryz.prog 177 #[.pointer (some ⟨r, 0, none⟩)] w fun x w' => PPost w r Tb e (withinV ex e l) x w' := by
  have hr := hR.lt'
  have hTb := hR.lt
  have hb0 : Below w.heap.size w (w.alloc (.cells #[.int .i64 0, .string ⟨#[]⟩, .int .i64 0, .int .i64 0, .slice none 0 0] 24)) := (Below.refl _ w).alloc (Nat.le_refl _) _
  have hT := Lies.new w 24 #[.int .i64 0, .string ⟨#[]⟩, .int .i64 0, .int .i64 0, .slice none 0 0]
  have h40 : (⟨#[40]⟩ : ByteArray).toList = [40] := ByteArray.toList_mk [40]
  have h41 : (⟨#[41]⟩ : ByteArray).toList = [41] := ByteArray.toList_mk [41]
  have HT1 := Lib.hid (take_both r Tb ⟨#[40]⟩ (by rw [h40]; simp) l e _ (hR.below hb0))
  have HT2 := fun l' w' (h : Rd w' r Tb l' e) => Lib.hid (take_both r Tb ⟨#[41]⟩ (by rw [h41]; simp) l' e w' h)
  rw [h40] at HT1
  rw [h41] at HT2
  have HEX := Lib.hid hex
  clear hR h40 h41 hex
  go_enter Tryz.func177, Tryz.ntmps177
  go_wp2_with fail
  refine HT1.out.mono ?_
  rintro x w1 ⟨hm1, hg1, hbd1⟩
  have hm01 := (Moves.of_below hb0).trans hm1
  cases h1 : takeV [40] e l with
  | error p =>
    obtain rfl := hbd1 p h1
    have hW : withinV ex e l = .error p := by unfold withinV; rw [h1]
    have HW := Lib.hid hW
    clear hW h1 hg1 hbd1
    go_wp2_with fail
    refine ⟨rfl, ?_⟩
    exact ⟨hm01, fun t q h => (by rw [HW.out] at h; cases h), fun p' h => by rw [HW.out] at h; cases h; rfl⟩
  | ok tq =>
    obtain ⟨t0, l1⟩ := tq
    obtain ⟨rfl, hR1⟩ := hg1 t0 l1 h1
    have hl1 := takeV_len h1
    have H1 := Lib.hid h1
    clear h1 hg1 hbd1
    unfold Tok.val
    have hT1 := hm1.lies hT (by omega)
    go_wp2_with fail
    refine (HEX.out l1 w1 (by omega) hR1).mono ?_
    rintro x w2 ⟨hm2, hg2, hbd2⟩
    have hm02 := hm01.trans hm2
    cases h2 : ex l1 with
    | error p =>
      obtain rfl := hbd2 p h2
      have hW : withinV ex e l = .error p := by unfold withinV; rw [H1.out]; simp only [h2]
      have HW := Lib.hid hW
      clear hW h2 hg2 hbd2
      go_wp2_with fail
      refine ⟨rfl, ?_⟩
      exact ⟨hm02, fun t q h => (by rw [HW.out] at h; cases h), fun p' h => by rw [HW.out] at h; cases h; rfl⟩
    | ok tq =>
      obtain ⟨t, l2⟩ := tq
      obtain ⟨A, c, rfl, hTt, hR2⟩ := hg2 t l2 h2
      have H2 := Lib.hid h2
      clear h2 hg2 hbd2
      have hT2 := hm2.lies hT1 (by omega)
      have hs1 := hm01.size
      have hs1' : w.heap.size + 1 ≤ w1.heap.size := by have := hm1.size; simp at this; omega
      have hTt2 := TIn.wide (Y := fun g => w.heap.size + 1 ≤ g) _ hTt fun g hg _ => Nat.le_trans hs1' hg
      have hs2 := hm2.size
      have hbx := Lies.new w2 24 #[.int .i64 t.kind, .string t.name, .int .i64 t.n, .int .i64 t.place, .slice A t.parts.length (capF t.parts.length c)]
      have hba := (Below.refl _ w2).alloc (Nat.le_refl _) (.cells #[.int .i64 t.kind, .string t.name, .int .i64 t.n, .int .i64 t.place, .slice A t.parts.length (capF t.parts.length c)] 24)
      have hTt3 := TIn.below _ hTt2 hba (Nat.le_refl _)
      have hT3 := hT2.below hba hT2.lt
      have hR2a := hR2.below hba
      have hm02a := hm02.alloc (.cells #[.int .i64 t.kind, .string t.name, .int .i64 t.n, .int .i64 t.place, .slice A t.parts.length (capF t.parts.length c)] 24)
      clear hTt hTt2 hT2 hR2 hba
      unfold tv
      go_wp2_with fail
      refine (HT2 l2 _ hR2a).out.mono ?_
      rintro x w3 ⟨hm3, hg3, hbd3⟩
      have hm03 := hm02a.trans hm3
      cases h3 : takeV [41] e l2 with
      | error p =>
        obtain rfl := hbd3 p h3
        have hW : withinV ex e l = .error p := by unfold withinV; rw [H1.out]; simp only [H2.out, h3]
        have HW := Lib.hid hW
        clear hW h3 hg3 hbd3
        go_wp2_with fail
        refine ⟨rfl, ?_⟩
        exact ⟨hm03, fun t q h => (by rw [HW.out] at h; cases h), fun p' h => by rw [HW.out] at h; cases h; rfl⟩
      | ok tq =>
        obtain ⟨t9, l3⟩ := tq
        obtain ⟨rfl, hR3⟩ := hg3 t9 l3 h3
        have hW : withinV ex e l = .ok (t, l3) := by unfold withinV; rw [H1.out]; simp only [H2.out, h3]
        have HW := Lib.hid hW
        have hT4 := hm3.lies hT3 (by omega)
        have hbx4 := hm3.lies hbx (by omega)
        have hTt4 := tin_moves hTt3 hm3 (by omega)
        have hP := put5 hm03 hR3 (Nat.le_refl _) hr hTb (.int .i64 t.kind) (.string t.name) (.int .i64 t.n) (.int .i64 t.place) (.slice A t.parts.length (capF t.parts.length c)) hTt4 (by omega)
        have HP := Lib.hid hP
        have HL := Lib.hid (hT4.all5 (.int .i64 t.kind) (.string t.name) (.int .i64 t.n) (.int .i64 t.place) (.slice A t.parts.length (capF t.parts.length c)))
        obtain ⟨⟨z0, z1, z2, z3, z4⟩, f0, f1, f2, f3, f4⟩ := hT4.five
        obtain ⟨⟨y0, y1, y2, y3, y4⟩, _⟩ := hbx4.five
        clear hW h3 hg3 hbd3 hT4 hbx4 hTt4 hP hT3 hbx hTt3
        unfold Tok.val
        go_wp2_with fail
        refine bodyPost_ret (res_tree (p := 2) Tryz.results177 rfl HL.out) rfl ?_
        obtain ⟨q1, q2, q3⟩ := HP.out
        refine ⟨q1, fun t' q' h => ?_, fun p h => (by rw [HW.out] at h; cases h)⟩
        rw [HW.out] at h
        simp only [Except.ok.injEq, Prod.mk.injEq] at h
        obtain ⟨rfl, rfl⟩ := h
        exact ⟨A, c, rfl, TIn.wide _ q3 fun g hg _ => Nat.le_of_succ_le hg, q2⟩
end Lx
end Go.Proofs.YteabbkhlgnoliaaGreatDoor
namespace Go.Proofs.YteabbkhlgnoliaaGreatDoor
open Go.RowKit
namespace Lx
set_option maxRecDepth 100000
theorem leaf_in {W : World} {X : Nat → Prop} (t : Tok) (h : t.text.length ≤ 60000) : TIn W X (leafV t) none := by
  unfold leafV
  have hs : (⟨t.text.toArray⟩ : ByteArray).size ≤ 140737488351232 := by show t.text.toArray.size ≤ _; simp; omega
  split
  · exact TIn.leaf hs
  · split
    · exact TIn.leaf hs
    · exact TIn.leaf (by decide)

theorem atomV_par (ex : List Tok → PR) (e : Int) (t : Tok) (q : List Tok) (h : (t.text == [40]) = true) : atomV ex e (t :: q) = withinV ex e (t :: q) := by
  show (if (t.text == [40]) = true then _ else _) = _
  rw [if_pos h]
theorem atomV_leaf (ex : List Tok → PR) (e : Int) (t : Tok) (q : List Tok) (h : (t.text == [40]) = false) (ha : atomS t = true) : atomV ex e (t :: q) = .ok (leafV t, q) := by
  show (if (t.text == [40]) = true then _ else if atomS t = true then _ else _) = _
  rw [if_neg (by simp [h]), if_pos ha]
theorem atomV_no (ex : List Tok → PR) (e : Int) (t : Tok) (q : List Tok) (h : (t.text == [40]) = false) (ha : atomS t = false) : atomV ex e (t :: q) = .error t.place := by
  show (if (t.text == [40]) = true then _ else if atomS t = true then _ else _) = _
  rw [if_neg (by simp [h]), if_neg (by simp [ha])]
set_option maxHeartbeats 4000000 in
theorem atom_any (r Tb : Nat) (e : Int) (ex : List Tok → PR) (l : List Tok) (w : World) (hR : Rd w r Tb l e)
    (hex : ∀ (l' : List Tok) (w' : World), l'.length < l.length → Rd w' r Tb l' e → Calls Tryz.prog 67 #[.pointer (some ⟨r, 0, none⟩)] w' fun x w'' => PPost w' r Tb e (ex l') x w'') :
    Calls Tryz.prog 168 #[.pointer (some ⟨r, 0, none⟩)] w fun x w' => PPost w r Tb e (atomV ex e l) x w' := by
  have hr := hR.lt'
  have hTb := hR.lt
  have htx := hR.txt
  have hb0 : Below w.heap.size w ((w.alloc (.cells #[.int .i64 0, .string ⟨#[]⟩, .int .i64 0, .int .i64 0, .slice none 0 0] 24)).alloc (.cells #[.string ⟨#[40]⟩] 9)) := ((Below.refl _ w).alloc (Nat.le_refl _) _).alloc (by simp) _
  have hT : Lies ((w.alloc (.cells #[.int .i64 0, .string ⟨#[]⟩, .int .i64 0, .int .i64 0, .slice none 0 0] 24)).alloc (.cells #[.string ⟨#[40]⟩] 9)) w.heap.size 24 #[.int .i64 0, .string ⟨#[]⟩, .int .i64 0, .int .i64 0, .slice none 0 0] := (Lies.new w _ _).old _
  have h40 : (⟨#[40]⟩ : ByteArray).toList = [40] := ByteArray.toList_mk [40]
  have HS := Lib.hid (sees_any r Tb (w.heap.size + 1) [⟨#[40]⟩] 1 1 l e _ rfl (by omega) (StrIn.one (lies_new1 w _ 9 #[.string ⟨#[40]⟩])) (hR.below hb0))
  rw [hasS_one, h40] at HS
  have HR0 := Lib.hid (hR.below hb0)
  have HSA := fun w' (h : Rd w' r Tb l e) => Lib.hid (seesAtom_any r Tb l e w' h)
  have HST := fun w' (h : Rd w' r Tb l e) => Lib.hid (stop_any r Tb l e w' h)
  have HWI := fun w' (h : Rd w' r Tb l e) => Lib.hid (within_any r Tb e ex l w' h hex)
  clear hR h40 hex
  cases hp : (peekV l e).text == [40] with
  | true =>
    rw [hp] at HS
    have hW : atomV ex e l = withinV ex e l := by
      cases l with
      | nil => simp [peekV] at hp
      | cons t q => exact atomV_par ex e t q hp
    rw [hW]
    obtain ⟨res, hres⟩ : ∃ res, res = withinV ex e l := ⟨_, rfl⟩
    rw [← hres] at HWI ⊢
    clear hres
    clear hW hp HSA HST
    go_enter Tryz.func168, Tryz.ntmps168
    go_wp2_with fail
    refine HS.out.mono ?_
    rintro x w1 ⟨rfl, hb1⟩
    have hb01 := hb0.trans (hb1.mono hb0.size)
    have hT1 := hT.below hb1 hT.lt
    have hs1 := hb1.size
    simp at hs1
    go_wp2_with fail
    refine (HWI _ (HR0.out.below hb1)).out.mono ?_
    rintro x w2 ⟨hm2, hg2, hbd2⟩
    have hm02 := (Moves.of_below hb01).trans hm2
    cases h2 : res with
    | error p =>
      obtain rfl := hbd2 p h2
      have H2 := Lib.hid h2
      clear hg2 hbd2 HWI h2
      go_wp2_with fail
      refine ⟨rfl, ?_⟩
      exact ⟨hm02, fun t q h => (by rw [H2.out] at h; cases h), fun p' h => by rw [H2.out] at h; cases h; rfl⟩
    | ok tq =>
      obtain ⟨t, l2⟩ := tq
      obtain ⟨A, c, rfl, hTt, hR2⟩ := hg2 t l2 h2
      have H2 := Lib.hid h2
      clear hg2 hbd2 h2 HWI
      have hT2 := hm2.lies hT1 (by omega)
      have hP := put5 hm02 hR2 (Nat.le_refl _) hr hTb (.int .i64 t.kind) (.string t.name) (.int .i64 t.n) (.int .i64 t.place) (.slice A t.parts.length (capF t.parts.length c)) hTt (by omega)
      have HP := Lib.hid hP
      have HL := Lib.hid (hT2.all5 (.int .i64 t.kind) (.string t.name) (.int .i64 t.n) (.int .i64 t.place) (.slice A t.parts.length (capF t.parts.length c)))
      obtain ⟨⟨z0, z1, z2, z3, z4⟩, f0, f1, f2, f3, f4⟩ := hT2.five
      clear hT2 hTt hP
      unfold tv
      go_wp2_with fail
      refine bodyPost_ret (res_tree (p := 2) Tryz.results168 rfl HL.out) rfl ?_
      obtain ⟨q1, q2, q3⟩ := HP.out
      refine ⟨q1, fun t' q' h => ?_, fun p h => (by rw [H2.out] at h; cases h)⟩
      rw [H2.out] at h
      simp only [Except.ok.injEq, Prod.mk.injEq] at h
      obtain ⟨rfl, rfl⟩ := h
      exact ⟨A, c, rfl, TIn.wide _ q3 fun g hg _ => (by have h9 : w1.heap.size ≤ g := hg; omega), q2⟩
  | false =>
    rw [hp] at HS
    cases ha : atomS (peekV l e) with
    | false =>
      rw [ha] at HSA
      have hW : atomV ex e l = .error (peekV l e).place := by
        cases l with
        | nil => rfl
        | cons t q => exact atomV_no ex e t q hp ha
      rw [hW]
      clear hW hp ha HWI
      go_enter Tryz.func168, Tryz.ntmps168
      go_wp2_with fail
      refine HS.out.mono ?_
      rintro x w1 ⟨rfl, hb1⟩
      have hb01 := hb0.trans (hb1.mono hb0.size)
      go_wp2_with fail
      refine (HSA _ (HR0.out.below hb1)).out.mono ?_
      rintro x w2 ⟨rfl, hb2⟩
      have hb02 := hb01.trans (hb2.mono hb01.size)
      go_wp2_with fail
      refine (HST _ ((HR0.out.below hb1).below hb2)).out.mono ?_
      rintro x w3 ⟨rfl, hb3⟩
      go_wp2_with fail
      refine ⟨rfl, ?_⟩
      exact ⟨Moves.of_below (hb02.trans (hb3.mono hb02.size)), fun t q h => (by cases h), fun p' h => by cases h; rfl⟩
    | true =>
      rw [ha] at HSA
      obtain ⟨t, q, rfl⟩ : ∃ t q, l = t :: q := by
        cases l with
        | nil => simp [peekV, atomS] at ha
        | cons t q => exact ⟨t, q, rfl⟩
      have hW : atomV ex e (t :: q) = .ok (leafV t, q) := by
        exact atomV_leaf ex e t q hp ha
      rw [hW]
      have HN := fun w' (h : Rd w' r Tb (t :: q) e) => Lib.hid (next_any r Tb t q e w' h)
      have HLF := fun w' => Lib.hid (leaf_any t w')
      have hlen := htx t (by simp)
      obtain ⟨u, hu⟩ : ∃ u, u = leafV t := ⟨_, rfl⟩
      have hTu : ∀ (W : World) (X : Nat → Prop), TIn W X u none := fun W X => by rw [hu]; exact leaf_in t hlen
      rw [← hu] at HLF ⊢
      clear hW hp ha HWI HST htx hu hlen
      have hpl : u.parts.length = 0 ∨ True := .inr trivial
      go_enter Tryz.func168, Tryz.ntmps168
      go_wp2_with fail
      refine HS.out.mono ?_
      rintro x w1 ⟨rfl, hb1⟩
      have hb01 := hb0.trans (hb1.mono hb0.size)
      have hT1 := hT.below hb1 hT.lt
      go_wp2_with fail
      refine (HSA _ (HR0.out.below hb1)).out.mono ?_
      rintro x w2 ⟨rfl, hb2⟩
      have hb02 := hb01.trans (hb2.mono hb01.size)
      have hT2 := hT1.below hb2 hT1.lt
      go_wp2_with fail
      refine (HN _ ((HR0.out.below hb1).below hb2)).out.mono ?_
      rintro x w3 ⟨rfl, hm3, hR3⟩
      have hm03 := (Moves.of_below hb02).trans hm3
      have hT3 := hm3.lies hT2 (by omega)
      unfold Tok.val
      go_wp2_with fail
      refine (HLF _).out.mono ?_
      rintro x w4 ⟨rfl, hb4⟩
      have hm04 := hm03.trans (Moves.of_below hb4)
      have hT4 := hT3.below hb4 hT3.lt
      have hR4 := hR3.below hb4
      have hP := put5 hm04 hR4 (Nat.le_refl _) hr hTb (.int .i64 u.kind) (.string u.name) (.int .i64 u.n) (.int .i64 u.place) (.slice none u.parts.length (capF u.parts.length 0)) (hTu w4 (fun g => w.heap.size + 1 ≤ g)) (by omega)
      have HP := Lib.hid hP
      have HL := Lib.hid (hT4.all5 (.int .i64 u.kind) (.string u.name) (.int .i64 u.n) (.int .i64 u.place) (.slice none u.parts.length (capF u.parts.length 0)))
      obtain ⟨⟨z0, z1, z2, z3, z4⟩, f0, f1, f2, f3, f4⟩ := hT4.five
      clear hT4 hP hT3 hT2 hT1
      unfold tv
      go_wp2_with fail
      refine bodyPost_ret (res_tree (p := 2) Tryz.results168 rfl HL.out) rfl ?_
      obtain ⟨q1, q2, q3⟩ := HP.out
      refine ⟨q1, fun t' q' h => ?_, fun p h => (by cases h)⟩
      simp only [Except.ok.injEq, Prod.mk.injEq] at h
      obtain ⟨rfl, rfl⟩ := h
      exact ⟨none, 0, rfl, TIn.wide _ q3 fun g hg _ => Nat.le_of_succ_le hg, q2⟩
end Lx
end Go.Proofs.YteabbkhlgnoliaaGreatDoor
namespace Go.Proofs.YteabbkhlgnoliaaGreatDoor
open Go.RowKit
namespace Lx
set_option maxRecDepth 100000
theorem withinV_len {ex : List Tok → PR} {e : Int} {l : List Tok} (hex : ∀ l' t q, l'.length < l.length → ex l' = .ok (t, q) → q.length < l'.length) {t : Tr} {q : List Tok} (h : withinV ex e l = .ok (t, q)) : q.length < l.length := by
  unfold withinV at h
  cases h1 : takeV [40] e l with
  | error p => rw [h1] at h; cases h
  | ok x =>
    obtain ⟨t1, l1⟩ := x
    rw [h1] at h
    simp only at h
    have n1 := takeV_len h1
    cases h2 : ex l1 with
    | error p => rw [h2] at h; cases h
    | ok x =>
      obtain ⟨t2, l2⟩ := x
      rw [h2] at h
      simp only at h
      have n2 := hex l1 t2 l2 (by omega) h2
      cases h3 : takeV [41] e l2 with
      | error p => rw [h3] at h; cases h
      | ok x =>
        obtain ⟨t3, l3⟩ := x
        rw [h3] at h
        simp only [Except.ok.injEq, Prod.mk.injEq] at h
        have n3 := takeV_len h3
        rw [← h.2]
        omega
theorem atomV_len {ex : List Tok → PR} {e : Int} {l : List Tok} (hex : ∀ l' t q, l'.length < l.length → ex l' = .ok (t, q) → q.length < l'.length) {t : Tr} {q : List Tok} (h : atomV ex e l = .ok (t, q)) : q.length < l.length := by
  cases l with
  | nil => cases h
  | cons a r =>
    cases h1 : a.text == [40] with
    | true => rw [atomV_par _ _ _ _ h1] at h; exact withinV_len hex h
    | false =>
      cases h2 : atomS a with
      | true => rw [atomV_leaf _ _ _ _ h1 h2] at h; cases h; simp
      | false => rw [atomV_no _ _ _ _ h1 h2] at h; cases h
/-- Each further atom is what the tree so far is applied to. -/
def appLoop (ex : List Tok → PR) (e at_ : Int) : Nat → Tr → List Tok → PR
  | 0, t, l => .ok (t, l)
  | n + 1, t, l => if atomS (peekV l e) = true then (match atomV ex e l with
    | .error p => .error p
    | .ok (u, q) => appLoop ex e at_ n (.node 3 ⟨#[]⟩ 0 at_ [t, u]) q) else .ok (t, l)
def appV (con : List Tok → PR) (ex : List Tok → PR) (e : Int) (l : List Tok) : PR :=
  if (peekV l e).kind = 2 then con l else match atomV ex e l with
  | .error p => .error p
  | .ok (t, q) => appLoop ex e (peekV l e).place (q.length + 1) t q
/-- How many tokens the reader has ahead. -/
def restLen (r : Nat) (w : World) : Nat := match w.cell? ⟨r, 0, none⟩ with | some (.slice _ n _) => n | _ => 0
theorem Rd.rest {w : World} {r Tb : Nat} {l : List Tok} {e : Int} (h : Rd w r Tb l e) : restLen r w = l.length := by
  obtain ⟨_, _, _, _, _, A, c, hL, _⟩ := h
  have c0 := hL.cell 0
  simp at c0
  unfold restLen
  rw [c0]
set_option maxHeartbeats 8000000 in
theorem app_any (r Tb : Nat) (e : Int) (con ex : List Tok → PR) (l : List Tok) (w : World) (hR : Rd w r Tb l e)
    (hex : ∀ (l' : List Tok) (w' : World), l'.length < l.length → Rd w' r Tb l' e → Calls Tryz.prog 67 #[.pointer (some ⟨r, 0, none⟩)] w' fun x w'' => PPost w' r Tb e (ex l') x w'')
    (hxl : ∀ l' t q, l'.length < l.length → ex l' = .ok (t, q) → q.length < l'.length)
    (hcon : ∀ (w' : World), (peekV l e).kind = 2 → Rd w' r Tb l e → Calls Tryz.prog 186 #[.pointer (some ⟨r, 0, none⟩)] w' fun x w'' => PPost w' r Tb e (con l) x w'') :
    Calls Tryz.prog 181 #[.pointer (some ⟨r, 0, none⟩)] w fun x w' => PPost w r Tb e (appV con ex e l) x w' := by
  have hr := hR.lt'
  have hTb := hR.lt
  have hb0 : Below w.heap.size w (w.alloc (.cells #[.int .i64 0, .string ⟨#[]⟩, .int .i64 0, .int .i64 0, .slice none 0 0] 24)) := (Below.refl _ w).alloc (Nat.le_refl _) _
  have hT := Lies.new w 24 #[.int .i64 0, .string ⟨#[]⟩, .int .i64 0, .int .i64 0, .slice none 0 0]
  have HP := fun w' (h : Rd w' r Tb l e) => Lib.hid (peek_any r Tb l e w' h)
  have HR0 := Lib.hid (hR.below hb0)
  have HAT := Lib.hid (fun l' w' (hl : l'.length ≤ l.length) (h : Rd w' r Tb l' e) => atom_any r Tb e ex l' w' h (fun l2 w2 h2 hR2 => hex l2 w2 (Nat.lt_of_lt_of_le h2 hl) hR2))
  have HXL := Lib.hid (fun l' t q (hl : l'.length ≤ l.length) (h : atomV ex e l' = .ok (t, q)) => atomV_len (fun l2 t2 q2 h2 => hxl l2 t2 q2 (Nat.lt_of_lt_of_le h2 hl)) h)
  have hf0 := fld0
  have hf3 := fld3
  clear hR hex hxl
  obtain ⟨pk, hpk⟩ : ∃ pk, pk = peekV l e := ⟨_, rfl⟩
  rw [← hpk] at HP hcon
  by_cases k2 : pk.kind = 2
  · have hW : appV con ex e l = con l := by unfold appV; rw [← hpk, if_pos k2]
    rw [hW]
    obtain ⟨res, hres⟩ : ∃ res, res = con l := ⟨_, rfl⟩
    rw [← hres] at hcon ⊢
    have HCON := Lib.hid (fun w' h => hcon w' k2 h)
    have e2 : (pk.kind == 2) = true := by simp [k2]
    clear hW hres hcon hpk HAT HXL
    unfold Tok.val at HP
    go_enter Tryz.func181, Tryz.ntmps181
    go_wp2_with fail
    refine (HP _ HR0.out).out.mono ?_
    rintro x w1 ⟨rfl, hb1⟩
    have hb01 := hb0.trans (hb1.mono hb0.size)
    have hT1 := hT.below hb1 hT.lt
    have hs1 := hb1.size
    simp at hs1
    go_wp2_with fail
    refine (HCON.out _ (HR0.out.below hb1)).mono ?_
    rintro x w2 ⟨hm2, hg2, hbd2⟩
    have hm02 := (Moves.of_below hb01).trans hm2
    cases h2 : res with
    | error p =>
      obtain rfl := hbd2 p h2
      have H2 := Lib.hid h2
      clear hg2 hbd2 h2
      go_wp2_with fail
      refine ⟨rfl, ?_⟩
      exact ⟨hm02, fun t q h => (by rw [H2.out] at h; cases h), fun p' h => by rw [H2.out] at h; cases h; rfl⟩
    | ok tq =>
      obtain ⟨t, l2⟩ := tq
      obtain ⟨A, c, rfl, hTt, hR2⟩ := hg2 t l2 h2
      have H2 := Lib.hid h2
      clear hg2 hbd2 h2
      have hT2 := hm2.lies hT1 (by omega)
      have hP := put5 hm02 hR2 (Nat.le_refl _) hr hTb (.int .i64 t.kind) (.string t.name) (.int .i64 t.n) (.int .i64 t.place) (.slice A t.parts.length (capF t.parts.length c)) hTt (by omega)
      have HP5 := Lib.hid hP
      have HL := Lib.hid (hT2.all5 (.int .i64 t.kind) (.string t.name) (.int .i64 t.n) (.int .i64 t.place) (.slice A t.parts.length (capF t.parts.length c)))
      obtain ⟨⟨z0, z1, z2, z3, z4⟩, f0, f1, f2, f3, f4⟩ := hT2.five
      clear hT2 hTt hP
      unfold tv
      go_wp2_with fail
      refine bodyPost_ret (res_tree (p := 2) Tryz.results181 rfl HL.out) rfl ?_
      obtain ⟨q1, q2, q3⟩ := HP5.out
      refine ⟨q1, fun t' q' h => ?_, fun p h => (by rw [H2.out] at h; cases h)⟩
      rw [H2.out] at h
      simp only [Except.ok.injEq, Prod.mk.injEq] at h
      obtain ⟨rfl, rfl⟩ := h
      exact ⟨A, c, rfl, TIn.wide _ q3 fun g hg _ => (by have h9 : w1.heap.size ≤ g := hg; omega), q2⟩
  · have e2 : (pk.kind == 2) = false := by simp [k2]
    obtain ⟨res, hres⟩ : ∃ res, res = appV con ex e l := ⟨_, rfl⟩
    have hW := hres
    unfold appV at hW
    rw [← hpk, if_neg k2] at hW
    have HW := Lib.hid hW
    rw [← hres]
    clear hW hres hcon hpk k2
    unfold Tok.val at HP
    go_enter Tryz.func181, Tryz.ntmps181
    go_wp2_with fail
    refine (HP _ HR0.out).out.mono ?_
    rintro x w1 ⟨rfl, hb1⟩
    have hb01 := hb0.trans (hb1.mono hb0.size)
    have hT1 := hT.below hb1 hT.lt
    go_wp2_with fail
    refine (HP _ (HR0.out.below hb1)).out.mono ?_
    rintro x w2 ⟨rfl, hb2⟩
    have hb02 := hb01.trans (hb2.mono hb01.size)
    have hT2 := hT1.below hb2 hT1.lt
    have hR2 := (HR0.out.below hb1).below hb2
    have hs2 : w.heap.size + 1 ≤ w2.heap.size := by have h1 := hb1.size; have h2 := hb2.size; simp at h1; omega
    clear hb1 hb2 hT1
    go_wp2_with fail
    refine (HAT.out l w2 (Nat.le_refl _) hR2).mono ?_
    rintro x w3 ⟨hm3, hg3, hbd3⟩
    have hm03 := (Moves.of_below hb02).trans hm3
    cases h3 : atomV ex e l with
    | error p =>
      obtain rfl := hbd3 p h3
      have hW2 : res = .error p := by rw [HW.out, h3]
      have H2 := Lib.hid hW2
      clear hg3 hbd3 h3 hW2
      go_wp2_with fail
      refine ⟨rfl, ?_⟩
      exact ⟨hm03, fun t q h => (by rw [H2.out] at h; cases h), fun p' h => by rw [H2.out] at h; cases h; rfl⟩
    | ok tq =>
      obtain ⟨t, q⟩ := tq
      obtain ⟨A, c, rfl, hTt, hR3⟩ := hg3 t q h3
      have hql := HXL.out l t q (Nat.le_refl _) h3
      have hW2 : res = appLoop ex e pk.place (q.length + 1) t q := by rw [HW.out, h3]
      have H2 := Lib.hid hW2
      clear hg3 hbd3 h3 hW2 HW
      have hT3 := hm3.lies hT2 (by omega)
      have hTt' := TIn.wide (Y := fun g => w.heap.size + 1 ≤ g) _ hTt fun g hg _ => Nat.le_trans hs2 hg
      have hs3 := hm3.size
      have hbw3 := (Below.refl _ w3).alloc (Nat.le_refl _) (.cells #[.int .i64 t.kind, .string t.name, .int .i64 t.n, .int .i64 t.place, .slice A t.parts.length (capF t.parts.length c)] 24)
      have HST := Lib.hid (show Moves r w (w3.alloc (.cells #[.int .i64 t.kind, .string t.name, .int .i64 t.n, .int .i64 t.place, .slice A t.parts.length (capF t.parts.length c)] 24)) ∧ Lies (w3.alloc (.cells #[.int .i64 t.kind, .string t.name, .int .i64 t.n, .int .i64 t.place, .slice A t.parts.length (capF t.parts.length c)] 24)) w.heap.size 24 #[.int .i64 0, .string ⟨#[]⟩, .int .i64 0, .int .i64 0, .slice none 0 0] ∧ Lies (w3.alloc (.cells #[.int .i64 t.kind, .string t.name, .int .i64 t.n, .int .i64 t.place, .slice A t.parts.length (capF t.parts.length c)] 24)) w3.heap.size 24 #[.int .i64 t.kind, .string t.name, .int .i64 t.n, .int .i64 t.place, .slice A t.parts.length (capF t.parts.length c)] ∧
          TIn (w3.alloc (.cells #[.int .i64 t.kind, .string t.name, .int .i64 t.n, .int .i64 t.place, .slice A t.parts.length (capF t.parts.length c)] 24)) (fun g => w.heap.size + 1 ≤ g ∧ g ≠ w3.heap.size) t A ∧ Rd (w3.alloc (.cells #[.int .i64 t.kind, .string t.name, .int .i64 t.n, .int .i64 t.place, .slice A t.parts.length (capF t.parts.length c)] 24)) r Tb q e from
        ⟨hm03.alloc _, hT3.below hbw3 hT3.lt, Lies.new w3 _ _, TIn.below _ (TIn.wide _ hTt' fun g hg hlt => ⟨hg, by omega⟩) hbw3 (Nat.le_refl _), hR3.below hbw3⟩)
      have hs03 : w.heap.size + 1 ≤ w3.heap.size := by omega
      clear hT3 hTt hTt' hbw3 hR3 hm03 hm3 hT2 hb02 hR2 hb01 hb0 hT HR0 HP hs2
      obtain ⟨at_, hat⟩ : ∃ a, a = pk.place := ⟨_, rfl⟩
      rw [← hat] at H2 ⊢
      clear hat
      unfold tv
      go_wp2_with fail
      go_loopw [] (fun wr => ∃ (n : Nat) (u : Tr) (q' : List Tok) (B : Option Addr) (d : Nat), Moves r w wr ∧ Lies wr w.heap.size 24 #[.int .i64 0, .string ⟨#[]⟩, .int .i64 0, .int .i64 0, .slice none 0 0] ∧ Lies wr w3.heap.size 24 #[.int .i64 u.kind, .string u.name, .int .i64 u.n, .int .i64 u.place, .slice B u.parts.length (capF u.parts.length d)] ∧
          TIn wr (fun g => w.heap.size + 1 ≤ g ∧ g ≠ w3.heap.size) u B ∧ Rd wr r Tb q' e ∧ q'.length < l.length ∧ q'.length < n ∧ Hid (res = appLoop ex e at_ n u q')) (fun wr => restLen r wr)
      case atStart => exact ⟨q.length + 1, t, q, A, c, HST.out.1, HST.out.2.1, HST.out.2.2.1, HST.out.2.2.2.1, HST.out.2.2.2.2, hql, by omega, H2⟩
      case round =>
        obtain ⟨n, u, q', B, d, hm, hT, hB, hTu, hR, hq', hn, HE⟩ := hrel
        obtain ⟨n, rfl⟩ : ∃ m, n = m + 1 := ⟨n - 1, by omega⟩
        have HSA := Lib.hid (seesAtom_any r Tb q' e wr hR)
        have HR := Lib.hid hR
        have HTI := Lib.hid hTu
        have hE := HE.out
        unfold appLoop at hE
        clear HE hR hTu
        cases ha : atomS (peekV q' e) with
        | true =>
          rw [ha] at HSA hE
          rw [if_pos rfl] at hE
          have HE := Lib.hid hE
          clear hE ha
          go_wp2_with fail
          refine HSA.out.mono ?_
          rintro x wa ⟨rfl, hba⟩
          have hma := hm.trans (Moves.of_below hba)
          have hTa := hT.below hba hT.lt
          have hBa := hB.below hba hB.lt
          have hRa := HR.out.below hba
          have hTua := TIn.below _ HTI.out hba (Nat.le_refl _)
          have hsa := hma.size
          have hla := hBa.lt
          have HS := Lib.hid (fun V (h : Moves r wa V) => (show V.cell? ⟨w3.heap.size, 0, none⟩ = some (.int .i64 u.kind) ∧ V.cell? ⟨w3.heap.size, 1, none⟩ = some (.string u.name) ∧ V.cell? ⟨w3.heap.size, 2, none⟩ = some (.int .i64 u.n) ∧ V.cell? ⟨w3.heap.size, 3, none⟩ = some (.int .i64 u.place) ∧ V.cell? ⟨w3.heap.size, 4, none⟩ = some (.slice B u.parts.length (capF u.parts.length d)) from (h.lies hBa (by omega)).five.1))
          have HAQ := Lib.hid (HAT.out q' wa.drew (by omega) (hRa.below (Below.refl _ wa).drew))
          have hRest := HR.out.rest
          clear hB hT HR HTI hm hba HSA
          go_wp2_with fail
          refine wp_region_K (S := fun V => (V.cell? ⟨w3.heap.size, 0, none⟩ = some (.int .i64 u.kind) ∧ V.cell? ⟨w3.heap.size, 1, none⟩ = some (.string u.name) ∧ V.cell? ⟨w3.heap.size, 2, none⟩ = some (.int .i64 u.n) ∧ V.cell? ⟨w3.heap.size, 3, none⟩ = some (.int .i64 u.place) ∧ V.cell? ⟨w3.heap.size, 4, none⟩ = some (.slice B u.parts.length (capF u.parts.length d)))) 6 (by kernel_rfl) (HS.out _ (Moves.of_below (Below.refl _ wa).drew)) fun hS1 => ?_
          change wpAnyK _ _ _ _ _ _ 7 (Array.replicate 7 false) _ _
          refine wpAnyK_take (i := 0) (v := .int .i64 at_) rfl (by kernel_rfl) (by kernel_rfl) (by kernel_rfl) (by kernel_rfl) (fun _ _ _ h => h) (.inl ⟨by kernel_rfl, fun W hW => by kernel_rfl⟩) hS1 ?_
          try simp only [Act.put, List.setIfInBounds_toArray]
          refine wpAnyK_take (i := 1) (v := .agg #[.int .i64 u.kind, .string u.name, .int .i64 u.n, .int .i64 u.place, .slice B u.parts.length (capF u.parts.length d)]) rfl (by kernel_rfl) (by kernel_rfl) (by kernel_rfl) (by kernel_rfl) (fun _ _ _ h => h) (.inl ⟨by kernel_rfl, fun W hW => by (obtain ⟨h0, h1, h2, h3, h4⟩ := hW; go_simp)⟩) hS1 ?_
          try simp only [Act.put]
          refine wpAnyK_take (i := 2) (v := .pointer (some ⟨r, 0, none⟩)) rfl (by kernel_rfl) (by kernel_rfl) (by kernel_rfl) (by kernel_rfl) (fun _ _ _ h => h) (.inl ⟨by kernel_rfl, fun W hW => by kernel_rfl⟩) hS1 ?_
          try simp only [Act.put]
          clear hS1
          refine wpAnyK_one (i := 3) rfl rfl (by kernel_rfl) (fun K hK => ?_)
          go_wp2_with fail
          refine HAQ.out.mono ?_
          rintro x w5 ⟨hm5, hg5, hbd5⟩
          have hm5' : Moves r wa w5 := (Moves.of_below (Below.refl _ wa).drew).trans hm5
          cases h5 : atomV ex e q' with
          | error p =>
            obtain rfl := hbd5 p h5
            have hW2 : res = .error p := by rw [HE.out, h5]
            have H5 := Lib.hid hW2
            clear hg5 hbd5 h5 hW2
            go_wp2_with fail
            refine ⟨rfl, ?_⟩
            exact ⟨hma.trans hm5', fun t q h => (by rw [H5.out] at h; cases h), fun p' h => by rw [H5.out] at h; cases h; rfl⟩
          | ok tq =>
            obtain ⟨u5, q5⟩ := tq
            obtain ⟨A5, c5, rfl, hTt5, hR5⟩ := hg5 u5 q5 h5
            have hq5 := HXL.out q' u5 q5 (by omega) h5
            have hW2 : res = appLoop ex e at_ n (.node 3 ⟨#[]⟩ 0 at_ [u, u5]) q5 := by rw [HE.out, h5]
            have H5 := Lib.hid hW2
            clear hg5 hbd5 h5 hW2
            have hs5 := hm5'.size
            have hB5 := hm5'.lies hBa (by omega)
            have hT5 := hm5'.lies hTa (by omega)
            have hX5 : TIn w5 (fun g => w.heap.size + 1 ≤ g ∧ g ≠ w3.heap.size) u B := tin_moves hTua hm5' (by omega)
            have hY5 : TIn w5 (fun g => w.heap.size + 1 ≤ g ∧ g ≠ w3.heap.size) u5 A5 := TIn.wide _ hTt5 fun g hg _ => by
              have h9 : wa.heap.size ≤ g := hg
              omega
            have hba6 := (Below.refl _ w5).alloc (Nat.le_refl _) (.cells #[.int .i64 u.kind, .string u.name, .int .i64 u.n, .int .i64 u.place, .slice B u.parts.length (capF u.parts.length d), .int .i64 u5.kind, .string u5.name, .int .i64 u5.n, .int .i64 u5.place, .slice A5 u5.parts.length (capF u5.parts.length c5)] 24)
            have hL6 := Lies.new w5 24 #[.int .i64 u.kind, .string u.name, .int .i64 u.n, .int .i64 u.place, .slice B u.parts.length (capF u.parts.length d), .int .i64 u5.kind, .string u5.name, .int .i64 u5.n, .int .i64 u5.place, .slice A5 u5.parts.length (capF u5.parts.length c5)]
            have hB6 := hB5.below hba6 hB5.lt
            have hT6 := hT5.below hba6 hT5.lt
            have hR6 := hR5.below hba6
            have hm6' : Moves r wa (w5.alloc (.cells #[.int .i64 u.kind, .string u.name, .int .i64 u.n, .int .i64 u.place, .slice B u.parts.length (capF u.parts.length d), .int .i64 u5.kind, .string u5.name, .int .i64 u5.n, .int .i64 u5.place, .slice A5 u5.parts.length (capF u5.parts.length c5)] 24)) := hm5'.alloc _
            have hm6 := hma.trans hm6'
            have hN6 : TIn (w5.alloc (.cells #[.int .i64 u.kind, .string u.name, .int .i64 u.n, .int .i64 u.place, .slice B u.parts.length (capF u.parts.length d), .int .i64 u5.kind, .string u5.name, .int .i64 u5.n, .int .i64 u5.place, .slice A5 u5.parts.length (capF u5.parts.length c5)] 24)) (fun g => w.heap.size + 1 ≤ g ∧ g ≠ w3.heap.size) (.node 3 ⟨#[]⟩ 0 at_ [u, u5]) (some ⟨w5.heap.size, 0, none⟩) :=
              TIn.mk (by decide) (by simp) (LIn.two (c1 := d) (c2 := c5) hL6 rfl ⟨by omega, by omega⟩ (TIn.below _ hX5 hba6 (Nat.le_refl _)) (TIn.below _ hY5 hba6 (Nat.le_refl _)))
            have hP := put5 hm6 hR6 (by omega) hr hTb (.int .i64 3) (.string ⟨#[]⟩) (.int .i64 0) (.int .i64 at_) (.slice (some ⟨w5.heap.size, 0, none⟩) 2 2) hN6 (fun h => h.2 rfl)
            have HP5 := Lib.hid hP
            have HL5 := Lib.hid (hB6.all5 (.int .i64 3) (.string ⟨#[]⟩) (.int .i64 0) (.int .i64 at_) (.slice (some ⟨w5.heap.size, 0, none⟩) 2 2))
            have HT5 := Lib.hid (((((hT6.far (p := ⟨w3.heap.size, 0, none⟩) (by show w.heap.size ≠ w3.heap.size; omega) (.int .i64 3)).far (p := ⟨w3.heap.size, 1, none⟩) (by show w.heap.size ≠ w3.heap.size; omega) (.string ⟨#[]⟩)).far (p := ⟨w3.heap.size, 2, none⟩) (by show w.heap.size ≠ w3.heap.size; omega) (.int .i64 0)).far (p := ⟨w3.heap.size, 3, none⟩) (by show w.heap.size ≠ w3.heap.size; omega) (.int .i64 at_)).far (p := ⟨w3.heap.size, 4, none⟩) (by show w.heap.size ≠ w3.heap.size; omega) (.slice (some ⟨w5.heap.size, 0, none⟩) 2 2))
            obtain ⟨⟨y0, y1, y2, y3, y4⟩, g0, g1, g2, g3, g4⟩ := hB6.five
            have HM6 := Lib.hid hm6'
            clear hX5 hY5 hL6 hB6 hT6 hN6 hP hR6 hm6 hba6 hB5 hT5 hTt5 hBa hTa hTua hm6'
            unfold tv
            go_wp2_with fail
            refine hK.out _ _ (fun _ => HS.out _ hm5') fun _ => ?_
            clear hK
            try simp only [Act.put, List.setIfInBounds_toArray, List.set_cons_zero, List.set_cons_succ]
            refine wpAnyK_one (i := 4) rfl rfl (by kernel_rfl) (fun K hK => ?_)
            go_wp2_with fail
            refine hK.out _ _ (fun _ => HS.out _ HM6.out) fun _ => ?_
            clear hK
            try simp only [Act.put, List.setIfInBounds_toArray, List.set_cons_zero, List.set_cons_succ]
            refine wpAnyK_one (i := 5) rfl rfl (by kernel_rfl) (fun K hK => ?_)
            go_wp2_with fail
            refine hK.out _ _ (fun _ => HS.out _ HM6.out) fun _ => ?_
            clear hK
            try simp only [Act.put, List.setIfInBounds_toArray, List.set_cons_zero, List.set_cons_succ]
            refine wpAnyK_one (i := 6) rfl rfl (by kernel_rfl) (fun K hK => ?_)
            go_wp2_with fail
            refine hK.out _ _ (fun h => absurd rfl h) fun _ => ?_
            clear hK
            try simp only [Act.put, List.setIfInBounds_toArray, List.set_cons_zero, List.set_cons_succ]
            refine wpAnyK_done (by kernel_rfl) ?_ _
            clear y0 y1 y2 y3 y4 g0 g1 g2 g3 g4
            go_wp2_with fail
            go_roundw
            case rel => exact ⟨n, .node 3 ⟨#[]⟩ 0 at_ [u, u5], q5, some ⟨w5.heap.size, 0, none⟩, 2, HP5.out.1, HT5.out, HL5.out, HP5.out.2.2, HP5.out.2.1, by omega, by omega, H5⟩
            case measure => rw [HP5.out.2.1.rest, hRest]; exact hq5
        | false =>
          rw [ha] at HSA hE
          rw [if_neg (by simp)] at hE
          have HE := Lib.hid hE
          clear hE ha
          go_wp2_with fail
          refine HSA.out.mono ?_
          rintro x wa ⟨rfl, hba⟩
          have hma := hm.trans (Moves.of_below hba)
          have hTa := hT.below hba hT.lt
          have hBa := hB.below hba hB.lt
          have hRa := HR.out.below hba
          have hTua := TIn.below _ HTI.out hba (Nat.le_refl _)
          have hP := put5 hma hRa (Nat.le_refl _) hr hTb (.int .i64 u.kind) (.string u.name) (.int .i64 u.n) (.int .i64 u.place) (.slice B u.parts.length (capF u.parts.length d)) hTua (by omega)
          have HP5 := Lib.hid hP
          have HL := Lib.hid (hTa.all5 (.int .i64 u.kind) (.string u.name) (.int .i64 u.n) (.int .i64 u.place) (.slice B u.parts.length (capF u.parts.length d)))
          obtain ⟨⟨z0, z1, z2, z3, z4⟩, f0, f1, f2, f3, f4⟩ := hTa.five
          obtain ⟨⟨y0, y1, y2, y3, y4⟩, _⟩ := hBa.five
          clear hT hB hTa hBa hTua hP
          go_wp2_with fail
          refine bodyPost_ret (res_tree (p := 2) Tryz.results181 rfl HL.out) rfl ?_
          obtain ⟨q1, q2, q3⟩ := HP5.out
          refine ⟨q1, fun t' q'' h => ?_, fun p h => (by rw [HE.out] at h; cases h)⟩
          rw [HE.out] at h
          simp only [Except.ok.injEq, Prod.mk.injEq] at h
          obtain ⟨rfl, rfl⟩ := h
          exact ⟨B, d, rfl, TIn.wide _ q3 fun g hg _ => Nat.le_of_succ_le hg.1, q2⟩
end Lx
end Go.Proofs.YteabbkhlgnoliaaGreatDoor
namespace Go.Proofs.YteabbkhlgnoliaaGreatDoor
open Go.RowKit
namespace Lx
set_option maxRecDepth 100000
/-- What stands behind a sign is held against what stands ahead. -/
def opP (sd : List Tok → PR) (at_ : Int) (t : Tr) : List Tok → PR
  | [] => .error 0
  | s :: q => match sd q with
    | .error p => .error p
    | .ok (u, q2) => .ok (.node 10 ⟨s.text.toArray⟩ 0 at_ [t, u], q2)
set_option maxHeartbeats 8000000 in
theorem op_any (K : Nat) (hen : ∀ args w, (callFunc K args).run Tryz.prog w = .ok (.enter K args) w) (r Tb : Nat) (e at_ : Int) (sd : List Tok → PR) (t : Tr) (A : Option Addr) (c : Nat) (s : Tok) (q : List Tok) (X : Nat → Prop) (w : World)
    (hR : Rd w r Tb (s :: q) e) (hTt : TIn w X t A) (hX : ¬ X r)
    (hsd : ∀ (w' : World), Rd w' r Tb q e → Calls Tryz.prog K #[.pointer (some ⟨r, 0, none⟩)] w' fun x w'' => PPost w' r Tb e (sd q) x w'') :
    Calls Tryz.prog 148 #[.pointer (some ⟨r, 0, none⟩), .int .i64 at_, tv t A c, .func (.func K) #[.pointer (some ⟨r, 0, none⟩)] #[]] w fun x w' => Moves r w w' ∧
      (∀ v q2, opP sd at_ t (s :: q) = .ok (v, q2) → ∃ B d, x = .returned (tv v B d) ∧ TIn w' (fun g => (X g ∧ g < w.heap.size) ∨ w.heap.size ≤ g) v B ∧ Rd w' r Tb q2 e) ∧
      (∀ p, opP sd at_ t (s :: q) = .error p → x = .panicked [{ v := noEx p, recovered := false }]) := by
  have hr := hR.lt'
  have hTb := hR.lt
  have htx := hR.txt s (by simp)
  have HR0 := Lib.hid hR
  have HTt := Lib.hid hTt
  have HN := fun w' (h : Rd w' r Tb (s :: q) e) => Lib.hid (next_any r Tb s q e w' h)
  have HSD := Lib.hid hsd
  clear hR hTt hsd
  obtain ⟨res, hres⟩ : ∃ res, res = opP sd at_ t (s :: q) := ⟨_, rfl⟩
  have hW := hres
  simp only [opP] at hW
  rw [← hres]
  have HW := Lib.hid hW
  clear hres hW
  unfold Tok.val at HN
  have hb0 : Below w.heap.size w ((w.alloc (.cells #[.int .i64 t.kind, .string t.name, .int .i64 t.n, .int .i64 t.place, .slice A t.parts.length (capF t.parts.length c)] 24)).alloc (.cells #[.int .i64 0, .string ⟨#[]⟩, .int .i64 0, .int .i64 0, .slice none 0 0] 24)) := ((Below.refl _ w).alloc (Nat.le_refl _) _).alloc (by simp) _
  have hL0 : Lies ((w.alloc (.cells #[.int .i64 t.kind, .string t.name, .int .i64 t.n, .int .i64 t.place, .slice A t.parts.length (capF t.parts.length c)] 24)).alloc (.cells #[.int .i64 0, .string ⟨#[]⟩, .int .i64 0, .int .i64 0, .slice none 0 0] 24)) w.heap.size 24 #[.int .i64 t.kind, .string t.name, .int .i64 t.n, .int .i64 t.place, .slice A t.parts.length (capF t.parts.length c)] := (Lies.new w _ _).old _
  have hZ0 : Lies ((w.alloc (.cells #[.int .i64 t.kind, .string t.name, .int .i64 t.n, .int .i64 t.place, .slice A t.parts.length (capF t.parts.length c)] 24)).alloc (.cells #[.int .i64 0, .string ⟨#[]⟩, .int .i64 0, .int .i64 0, .slice none 0 0] 24)) (w.heap.size + 1) 24 #[.int .i64 0, .string ⟨#[]⟩, .int .i64 0, .int .i64 0, .slice none 0 0] := lies_new1 w _ _ _
  have hTt0 := TIn.below _ (TIn.wide (Y := fun g => X g ∧ g < w.heap.size) _ HTt.out fun g hg hlt => ⟨hg, hlt⟩) hb0 (Nat.le_refl _)
  unfold tv
  go_enter Tryz.func148, Tryz.ntmps148
  go_wp2_with fail
  refine (HN _ (HR0.out.below hb0)).out.mono ?_
  rintro x w1 ⟨rfl, hm1, hR1⟩
  have hL1 := hm1.lies hL0 (by omega)
  have hZ1 := hm1.lies hZ0 (by omega)
  have hX1 : TIn w1 (fun g => X g ∧ g < w.heap.size) t A := tin_moves hTt0 hm1 (fun h => hX h.1)
  have hm01 := (Moves.of_below hb0).trans hm1
  have hs1 : w.heap.size + 2 ≤ w1.heap.size := by have h := hm1.size; simp at h; omega
  go_upto_region 2 with fail
  have hba := (Below.refl _ w1).alloc (Nat.le_refl _) (.cells #[.int .i64 s.kind, .string ⟨s.text.toArray⟩, .int .i64 s.n, .int .i64 s.place] 68)
  have hK2 := Lies.new w1 68 #[.int .i64 s.kind, .string ⟨s.text.toArray⟩, .int .i64 s.n, .int .i64 s.place]
  have hL2 := hL1.below hba hL1.lt
  have hZ2 := hZ1.below hba hZ1.lt
  have hX2 := TIn.below _ hX1 hba (Nat.le_refl _)
  have hR2 := hR1.below hba
  have hm02 := hm01.alloc (.cells #[.int .i64 s.kind, .string ⟨s.text.toArray⟩, .int .i64 s.n, .int .i64 s.place] 68)
  obtain ⟨w2, hw2⟩ : ∃ w2, w2 = w1.alloc (.cells #[.int .i64 s.kind, .string ⟨s.text.toArray⟩, .int .i64 s.n, .int .i64 s.place] 68) := ⟨_, rfl⟩
  have hs2 : w2.heap.size = w1.heap.size + 1 := by rw [hw2]; simp
  rw [← hw2] at hK2 hL2 hZ2 hX2 hR2 hm02 ⊢
  obtain ⟨g9, hg9⟩ : ∃ g, g = w1.heap.size := ⟨_, rfl⟩
  rw [← hg9] at hK2 hs1 hs2 ⊢
  clear hw2 hg9 hba hL1 hZ1 hX1 hR1 hm01 hm1 hTt0 hL0 hZ0 hb0 HN HR0
  have HS := Lib.hid (fun V (h : Moves r w2 V) => (show V.cell? ⟨g9, 1, none⟩ = some (.string ⟨s.text.toArray⟩) ∧ V.cell? ⟨w.heap.size, 0, none⟩ = some (.int .i64 t.kind) ∧ V.cell? ⟨w.heap.size, 1, none⟩ = some (.string t.name) ∧ V.cell? ⟨w.heap.size, 2, none⟩ = some (.int .i64 t.n) ∧ V.cell? ⟨w.heap.size, 3, none⟩ = some (.int .i64 t.place) ∧ V.cell? ⟨w.heap.size, 4, none⟩ = some (.slice A t.parts.length (capF t.parts.length c)) from
    have h1 := (h.lies hK2 (by omega)).cell 1
    have h2 := (h.lies hL2 (by omega)).five.1
    ⟨h1, h2.1, h2.2.1, h2.2.2.1, h2.2.2.2.1, h2.2.2.2.2⟩))
  have HAQ := Lib.hid (HSD.out w2.drew (hR2.below (Below.refl _ w2).drew))
  refine wp_region_K (S := fun V => (V.cell? ⟨g9, 1, none⟩ = some (.string ⟨s.text.toArray⟩) ∧ V.cell? ⟨w.heap.size, 0, none⟩ = some (.int .i64 t.kind) ∧ V.cell? ⟨w.heap.size, 1, none⟩ = some (.string t.name) ∧ V.cell? ⟨w.heap.size, 2, none⟩ = some (.int .i64 t.n) ∧ V.cell? ⟨w.heap.size, 3, none⟩ = some (.int .i64 t.place) ∧ V.cell? ⟨w.heap.size, 4, none⟩ = some (.slice A t.parts.length (capF t.parts.length c)))) 8 (by kernel_rfl) (HS.out _ (Moves.of_below (Below.refl _ w2).drew)) fun hS1 => ?_
  change wpAnyK _ _ _ _ _ _ 9 (Array.replicate 9 false) _ _
  refine wpAnyK_take (i := 0) (v := .pointer (some ⟨g9, 1, none⟩)) rfl (by kernel_rfl) (by kernel_rfl) (by kernel_rfl) (by kernel_rfl) (fun _ _ _ h => h) (.inl ⟨by kernel_rfl, fun W hW => by kernel_rfl⟩) hS1 ?_
  try simp only [Act.put, List.setIfInBounds_toArray]
  refine wpAnyK_take (i := 1) (v := .string ⟨s.text.toArray⟩) rfl (by kernel_rfl) (by kernel_rfl) (by kernel_rfl) (by kernel_rfl) (fun _ _ _ h => h) (.inl ⟨by kernel_rfl, fun W hW => by (obtain ⟨h0, h1, h2, h3, h4, h5⟩ := hW; go_simp)⟩) hS1 ?_
  try simp only [Act.put]
  refine wpAnyK_take (i := 2) (v := .int .i64 at_) rfl (by kernel_rfl) (by kernel_rfl) (by kernel_rfl) (by kernel_rfl) (fun _ _ _ h => h) (.inl ⟨by kernel_rfl, fun W hW => by kernel_rfl⟩) hS1 ?_
  try simp only [Act.put]
  refine wpAnyK_take (i := 3) (v := .agg #[.int .i64 t.kind, .string t.name, .int .i64 t.n, .int .i64 t.place, .slice A t.parts.length (capF t.parts.length c)]) rfl (by kernel_rfl) (by kernel_rfl) (by kernel_rfl) (by kernel_rfl) (fun _ _ _ h => h) (.inl ⟨by kernel_rfl, fun W hW => by (obtain ⟨h0, h1, h2, h3, h4, h5⟩ := hW; go_simp)⟩) hS1 ?_
  try simp only [Act.put]
  refine wpAnyK_take (i := 4) (v := .func (.func K) #[.pointer (some ⟨r, 0, none⟩)] #[]) rfl (by kernel_rfl) (by kernel_rfl) (by kernel_rfl) (by kernel_rfl) (fun _ _ _ h => h) (.inl ⟨by kernel_rfl, fun W hW => by kernel_rfl⟩) hS1 ?_
  try simp only [Act.put]
  clear hS1
  refine wpAnyK_one (i := 5) rfl rfl (by kernel_rfl) (fun K9 hK => ?_)
  go_wp2_with fail
  refine HAQ.out.mono ?_
  rintro x w5 ⟨hm5, hg5, hbd5⟩
  have hm5' : Moves r w2 w5 := (Moves.of_below (Below.refl _ w2).drew).trans hm5
  cases h5 : sd q with
  | error p =>
    obtain rfl := hbd5 p h5
    have hW2 : res = .error p := by rw [HW.out, h5]
    have H5 := Lib.hid hW2
    clear hg5 hbd5 h5 hW2
    go_wp2_with fail
    refine ⟨rfl, ?_⟩
    exact ⟨hm02.trans hm5', fun t q h => (by rw [H5.out] at h; cases h), fun p' h => by rw [H5.out] at h; cases h; rfl⟩
  | ok tq =>
    obtain ⟨u5, q5⟩ := tq
    obtain ⟨A5, c5, rfl, hTt5, hR5⟩ := hg5 u5 q5 h5
    have hW2 : res = .ok (.node 10 ⟨s.text.toArray⟩ 0 at_ [t, u5], q5) := by rw [HW.out, h5]
    have H5 := Lib.hid hW2
    clear hg5 hbd5 h5 hW2
    have hs5 := hm5'.size
    have hZ5 := hm5'.lies hZ2 (by omega)
    have hX5 : TIn w5 (fun g => (X g ∧ g < w.heap.size) ∨ (w.heap.size ≤ g ∧ g ≠ w.heap.size + 1)) t A := TIn.wide _ (tin_moves hX2 hm5' (fun h => hX h.1)) fun g hg _ => .inl hg
    have hY5 : TIn w5 (fun g => (X g ∧ g < w.heap.size) ∨ (w.heap.size ≤ g ∧ g ≠ w.heap.size + 1)) u5 A5 := TIn.wide _ hTt5 fun g hg _ => by
      have h9 : w2.heap.size ≤ g := hg
      exact .inr ⟨by omega, by omega⟩
    have hba6 := (Below.refl _ w5).alloc (Nat.le_refl _) (.cells #[.int .i64 t.kind, .string t.name, .int .i64 t.n, .int .i64 t.place, .slice A t.parts.length (capF t.parts.length c), .int .i64 u5.kind, .string u5.name, .int .i64 u5.n, .int .i64 u5.place, .slice A5 u5.parts.length (capF u5.parts.length c5)] 24)
    have hL6 := Lies.new w5 24 #[.int .i64 t.kind, .string t.name, .int .i64 t.n, .int .i64 t.place, .slice A t.parts.length (capF t.parts.length c), .int .i64 u5.kind, .string u5.name, .int .i64 u5.n, .int .i64 u5.place, .slice A5 u5.parts.length (capF u5.parts.length c5)]
    have hZ6 := hZ5.below hba6 hZ5.lt
    have hR6 := hR5.below hba6
    have hm6' : Moves r w2 (w5.alloc (.cells #[.int .i64 t.kind, .string t.name, .int .i64 t.n, .int .i64 t.place, .slice A t.parts.length (capF t.parts.length c), .int .i64 u5.kind, .string u5.name, .int .i64 u5.n, .int .i64 u5.place, .slice A5 u5.parts.length (capF u5.parts.length c5)] 24)) := hm5'.alloc _
    have hm6 := hm02.trans hm6'
    have hsz : (⟨s.text.toArray⟩ : ByteArray).size ≤ 140737488351232 := by show s.text.toArray.size ≤ _; simp; omega
    have hN6 : TIn (w5.alloc (.cells #[.int .i64 t.kind, .string t.name, .int .i64 t.n, .int .i64 t.place, .slice A t.parts.length (capF t.parts.length c), .int .i64 u5.kind, .string u5.name, .int .i64 u5.n, .int .i64 u5.place, .slice A5 u5.parts.length (capF u5.parts.length c5)] 24)) (fun g => (X g ∧ g < w.heap.size) ∨ (w.heap.size ≤ g ∧ g ≠ w.heap.size + 1)) (.node 10 ⟨s.text.toArray⟩ 0 at_ [t, u5]) (some ⟨w5.heap.size, 0, none⟩) :=
      TIn.mk hsz (by simp) (LIn.two (c1 := c) (c2 := c5) hL6 rfl (.inr ⟨by omega, by omega⟩) (TIn.below _ hX5 hba6 (Nat.le_refl _)) (TIn.below _ hY5 hba6 (Nat.le_refl _)))
    have hP := put5 hm6 hR6 (by omega) hr hTb (.int .i64 10) (.string ⟨s.text.toArray⟩) (.int .i64 0) (.int .i64 at_) (.slice (some ⟨w5.heap.size, 0, none⟩) 2 2) hN6 (G := w.heap.size + 1) (fun h => h.elim (fun h => by omega) (fun h => h.2 rfl))
    have HP5 := Lib.hid hP
    have HL5 := Lib.hid (hZ6.all5 (.int .i64 10) (.string ⟨s.text.toArray⟩) (.int .i64 0) (.int .i64 at_) (.slice (some ⟨w5.heap.size, 0, none⟩) 2 2))
    obtain ⟨⟨y0, y1, y2, y3, y4⟩, g0, g1, g2, g3, g4⟩ := hZ6.five
    have HM6 := Lib.hid hm6'
    clear hX5 hY5 hL6 hZ6 hN6 hP hR6 hm6 hba6 hZ5 hTt5 hm6' hK2 hL2 hZ2 hX2
    unfold tv
    go_wp2_with fail
    refine hK.out _ _ (fun _ => HS.out _ hm5') fun _ => ?_
    clear hK
    try simp only [Act.put, List.setIfInBounds_toArray, List.set_cons_zero, List.set_cons_succ]
    refine wpAnyK_one (i := 6) rfl rfl (by kernel_rfl) (fun K9 hK => ?_)
    go_wp2_with fail
    refine hK.out _ _ (fun _ => HS.out _ HM6.out) fun _ => ?_
    clear hK
    try simp only [Act.put, List.setIfInBounds_toArray, List.set_cons_zero, List.set_cons_succ]
    refine wpAnyK_one (i := 7) rfl rfl (by kernel_rfl) (fun K9 hK => ?_)
    go_wp2_with fail
    refine hK.out _ _ (fun _ => HS.out _ HM6.out) fun _ => ?_
    clear hK
    try simp only [Act.put, List.setIfInBounds_toArray, List.set_cons_zero, List.set_cons_succ]
    refine wpAnyK_one (i := 8) rfl rfl (by kernel_rfl) (fun K9 hK => ?_)
    go_wp2_with fail
    refine hK.out _ _ (fun h => absurd rfl h) fun _ => ?_
    clear hK
    try simp only [Act.put, List.setIfInBounds_toArray, List.set_cons_zero, List.set_cons_succ]
    refine wpAnyK_done (by kernel_rfl) ?_ _
    clear y0 y1 y2 y3 y4 g0 g1 g2 g3 g4
    go_wp2_with fail
    refine bodyPost_ret (res_tree (p := 8) Tryz.results148 rfl HL5.out) rfl ?_
    obtain ⟨q1, q2, q3⟩ := HP5.out
    refine ⟨q1, fun t' q'' h => ?_, fun p h => (by rw [H5.out] at h; cases h)⟩
    rw [H5.out] at h
    simp only [Except.ok.injEq, Prod.mk.injEq] at h
    obtain ⟨rfl, rfl⟩ := h
    exact ⟨some ⟨w5.heap.size, 0, none⟩, 2, rfl, TIn.wide _ q3 fun g hg _ => hg.elim .inl (fun h => .inr h.1), q2⟩
end Lx
end Go.Proofs.YteabbkhlgnoliaaGreatDoor
namespace Go.Proofs.YteabbkhlgnoliaaGreatDoor
open Go.RowKit
namespace Lx
set_option maxRecDepth 100000
def rowLoop (sd : List Tok → PR) (ss : List ByteArray) (e at_ : Int) : Nat → Tr → List Tok → PR
  | 0, t, l => .ok (t, l)
  | n + 1, t, l => if hasS ss ⟨(peekV l e).text.toArray⟩ = true then (match opP sd at_ t l with
    | .error p => .error p
    | .ok (v, q) => rowLoop sd ss e at_ n v q) else .ok (t, l)
def rowV (sd : List Tok → PR) (ss : List ByteArray) (e : Int) (l : List Tok) : PR :=
  match sd l with
  | .error p => .error p
  | .ok (t, q) => rowLoop sd ss e (peekV l e).place (q.length + 1) t q
theorem StrIn.moves {w w' : World} {r G : Nat} {ss : List ByteArray} (h : StrIn w G ss) (hm : Moves r w w') (hG : G ≠ r) : StrIn w' G ss := fun i hi =>
  (World.cell?_of_block (a := ⟨G, i, none⟩) (hm.block G (cell_lt (h i hi)) (fun e => hG (Option.some.inj e)))).trans (h i hi)
theorem opP_len {sd : List Tok → PR} {at_ : Int} {t v : Tr} {l q : List Tok} (hsl : ∀ l' t q, l'.length < l.length → sd l' = .ok (t, q) → q.length < l'.length) (h : opP sd at_ t l = .ok (v, q)) : q.length < l.length := by
  cases l with
  | nil => cases h
  | cons s r =>
    simp only [opP] at h
    cases h1 : sd r with
    | error p => rw [h1] at h; cases h
    | ok x =>
      obtain ⟨u, q2⟩ := x
      rw [h1] at h
      simp only [Except.ok.injEq, Prod.mk.injEq] at h
      have := hsl r u q2 (by simp) h1
      rw [← h.2]
      simp
      omega
set_option maxHeartbeats 8000000 in
theorem row_any (K : Nat) (hen : ∀ args w, (callFunc K args).run Tryz.prog w = .ok (.enter K args) w) (r Tb G : Nat) (e : Int) (sd : List Tok → PR) (ss : List ByteArray) (ns nc : Nat) (l : List Tok) (w : World)
    (hR : Rd w r Tb l e) (hn : ns = ss.length) (hn1 : ns ≤ 1000) (hG : StrIn w G ss) (hGr : G ≠ r) (hne : hasS ss ⟨([] : List UInt8).toArray⟩ = false)
    (hsd : ∀ (l' : List Tok) (w' : World), l'.length ≤ l.length → Rd w' r Tb l' e → Calls Tryz.prog K #[.pointer (some ⟨r, 0, none⟩)] w' fun x w'' => PPost w' r Tb e (sd l') x w'')
    (hsl : ∀ l' t q, l'.length ≤ l.length → sd l' = .ok (t, q) → q.length < l'.length) :
    Calls Tryz.prog 170 #[.pointer (some ⟨r, 0, none⟩), .func (.func K) #[.pointer (some ⟨r, 0, none⟩)] #[], .slice (some ⟨G, 0, none⟩) ns nc] w fun x w' => PPost w r Tb e (rowV sd ss e l) x w' := by
  have hr := hR.lt'
  have hTb := hR.lt
  have hb0 : Below w.heap.size w (w.alloc (.cells #[.int .i64 0, .string ⟨#[]⟩, .int .i64 0, .int .i64 0, .slice none 0 0] 24)) := (Below.refl _ w).alloc (Nat.le_refl _) _
  have hT := Lies.new w 24 #[.int .i64 0, .string ⟨#[]⟩, .int .i64 0, .int .i64 0, .slice none 0 0]
  have HP := Lib.hid (peek_any r Tb l e _ (hR.below hb0))
  have HR0 := Lib.hid (hR.below hb0)
  have HG0 := Lib.hid (hG.below hb0)
  have HSD := Lib.hid hsd
  have HSE := Lib.hid (fun l' w' (h : Rd w' r Tb l' e) (hg : StrIn w' G ss) => sees_any r Tb G ss ns nc l' e w' hn hn1 hg h)
  have HOL := Lib.hid (fun (at_ : Int) (t v : Tr) (l' q : List Tok) (hl : l'.length ≤ l.length) (h : opP sd at_ t l' = .ok (v, q)) => opP_len (fun l2 t2 q2 h2 => hsl l2 t2 q2 (by omega)) h)
  have HSL := Lib.hid hsl
  have hf3 := fld3
  obtain ⟨pk, hpk⟩ : ∃ pk, pk = peekV l e := ⟨_, rfl⟩
  rw [← hpk] at HP
  obtain ⟨res, hres⟩ : ∃ res, res = rowV sd ss e l := ⟨_, rfl⟩
  have hW := hres
  unfold rowV at hW
  rw [← hpk] at hW
  have HW := Lib.hid hW
  rw [← hres]
  clear hR hn hn1 hG hsd hsl hpk hres hW
  unfold Tok.val at HP
  go_enter Tryz.func170, Tryz.ntmps170
  go_wp2_with fail
  refine HP.out.mono ?_
  rintro x w1 ⟨rfl, hb1⟩
  have hb01 := hb0.trans (hb1.mono hb0.size)
  have hT1 := hT.below hb1 hT.lt
  have hR1 := HR0.out.below hb1
  have hG1 := HG0.out.below hb1
  have hs1 : w.heap.size + 1 ≤ w1.heap.size := by have h := hb1.size; simp at h; omega
  go_wp2_with fail
  refine (HSD.out l w1 (Nat.le_refl _) hR1).mono ?_
  rintro x w3 ⟨hm3, hg3, hbd3⟩
  have hm03 := (Moves.of_below hb01).trans hm3
  cases h3 : sd l with
  | error p =>
    obtain rfl := hbd3 p h3
    have hW2 : res = .error p := by rw [HW.out, h3]
    have H2 := Lib.hid hW2
    clear hg3 hbd3 h3 hW2
    go_wp2_with fail
    refine ⟨rfl, ?_⟩
    exact ⟨hm03, fun t q h => (by rw [H2.out] at h; cases h), fun p' h => by rw [H2.out] at h; cases h; rfl⟩
  | ok tq =>
    obtain ⟨t, q⟩ := tq
    obtain ⟨A, c, rfl, hTt, hR3⟩ := hg3 t q h3
    have hql := HSL.out l t q (Nat.le_refl _) h3
    have hW2 : res = rowLoop sd ss e pk.place (q.length + 1) t q := by rw [HW.out, h3]
    have H2 := Lib.hid hW2
    clear hg3 hbd3 h3 hW2 HW
    have hT3 := hm3.lies hT1 (by omega)
    have hG3 := hG1.moves hm3 hGr
    have hs3 := hm3.size
    have hTt' := TIn.wide (Y := fun g => w.heap.size + 1 ≤ g) _ hTt fun g hg _ => Nat.le_trans hs1 hg
    have hbw3 := (Below.refl _ w3).alloc (Nat.le_refl _) (.cells #[.int .i64 t.kind, .string t.name, .int .i64 t.n, .int .i64 t.place, .slice A t.parts.length (capF t.parts.length c)] 24)
    have hs03 : w.heap.size + 1 ≤ w3.heap.size := by omega
    have HST := Lib.hid (show Moves r w (w3.alloc (.cells #[.int .i64 t.kind, .string t.name, .int .i64 t.n, .int .i64 t.place, .slice A t.parts.length (capF t.parts.length c)] 24)) ∧ Lies (w3.alloc (.cells #[.int .i64 t.kind, .string t.name, .int .i64 t.n, .int .i64 t.place, .slice A t.parts.length (capF t.parts.length c)] 24)) w.heap.size 24 #[.int .i64 0, .string ⟨#[]⟩, .int .i64 0, .int .i64 0, .slice none 0 0] ∧ Lies (w3.alloc (.cells #[.int .i64 t.kind, .string t.name, .int .i64 t.n, .int .i64 t.place, .slice A t.parts.length (capF t.parts.length c)] 24)) w3.heap.size 24 #[.int .i64 t.kind, .string t.name, .int .i64 t.n, .int .i64 t.place, .slice A t.parts.length (capF t.parts.length c)] ∧
        TIn (w3.alloc (.cells #[.int .i64 t.kind, .string t.name, .int .i64 t.n, .int .i64 t.place, .slice A t.parts.length (capF t.parts.length c)] 24)) (fun g => w.heap.size + 1 ≤ g ∧ g ≠ w3.heap.size) t A ∧ Rd (w3.alloc (.cells #[.int .i64 t.kind, .string t.name, .int .i64 t.n, .int .i64 t.place, .slice A t.parts.length (capF t.parts.length c)] 24)) r Tb q e ∧ StrIn (w3.alloc (.cells #[.int .i64 t.kind, .string t.name, .int .i64 t.n, .int .i64 t.place, .slice A t.parts.length (capF t.parts.length c)] 24)) G ss from
      ⟨hm03.alloc _, hT3.below hbw3 hT3.lt, Lies.new w3 _ _, TIn.below _ (TIn.wide _ hTt' fun g hg hlt => ⟨hg, by omega⟩) hbw3 (Nat.le_refl _), hR3.below hbw3, hG3.below hbw3⟩)
    have hGl : G < w3.heap.size ∨ ss = [] := by
      cases ss with
      | nil => exact .inr rfl
      | cons a b => exact .inl (cell_lt (hG3 0 (by simp)))
    clear hT3 hTt hTt' hbw3 hR3 hm03 hm3 hT1 hb01 hR1 hb0 hT HR0 HP hs1 hG1 hG3 HG0 hb1
    obtain ⟨at_, hat⟩ : ∃ a, a = pk.place := ⟨_, rfl⟩
    rw [← hat] at H2 ⊢
    clear hat
    unfold tv
    go_wp2_with fail
    go_loopw [] (fun wr => ∃ (n : Nat) (u : Tr) (q' : List Tok) (B : Option Addr) (d : Nat), Moves r w wr ∧ Lies wr w.heap.size 24 #[.int .i64 0, .string ⟨#[]⟩, .int .i64 0, .int .i64 0, .slice none 0 0] ∧ Lies wr w3.heap.size 24 #[.int .i64 u.kind, .string u.name, .int .i64 u.n, .int .i64 u.place, .slice B u.parts.length (capF u.parts.length d)] ∧
        TIn wr (fun g => w.heap.size + 1 ≤ g ∧ g ≠ w3.heap.size) u B ∧ Rd wr r Tb q' e ∧ StrIn wr G ss ∧ q'.length < l.length ∧ q'.length < n ∧ Hid (res = rowLoop sd ss e at_ n u q')) (fun wr => restLen r wr)
    case atStart => exact ⟨q.length + 1, t, q, A, c, HST.out.1, HST.out.2.1, HST.out.2.2.1, HST.out.2.2.2.1, HST.out.2.2.2.2.1, HST.out.2.2.2.2.2, hql, by omega, H2⟩
    case round =>
      obtain ⟨n, u, q', B, d, hm, hT, hB, hTu, hR, hG, hq', hn, HE⟩ := hrel
      obtain ⟨n, rfl⟩ : ∃ m, n = m + 1 := ⟨n - 1, by omega⟩
      have HSA := Lib.hid (HSE.out q' wr hR hG)
      have hRest := hR.rest
      have HR := Lib.hid hR
      have HTI := Lib.hid hTu
      have HG := Lib.hid hG
      have hE := HE.out
      unfold rowLoop at hE
      clear HE hR hTu hG
      cases ha : hasS ss ⟨(peekV q' e).text.toArray⟩ with
      | true =>
        rw [ha] at HSA hE
        rw [if_pos rfl] at hE
        obtain ⟨sg, q2, rfl⟩ : ∃ a b, q' = a :: b := by
          cases q' with
          | nil => rw [show (peekV [] e).text = [] from rfl, hne] at ha; cases ha
          | cons a b => exact ⟨a, b, rfl⟩
        have HE := Lib.hid hE
        clear hE ha
        go_wp2_with fail
        refine HSA.out.mono ?_
        rintro x wa ⟨rfl, hba⟩
        have hma := hm.trans (Moves.of_below hba)
        have hTa := hT.below hba hT.lt
        have hBa := hB.below hba hB.lt
        have hRa := HR.out.below hba
        have hGa := HG.out.below hba
        have hTua := TIn.below _ HTI.out hba (Nat.le_refl _)
        have hla := hBa.lt
        have HOP := Lib.hid (op_any K hen r Tb e at_ sd u B d sg q2 _ wa hRa hTua (by omega) (fun w' h => HSD.out q2 w' (by simp at hq'; omega) h))
        obtain ⟨⟨y0, y1, y2, y3, y4⟩, _⟩ := hBa.five
        clear hB hT HR HTI hm hba HSA HG
        unfold tv at HOP
        go_wp2_with fail
        refine HOP.out.mono ?_
        rintro x w5 ⟨hm5, hg5, hbd5⟩
        have hm05 := hma.trans hm5
        cases h5 : opP sd at_ u (sg :: q2) with
        | error p =>
          obtain rfl := hbd5 p h5
          have hW2 : res = .error p := by rw [HE.out, h5]
          have H5 := Lib.hid hW2
          clear hg5 hbd5 h5 hW2
          go_wp2_with fail
          refine ⟨rfl, ?_⟩
          exact ⟨hm05, fun t q h => (by rw [H5.out] at h; cases h), fun p' h => by rw [H5.out] at h; cases h; rfl⟩
        | ok tq =>
          obtain ⟨u5, q5⟩ := tq
          obtain ⟨A5, c5, rfl, hTt5, hR5⟩ := hg5 u5 q5 h5
          have hq5 := HOL.out at_ u u5 (sg :: q2) q5 (by omega) h5
          have hW2 : res = rowLoop sd ss e at_ n u5 q5 := by rw [HE.out, h5]
          have H5 := Lib.hid hW2
          clear hg5 hbd5 h5 hW2
          have hs5 := hm5.size
          have hsa := hma.size
          have hB5 := hm5.lies hBa (by omega)
          have hT5 := hm5.lies hTa (by omega)
          have hY5 : TIn w5 (fun g => w.heap.size + 1 ≤ g ∧ g ≠ w3.heap.size) u5 A5 := TIn.wide _ hTt5 fun g hg _ => by
            rcases hg with h | h
            · exact h.1
            · exact ⟨by omega, by omega⟩
          have hP := put5 hm05 hR5 (by omega) hr hTb (.int .i64 u5.kind) (.string u5.name) (.int .i64 u5.n) (.int .i64 u5.place) (.slice A5 u5.parts.length (capF u5.parts.length c5)) hY5 (G := w3.heap.size) (fun h => h.2 rfl)
          have HP5 := Lib.hid hP
          have HL5 := Lib.hid (hB5.all5 (.int .i64 u5.kind) (.string u5.name) (.int .i64 u5.n) (.int .i64 u5.place) (.slice A5 u5.parts.length (capF u5.parts.length c5)))
          have HT5 := Lib.hid (((((hT5.far (p := ⟨w3.heap.size, 0, none⟩) (by show w.heap.size ≠ w3.heap.size; omega) (.int .i64 u5.kind)).far (p := ⟨w3.heap.size, 1, none⟩) (by show w.heap.size ≠ w3.heap.size; omega) (.string u5.name)).far (p := ⟨w3.heap.size, 2, none⟩) (by show w.heap.size ≠ w3.heap.size; omega) (.int .i64 u5.n)).far (p := ⟨w3.heap.size, 3, none⟩) (by show w.heap.size ≠ w3.heap.size; omega) (.int .i64 u5.place)).far (p := ⟨w3.heap.size, 4, none⟩) (by show w.heap.size ≠ w3.heap.size; omega) (.slice A5 u5.parts.length (capF u5.parts.length c5)))
          have hG5 := hGa.moves hm5 hGr
          have HG5 := Lib.hid (show StrIn (((((w5.setCell ⟨w3.heap.size, 0, none⟩ (.int .i64 u5.kind)).setCell ⟨w3.heap.size, 1, none⟩ (.string u5.name)).setCell ⟨w3.heap.size, 2, none⟩ (.int .i64 u5.n)).setCell ⟨w3.heap.size, 3, none⟩ (.int .i64 u5.place)).setCell ⟨w3.heap.size, 4, none⟩ (.slice A5 u5.parts.length (capF u5.parts.length c5))) G ss from fun i hi => by
            have hlt : G < w3.heap.size := by
              rcases hGl with h | h
              · exact h
              · rw [h] at hi; cases hi
            have hne : ∀ j, (⟨w3.heap.size, j, none⟩ : Addr) ≠ ⟨G, i, none⟩ := fun j e => by injection e with e; omega
            rw [World.cell?_setCell_other _ _ _ _ (hne _), World.cell?_setCell_other _ _ _ _ (hne _), World.cell?_setCell_other _ _ _ _ (hne _), World.cell?_setCell_other _ _ _ _ (hne _), World.cell?_setCell_other _ _ _ _ (hne _)]
            exact hG5 i hi)
          obtain ⟨⟨z0, z1, z2, z3, z4⟩, g0, g1, g2, g3, g4⟩ := hB5.five
          clear hB5 hT5 hY5 hP hR5 hTt5 hBa hTa hTua hG5 hGa y0 y1 y2 y3 y4
          go_wp2_with fail
          go_roundw
          case rel => exact ⟨n, u5, q5, A5, c5, HP5.out.1, HT5.out, HL5.out, HP5.out.2.2, HP5.out.2.1, HG5.out, by omega, by omega, H5⟩
          case measure => rw [HP5.out.2.1.rest, hRest]; exact hq5
      | false =>
        rw [ha] at HSA hE
        rw [if_neg (by simp)] at hE
        have HE := Lib.hid hE
        clear hE ha
        go_wp2_with fail
        refine HSA.out.mono ?_
        rintro x wa ⟨rfl, hba⟩
        have hma := hm.trans (Moves.of_below hba)
        have hTa := hT.below hba hT.lt
        have hBa := hB.below hba hB.lt
        have hRa := HR.out.below hba
        have hTua := TIn.below _ HTI.out hba (Nat.le_refl _)
        have hP := put5 hma hRa (Nat.le_refl _) hr hTb (.int .i64 u.kind) (.string u.name) (.int .i64 u.n) (.int .i64 u.place) (.slice B u.parts.length (capF u.parts.length d)) hTua (by omega)
        have HP5 := Lib.hid hP
        have HL := Lib.hid (hTa.all5 (.int .i64 u.kind) (.string u.name) (.int .i64 u.n) (.int .i64 u.place) (.slice B u.parts.length (capF u.parts.length d)))
        obtain ⟨⟨z0, z1, z2, z3, z4⟩, f0, f1, f2, f3, f4⟩ := hTa.five
        obtain ⟨⟨y0, y1, y2, y3, y4⟩, _⟩ := hBa.five
        clear hT hB hTa hBa hTua hP
        go_wp2_with fail
        refine bodyPost_ret (res_tree (p := 6) Tryz.results170 rfl HL.out) rfl ?_
        obtain ⟨q1, q2, q3⟩ := HP5.out
        refine ⟨q1, fun t' q'' h => ?_, fun p h => (by rw [HE.out] at h; cases h)⟩
        rw [HE.out] at h
        simp only [Except.ok.injEq, Prod.mk.injEq] at h
        obtain ⟨rfl, rfl⟩ := h
        exact ⟨B, d, rfl, TIn.wide _ q3 fun g hg _ => Nat.le_of_succ_le hg.1, q2⟩
end Lx
end Go.Proofs.YteabbkhlgnoliaaGreatDoor
namespace Go.Proofs.YteabbkhlgnoliaaGreatDoor
open Go.RowKit
namespace Lx
set_option maxRecDepth 100000
theorem bytes1 (a : UInt8) : (⟨#[a]⟩ : ByteArray).toList = [a] := ByteArray.toList_mk [a]
theorem StrIn.two {w : World} {G : Nat} {t : TypeId} {a b : ByteArray} (h : Lies w G t #[.string a, .string b]) : StrIn w G [a, b] := fun i hi => by
  match i, hi with
  | 0, _ => exact h.cell 0
  | 1, _ => exact h.cell 1
set_option maxHeartbeats 4000000 in
theorem prod_any (r Tb : Nat) (e : Int) (sd : List Tok → PR) (l : List Tok) (w : World) (hR : Rd w r Tb l e)
    (hsd : ∀ (l' : List Tok) (w' : World), l'.length ≤ l.length → Rd w' r Tb l' e → Calls Tryz.prog 181 #[.pointer (some ⟨r, 0, none⟩)] w' fun x w'' => PPost w' r Tb e (sd l') x w'')
    (hsl : ∀ l' t q, l'.length ≤ l.length → sd l' = .ok (t, q) → q.length < l'.length) :
    Calls Tryz.prog 171 #[.pointer (some ⟨r, 0, none⟩)] w fun x w' => PPost w r Tb e (rowV sd [⟨#[42]⟩, ⟨#[47]⟩] e l) x w' := by
  have hr := hR.lt'
  have hTb := hR.lt
  have hb0 : Below w.heap.size w ((w.alloc (.cells #[.int .i64 0, .string ⟨#[]⟩, .int .i64 0, .int .i64 0, .slice none 0 0] 24)).alloc (.cells #[.string ⟨#[42]⟩, .string ⟨#[47]⟩] 9)) := ((Below.refl _ w).alloc (Nat.le_refl _) _).alloc (by simp) _
  have hT : Lies ((w.alloc (.cells #[.int .i64 0, .string ⟨#[]⟩, .int .i64 0, .int .i64 0, .slice none 0 0] 24)).alloc (.cells #[.string ⟨#[42]⟩, .string ⟨#[47]⟩] 9)) w.heap.size 24 #[.int .i64 0, .string ⟨#[]⟩, .int .i64 0, .int .i64 0, .slice none 0 0] := (Lies.new w _ _).old _
  have HROW := Lib.hid (row_any 181 (fun _ _ => by kernel_rfl) r Tb (w.heap.size + 1) e sd [⟨#[42]⟩, ⟨#[47]⟩] 2 2 l _ (hR.below hb0) rfl (by omega) (StrIn.two (lies_new1 w _ 9 #[.string ⟨#[42]⟩, .string ⟨#[47]⟩])) (by omega) (by simp [hasS]) hsd hsl)
  clear hR hsd hsl
  obtain ⟨res, hres⟩ : ∃ res, res = rowV sd [⟨#[42]⟩, ⟨#[47]⟩] e l := ⟨_, rfl⟩
  rw [← hres] at HROW ⊢
  clear hres
  have hmf : ∀ (fn : Fn) (first cap : Array Value) (w : World), (Instr.makeFunc fn first cap).run Tryz.prog w = .ok (.func fn first cap) w := fun _ _ _ _ => rfl
  go_enter Tryz.func171, Tryz.ntmps171
  go_wp2_with fail
  refine HROW.out.mono ?_
  rintro x w2 ⟨hm2, hg2, hbd2⟩
  have hm02 := (Moves.of_below hb0).trans hm2
  cases h2 : res with
  | error p =>
    obtain rfl := hbd2 p h2
    have H2 := Lib.hid h2
    clear hg2 hbd2 h2
    go_wp2_with fail
    refine ⟨rfl, ?_⟩
    exact ⟨hm02, fun t q h => (by rw [H2.out] at h; cases h), fun p' h => by rw [H2.out] at h; cases h; rfl⟩
  | ok tq =>
    obtain ⟨t, l2⟩ := tq
    obtain ⟨A, c, rfl, hTt, hR2⟩ := hg2 t l2 h2
    have H2 := Lib.hid h2
    clear hg2 hbd2 h2
    have hT2 := hm2.lies hT (by omega)
    have hs1 : ((w.alloc (.cells #[.int .i64 0, .string ⟨#[]⟩, .int .i64 0, .int .i64 0, .slice none 0 0] 24)).alloc (.cells #[.string ⟨#[42]⟩, .string ⟨#[47]⟩] 9)).heap.size = w.heap.size + 1 + 1 := by simp
    have hTt' : TIn w2 (fun g => w.heap.size + 1 ≤ g) t A := TIn.wide _ hTt fun g hg _ => (by have h9 : ((w.alloc (.cells #[.int .i64 0, .string ⟨#[]⟩, .int .i64 0, .int .i64 0, .slice none 0 0] 24)).alloc (.cells #[.string ⟨#[42]⟩, .string ⟨#[47]⟩] 9)).heap.size ≤ g := hg; omega)
    have hP := put5 hm02 hR2 (Nat.le_refl _) hr hTb (.int .i64 t.kind) (.string t.name) (.int .i64 t.n) (.int .i64 t.place) (.slice A t.parts.length (capF t.parts.length c)) hTt' (by omega)
    have HP5 := Lib.hid hP
    have HL := Lib.hid (hT2.all5 (.int .i64 t.kind) (.string t.name) (.int .i64 t.n) (.int .i64 t.place) (.slice A t.parts.length (capF t.parts.length c)))
    obtain ⟨⟨z0, z1, z2, z3, z4⟩, f0, f1, f2, f3, f4⟩ := hT2.five
    clear hT2 hTt hTt' hP hs1
    unfold tv
    go_wp2_with fail
    refine bodyPost_ret (res_tree (p := 2) Tryz.results171 rfl HL.out) rfl ?_
    obtain ⟨q1, q2, q3⟩ := HP5.out
    refine ⟨q1, fun t' q' h => ?_, fun p h => (by rw [H2.out] at h; cases h)⟩
    rw [H2.out] at h
    simp only [Except.ok.injEq, Prod.mk.injEq] at h
    obtain ⟨rfl, rfl⟩ := h
    exact ⟨A, c, rfl, TIn.wide _ q3 fun g hg _ => Nat.le_of_succ_le hg, q2⟩
set_option maxHeartbeats 4000000 in
theorem sum_any (r Tb : Nat) (e : Int) (sd : List Tok → PR) (l : List Tok) (w : World) (hR : Rd w r Tb l e)
    (hsd : ∀ (l' : List Tok) (w' : World), l'.length ≤ l.length → Rd w' r Tb l' e → Calls Tryz.prog 171 #[.pointer (some ⟨r, 0, none⟩)] w' fun x w'' => PPost w' r Tb e (sd l') x w'')
    (hsl : ∀ l' t q, l'.length ≤ l.length → sd l' = .ok (t, q) → q.length < l'.length) :
    Calls Tryz.prog 147 #[.pointer (some ⟨r, 0, none⟩)] w fun x w' => PPost w r Tb e (rowV sd [⟨#[43]⟩, ⟨#[45]⟩] e l) x w' := by
  have hr := hR.lt'
  have hTb := hR.lt
  have hb0 : Below w.heap.size w ((w.alloc (.cells #[.int .i64 0, .string ⟨#[]⟩, .int .i64 0, .int .i64 0, .slice none 0 0] 24)).alloc (.cells #[.string ⟨#[43]⟩, .string ⟨#[45]⟩] 9)) := ((Below.refl _ w).alloc (Nat.le_refl _) _).alloc (by simp) _
  have hT : Lies ((w.alloc (.cells #[.int .i64 0, .string ⟨#[]⟩, .int .i64 0, .int .i64 0, .slice none 0 0] 24)).alloc (.cells #[.string ⟨#[43]⟩, .string ⟨#[45]⟩] 9)) w.heap.size 24 #[.int .i64 0, .string ⟨#[]⟩, .int .i64 0, .int .i64 0, .slice none 0 0] := (Lies.new w _ _).old _
  have HROW := Lib.hid (row_any 171 (fun _ _ => by kernel_rfl) r Tb (w.heap.size + 1) e sd [⟨#[43]⟩, ⟨#[45]⟩] 2 2 l _ (hR.below hb0) rfl (by omega) (StrIn.two (lies_new1 w _ 9 #[.string ⟨#[43]⟩, .string ⟨#[45]⟩])) (by omega) (by simp [hasS]) hsd hsl)
  clear hR hsd hsl
  obtain ⟨res, hres⟩ : ∃ res, res = rowV sd [⟨#[43]⟩, ⟨#[45]⟩] e l := ⟨_, rfl⟩
  rw [← hres] at HROW ⊢
  clear hres
  have hmf : ∀ (fn : Fn) (first cap : Array Value) (w : World), (Instr.makeFunc fn first cap).run Tryz.prog w = .ok (.func fn first cap) w := fun _ _ _ _ => rfl
  go_enter Tryz.func147, Tryz.ntmps147
  go_wp2_with fail
  refine HROW.out.mono ?_
  rintro x w2 ⟨hm2, hg2, hbd2⟩
  have hm02 := (Moves.of_below hb0).trans hm2
  cases h2 : res with
  | error p =>
    obtain rfl := hbd2 p h2
    have H2 := Lib.hid h2
    clear hg2 hbd2 h2
    go_wp2_with fail
    refine ⟨rfl, ?_⟩
    exact ⟨hm02, fun t q h => (by rw [H2.out] at h; cases h), fun p' h => by rw [H2.out] at h; cases h; rfl⟩
  | ok tq =>
    obtain ⟨t, l2⟩ := tq
    obtain ⟨A, c, rfl, hTt, hR2⟩ := hg2 t l2 h2
    have H2 := Lib.hid h2
    clear hg2 hbd2 h2
    have hT2 := hm2.lies hT (by omega)
    have hs1 : ((w.alloc (.cells #[.int .i64 0, .string ⟨#[]⟩, .int .i64 0, .int .i64 0, .slice none 0 0] 24)).alloc (.cells #[.string ⟨#[43]⟩, .string ⟨#[45]⟩] 9)).heap.size = w.heap.size + 1 + 1 := by simp
    have hTt' : TIn w2 (fun g => w.heap.size + 1 ≤ g) t A := TIn.wide _ hTt fun g hg _ => (by have h9 : ((w.alloc (.cells #[.int .i64 0, .string ⟨#[]⟩, .int .i64 0, .int .i64 0, .slice none 0 0] 24)).alloc (.cells #[.string ⟨#[43]⟩, .string ⟨#[45]⟩] 9)).heap.size ≤ g := hg; omega)
    have hP := put5 hm02 hR2 (Nat.le_refl _) hr hTb (.int .i64 t.kind) (.string t.name) (.int .i64 t.n) (.int .i64 t.place) (.slice A t.parts.length (capF t.parts.length c)) hTt' (by omega)
    have HP5 := Lib.hid hP
    have HL := Lib.hid (hT2.all5 (.int .i64 t.kind) (.string t.name) (.int .i64 t.n) (.int .i64 t.place) (.slice A t.parts.length (capF t.parts.length c)))
    obtain ⟨⟨z0, z1, z2, z3, z4⟩, f0, f1, f2, f3, f4⟩ := hT2.five
    clear hT2 hTt hTt' hP hs1
    unfold tv
    go_wp2_with fail
    refine bodyPost_ret (res_tree (p := 2) Tryz.results147 rfl HL.out) rfl ?_
    obtain ⟨q1, q2, q3⟩ := HP5.out
    refine ⟨q1, fun t' q' h => ?_, fun p h => (by rw [H2.out] at h; cases h)⟩
    rw [H2.out] at h
    simp only [Except.ok.injEq, Prod.mk.injEq] at h
    obtain ⟨rfl, rfl⟩ := h
    exact ⟨A, c, rfl, TIn.wide _ q3 fun g hg _ => Nat.le_of_succ_le hg, q2⟩
end Lx
end Go.Proofs.YteabbkhlgnoliaaGreatDoor
namespace Go.Proofs.YteabbkhlgnoliaaGreatDoor
open Go.RowKit
namespace Lx
set_option maxRecDepth 100000
theorem bytes2 (a b : UInt8) : (⟨#[a, b]⟩ : ByteArray).toList = [a, b] := ByteArray.toList_mk [a, b]
def cmpV (sd : List Tok → PR) (e : Int) (l : List Tok) : PR :=
  match sd l with
  | .error p => .error p
  | .ok (t, q) => if hasS [⟨#[60]⟩, ⟨#[61, 61]⟩] ⟨(peekV q e).text.toArray⟩ = true then opP sd (peekV l e).place t q else .ok (t, q)
set_option maxHeartbeats 8000000 in
theorem cmp_any (r Tb : Nat) (e : Int) (sd : List Tok → PR) (l : List Tok) (w : World) (hR : Rd w r Tb l e)
    (hsd : ∀ (l' : List Tok) (w' : World), l'.length ≤ l.length → Rd w' r Tb l' e → Calls Tryz.prog 147 #[.pointer (some ⟨r, 0, none⟩)] w' fun x w'' => PPost w' r Tb e (sd l') x w'')
    (hsl : ∀ l' t q, l'.length ≤ l.length → sd l' = .ok (t, q) → q.length < l'.length) :
    Calls Tryz.prog 106 #[.pointer (some ⟨r, 0, none⟩)] w fun x w' => PPost w r Tb e (cmpV sd e l) x w' := by
  have hr := hR.lt'
  have hTb := hR.lt
  have hb0 : Below w.heap.size w (w.alloc (.cells #[.int .i64 0, .string ⟨#[]⟩, .int .i64 0, .int .i64 0, .slice none 0 0] 24)) := (Below.refl _ w).alloc (Nat.le_refl _) _
  have hT := Lies.new w 24 #[.int .i64 0, .string ⟨#[]⟩, .int .i64 0, .int .i64 0, .slice none 0 0]
  have HP := Lib.hid (peek_any r Tb l e _ (hR.below hb0))
  have HR0 := Lib.hid (hR.below hb0)
  have HSD := Lib.hid hsd
  have hmf : ∀ (fn : Fn) (first cap : Array Value) (w : World), (Instr.makeFunc fn first cap).run Tryz.prog w = .ok (.func fn first cap) w := fun _ _ _ _ => rfl
  have HSL := Lib.hid hsl
  have hf3 := fld3
  obtain ⟨pk, hpk⟩ : ∃ pk, pk = peekV l e := ⟨_, rfl⟩
  rw [← hpk] at HP
  obtain ⟨res, hres⟩ : ∃ res, res = cmpV sd e l := ⟨_, rfl⟩
  have hW := hres
  unfold cmpV at hW
  rw [← hpk] at hW
  have HW := Lib.hid hW
  rw [← hres]
  clear hR hsd hsl hpk hres hW
  unfold Tok.val at HP
  go_enter Tryz.func106, Tryz.ntmps106
  go_wp2_with fail
  refine HP.out.mono ?_
  rintro x w1 ⟨rfl, hb1⟩
  have hb01 := hb0.trans (hb1.mono hb0.size)
  have hT1 := hT.below hb1 hT.lt
  have hR1 := HR0.out.below hb1
  have hs1 : w.heap.size + 1 ≤ w1.heap.size := by have h := hb1.size; simp at h; omega
  go_wp2_with fail
  refine (HSD.out l w1 (Nat.le_refl _) hR1).mono ?_
  rintro x w3 ⟨hm3, hg3, hbd3⟩
  have hm03 := (Moves.of_below hb01).trans hm3
  cases h3 : sd l with
  | error p =>
    obtain rfl := hbd3 p h3
    have hW2 : res = .error p := by rw [HW.out, h3]
    have H2 := Lib.hid hW2
    clear hg3 hbd3 h3 hW2
    go_wp2_with fail
    refine ⟨rfl, ?_⟩
    exact ⟨hm03, fun t q h => (by rw [H2.out] at h; cases h), fun p' h => by rw [H2.out] at h; cases h; rfl⟩
  | ok tq =>
    obtain ⟨t, q⟩ := tq
    obtain ⟨A, c, rfl, hTt, hR3⟩ := hg3 t q h3
    have hql := HSL.out l t q (Nat.le_refl _) h3
    have hW2 : res = (if hasS [⟨#[60]⟩, ⟨#[61, 61]⟩] ⟨(peekV q e).text.toArray⟩ = true then opP sd pk.place t q else .ok (t, q)) := by rw [HW.out, h3]
    have hT3 := hm3.lies hT1 (by omega)
    have hs3 := hm3.size
    have hTt' := TIn.wide (Y := fun g => w.heap.size + 1 ≤ g ∧ g ≠ w3.heap.size) _ hTt fun g hg hlt => ⟨Nat.le_trans hs1 hg, by omega⟩
    have hb4 : Below w3.heap.size w3 ((w3.alloc (.cells #[.int .i64 t.kind, .string t.name, .int .i64 t.n, .int .i64 t.place, .slice A t.parts.length (capF t.parts.length c)] 24)).alloc (.cells #[.string ⟨#[60]⟩, .string ⟨#[61, 61]⟩] 9)) := ((Below.refl _ w3).alloc (Nat.le_refl _) _).alloc (by simp) _
    have hs03 : w.heap.size + 1 ≤ w3.heap.size := by omega
    have hB4 : Lies ((w3.alloc (.cells #[.int .i64 t.kind, .string t.name, .int .i64 t.n, .int .i64 t.place, .slice A t.parts.length (capF t.parts.length c)] 24)).alloc (.cells #[.string ⟨#[60]⟩, .string ⟨#[61, 61]⟩] 9)) w3.heap.size 24 #[.int .i64 t.kind, .string t.name, .int .i64 t.n, .int .i64 t.place, .slice A t.parts.length (capF t.parts.length c)] := (Lies.new w3 _ _).old _
    have hT4 := hT3.below hb4 hT3.lt
    have hR4 := hR3.below hb4
    have hX4 := TIn.below _ hTt' hb4 (Nat.le_refl _)
    have hm4 := hm03.trans (Moves.of_below hb4)
    have HSE := Lib.hid (sees_any r Tb (w3.heap.size + 1) [⟨#[60]⟩, ⟨#[61, 61]⟩] 2 2 q e _ rfl (by omega) (StrIn.two (lies_new1 w3 _ 9 #[.string ⟨#[60]⟩, .string ⟨#[61, 61]⟩])) hR4)
    clear hg3 hbd3 h3 HW hTt hTt' hR3 hT3 hm3 hT1 hb01 hR1 hb0 hT HR0 HP hs1 hb1
    obtain ⟨at_, hat⟩ : ∃ a, a = pk.place := ⟨_, rfl⟩
    rw [← hat] at hW2 ⊢
    clear hat
    cases ha : hasS [⟨#[60]⟩, ⟨#[61, 61]⟩] ⟨(peekV q e).text.toArray⟩ with
    | true =>
      rw [ha] at HSE hW2
      rw [if_pos rfl] at hW2
      obtain ⟨sg, q2, rfl⟩ : ∃ a b, q = a :: b := by
        cases q with
        | nil => simp [peekV, hasS] at ha
        | cons a b => exact ⟨a, b, rfl⟩
      have HE := Lib.hid hW2
      clear hW2 ha
      unfold tv
      go_wp2_with fail
      refine HSE.out.mono ?_
      rintro x wa ⟨rfl, hba⟩
      have hma := hm4.trans (Moves.of_below hba)
      have hTa := hT4.below hba hT4.lt
      have hBa := hB4.below hba hB4.lt
      have hRa := hR4.below hba
      have hXa := TIn.below _ hX4 hba (Nat.le_refl _)
      have hla := hBa.lt
      have HOP := Lib.hid (op_any 147 (fun _ _ => by kernel_rfl) r Tb e at_ sd t A c sg q2 _ wa hRa hXa (by omega) (fun w' h => HSD.out q2 w' (by simp at hql; omega) h))
      obtain ⟨⟨y0, y1, y2, y3, y4⟩, _⟩ := hBa.five
      clear hB4 hT4 hR4 hX4 hm4 hba HSE
      unfold tv at HOP
      go_wp2_with fail
      refine HOP.out.mono ?_
      rintro x w5 ⟨hm5, hg5, hbd5⟩
      have hm05 := hma.trans hm5
      cases h5 : opP sd at_ t (sg :: q2) with
      | error p =>
        obtain rfl := hbd5 p h5
        have hW2 : res = .error p := by rw [HE.out, h5]
        have H5 := Lib.hid hW2
        clear hg5 hbd5 h5 hW2
        go_wp2_with fail
        refine ⟨rfl, ?_⟩
        exact ⟨hm05, fun t q h => (by rw [H5.out] at h; cases h), fun p' h => by rw [H5.out] at h; cases h; rfl⟩
      | ok tq =>
        obtain ⟨u5, q5⟩ := tq
        obtain ⟨A5, c5, rfl, hTt5, hR5⟩ := hg5 u5 q5 h5
        have hW2 : res = .ok (u5, q5) := by rw [HE.out, h5]
        have H5 := Lib.hid hW2
        clear hg5 hbd5 h5 hW2
        have hs5 := hm5.size
        have hB5 := hm5.lies hBa (by omega)
        have hT5 := hm5.lies hTa (by omega)
        have hY5 : TIn w5 (fun g => w.heap.size + 1 ≤ g ∧ g ≠ w3.heap.size) u5 A5 := TIn.wide _ hTt5 fun g hg _ => by
          rcases hg with h | h
          · exact h.1
          · exact ⟨by omega, by omega⟩
        have hP := put5 hm05 hR5 (by omega) hr hTb (.int .i64 u5.kind) (.string u5.name) (.int .i64 u5.n) (.int .i64 u5.place) (.slice A5 u5.parts.length (capF u5.parts.length c5)) hY5 (G := w3.heap.size) (fun h => h.2 rfl)
        have hL5 := hB5.all5 (.int .i64 u5.kind) (.string u5.name) (.int .i64 u5.n) (.int .i64 u5.place) (.slice A5 u5.parts.length (capF u5.parts.length c5))
        have hT5' := ((((hT5.far (p := ⟨w3.heap.size, 0, none⟩) (by show w.heap.size ≠ w3.heap.size; omega) (.int .i64 u5.kind)).far (p := ⟨w3.heap.size, 1, none⟩) (by show w.heap.size ≠ w3.heap.size; omega) (.string u5.name)).far (p := ⟨w3.heap.size, 2, none⟩) (by show w.heap.size ≠ w3.heap.size; omega) (.int .i64 u5.n)).far (p := ⟨w3.heap.size, 3, none⟩) (by show w.heap.size ≠ w3.heap.size; omega) (.int .i64 u5.place)).far (p := ⟨w3.heap.size, 4, none⟩) (by show w.heap.size ≠ w3.heap.size; omega) (.slice A5 u5.parts.length (capF u5.parts.length c5))
        have H6 := Lib.hid (And.intro hP (And.intro hL5 hT5'))
        obtain ⟨⟨z0, z1, z2, z3, z4⟩, g0, g1, g2, g3, g4⟩ := hB5.five
        clear hB5 hT5 hY5 hP hR5 hTt5 hBa hTa hXa y0 y1 y2 y3 y4 hL5 hT5' hla
        go_upto_region 5 with fail
        obtain ⟨W6, hW6⟩ : ∃ W6, W6 = (((((w5.setCell ⟨w3.heap.size, 0, none⟩ (.int .i64 u5.kind)).setCell ⟨w3.heap.size, 1, none⟩ (.string u5.name)).setCell ⟨w3.heap.size, 2, none⟩ (.int .i64 u5.n)).setCell ⟨w3.heap.size, 3, none⟩ (.int .i64 u5.place)).setCell ⟨w3.heap.size, 4, none⟩ (.slice A5 u5.parts.length (capF u5.parts.length c5))) := ⟨_, rfl⟩
        rw [← hW6] at H6 ⊢
        clear hW6 z0 z1 z2 z3 z4 g0 g1 g2 g3 g4
        obtain ⟨⟨hm6, hR6, hX6⟩, hB6, hT6⟩ := H6.out
        have hP := put5 hm6 hR6 (Nat.le_refl _) hr hTb (.int .i64 u5.kind) (.string u5.name) (.int .i64 u5.n) (.int .i64 u5.place) (.slice A5 u5.parts.length (capF u5.parts.length c5)) hX6 (G := w.heap.size) (fun h => by have := h.1; omega)
        have HP5 := Lib.hid hP
        have HL := Lib.hid (hT6.all5 (.int .i64 u5.kind) (.string u5.name) (.int .i64 u5.n) (.int .i64 u5.place) (.slice A5 u5.parts.length (capF u5.parts.length c5)))
        obtain ⟨⟨z0, z1, z2, z3, z4⟩, f0, f1, f2, f3, f4⟩ := hT6.five
        obtain ⟨⟨y0, y1, y2, y3, y4⟩, _⟩ := hB6.five
        clear hB6 hT6 hX6 hR6 hm6 hP H6
        go_wp2_with fail
        refine bodyPost_ret (res_tree (p := 2) Tryz.results106 rfl HL.out) rfl ?_
        obtain ⟨q1, q2', q3⟩ := HP5.out
        refine ⟨q1, fun t' q'' h => ?_, fun p h => (by rw [H5.out] at h; cases h)⟩
        rw [H5.out] at h
        simp only [Except.ok.injEq, Prod.mk.injEq] at h
        obtain ⟨rfl, rfl⟩ := h
        exact ⟨A5, c5, rfl, TIn.wide _ q3 fun g hg _ => Nat.le_of_succ_le hg.1, q2'⟩
    | false =>
      rw [ha] at HSE hW2
      rw [if_neg (by simp)] at hW2
      have HE := Lib.hid hW2
      clear hW2 ha
      unfold tv
      go_wp2_with fail
      refine HSE.out.mono ?_
      rintro x wa ⟨rfl, hba⟩
      have hma := hm4.trans (Moves.of_below hba)
      have hTa := hT4.below hba hT4.lt
      have hBa := hB4.below hba hB4.lt
      have hRa := hR4.below hba
      have hXa := TIn.below _ hX4 hba (Nat.le_refl _)
      have hP := put5 hma hRa (Nat.le_refl _) hr hTb (.int .i64 t.kind) (.string t.name) (.int .i64 t.n) (.int .i64 t.place) (.slice A t.parts.length (capF t.parts.length c)) hXa (by omega)
      have HP5 := Lib.hid hP
      have HL := Lib.hid (hTa.all5 (.int .i64 t.kind) (.string t.name) (.int .i64 t.n) (.int .i64 t.place) (.slice A t.parts.length (capF t.parts.length c)))
      obtain ⟨⟨z0, z1, z2, z3, z4⟩, f0, f1, f2, f3, f4⟩ := hTa.five
      obtain ⟨⟨y0, y1, y2, y3, y4⟩, _⟩ := hBa.five
      clear hTa hBa hXa hP hT4 hB4 hR4 hX4 hm4 hba HSE
      go_wp2_with fail
      refine bodyPost_ret (res_tree (p := 2) Tryz.results106 rfl HL.out) rfl ?_
      obtain ⟨q1, q2, q3⟩ := HP5.out
      refine ⟨q1, fun t' q'' h => ?_, fun p h => (by rw [HE.out] at h; cases h)⟩
      rw [HE.out] at h
      simp only [Except.ok.injEq, Prod.mk.injEq] at h
      obtain ⟨rfl, rfl⟩ := h
      exact ⟨A, c, rfl, TIn.wide _ q3 fun g hg _ => Nat.le_of_succ_le hg.1, q2⟩
end Lx
end Go.Proofs.YteabbkhlgnoliaaGreatDoor
namespace Go.Proofs.YteabbkhlgnoliaaGreatDoor
open Go.RowKit
namespace Lx
set_option maxRecDepth 100000
def takeKV (k e : Int) : List Tok → Except Int (Tok × List Tok)
  | [] => .error e
  | t :: q => if t.kind = k then .ok (t, q) else .error t.place
theorem takeKV_len {k e : Int} {l : List Tok} {t : Tok} {q : List Tok} (h : takeKV k e l = .ok (t, q)) : q.length + 1 = l.length := by
  cases l with
  | nil => cases h
  | cons a r =>
    by_cases ha : a.kind = k
    · simp only [takeKV, ha, if_true, Except.ok.injEq, Prod.mk.injEq] at h
      rw [← h.2]; rfl
    · simp [takeKV, ha] at h
theorem takeKind_both (r Tb : Nat) (k : Int) (hk : k ≠ 0) (l : List Tok) (e : Int) (w : World) (hR : Rd w r Tb l e) :
    Calls Tryz.prog 143 #[.pointer (some ⟨r, 0, none⟩), .int .i64 k] w fun x w' => Moves r w w' ∧
      (∀ t q, takeKV k e l = .ok (t, q) → x = .returned t.val ∧ t.text.length ≤ 60000 ∧ Rd w' r Tb q e) ∧ (∀ p, takeKV k e l = .error p → x = .panicked [{ v := noEx p, recovered := false }]) := by
  cases l with
  | nil =>
    refine (takeKind_bad r Tb k [] e w hR ?_).mono ?_
    · simp [peekV]
      exact fun h => hk h.symm
    · rintro x w' ⟨rfl, hb⟩
      exact ⟨Moves.of_below hb, fun t q h => (by cases h), fun p h => by simp only [takeKV, Except.error.injEq] at h; rw [← h]; rfl⟩
  | cons t q =>
    by_cases ht : t.kind = k
    · have htx := hR.txt t (by simp)
      refine (takeKind_good r Tb k t q e w hR ht).mono ?_
      rintro x w' ⟨rfl, hm, hR'⟩
      refine ⟨hm, fun t' q' h => ?_, fun p h => ?_⟩
      · simp only [takeKV, ht, if_true, Except.ok.injEq, Prod.mk.injEq] at h
        obtain ⟨rfl, rfl⟩ := h
        exact ⟨rfl, htx, hR'⟩
      · simp [takeKV, ht] at h
    · refine (takeKind_bad r Tb k (t :: q) e w hR (by simpa [peekV] using ht)).mono ?_
      rintro x w' ⟨rfl, hb⟩
      refine ⟨Moves.of_below hb, fun t' q' h => ?_, fun p h => ?_⟩
      · simp [takeKV, ht] at h
      · simp only [takeKV, ht, if_false, Except.error.injEq] at h
        rw [← h]
        rfl
def lamV (ex : List Tok → PR) (e : Int) (l : List Tok) : PR :=
  (takeV [92] e l).bind fun x1 => (takeKV 1 e x1.2).bind fun x2 => (takeV [46] e x2.2).bind fun x3 => (ex x3.2).bind fun x4 => .ok (.node 2 ⟨x2.1.text.toArray⟩ 0 x1.1.place [x4.1], x4.2)
set_option maxHeartbeats 8000000 in
theorem lam_any (r Tb : Nat) (e : Int) (ex : List Tok → PR) (l : List Tok) (w : World) (hR : Rd w r Tb l e)
    (hex : ∀ (l' : List Tok) (w' : World), l'.length < l.length → Rd w' r Tb l' e → Calls Tryz.prog 67 #[.pointer (some ⟨r, 0, none⟩)] w' fun x w'' => PPost w' r Tb e (ex l') x w'') :
    Calls Tryz.prog 103 #[.pointer (some ⟨r, 0, none⟩)] w fun x w' => PPost w r Tb e (lamV ex e l) x w' := by
  have hr := hR.lt'
  have hTb := hR.lt
  have hb0 : Below w.heap.size w (w.alloc (.cells #[.int .i64 0, .string ⟨#[]⟩, .int .i64 0, .int .i64 0, .slice none 0 0] 24)) := (Below.refl _ w).alloc (Nat.le_refl _) _
  have hT := Lies.new w 24 #[.int .i64 0, .string ⟨#[]⟩, .int .i64 0, .int .i64 0, .slice none 0 0]
  have h92 := bytes1 92
  have h46 := bytes1 46
  have HT1 := Lib.hid (take_both r Tb ⟨#[92]⟩ (by rw [h92]; simp) l e _ (hR.below hb0))
  have HTK := fun l' w' (h : Rd w' r Tb l' e) => Lib.hid (takeKind_both r Tb 1 (by decide) l' e w' h)
  have HT2 := fun l' w' (h : Rd w' r Tb l' e) => Lib.hid (take_both r Tb ⟨#[46]⟩ (by rw [h46]; simp) l' e w' h)
  rw [h92] at HT1
  rw [h46] at HT2
  have HEX := Lib.hid hex
  have hf1 := fld1
  have hf3 := fld3
  obtain ⟨res, hres⟩ : ∃ res, res = lamV ex e l := ⟨_, rfl⟩
  have hW := hres
  unfold lamV at hW
  have HW := Lib.hid hW
  rw [← hres]
  clear hR hex h92 h46 hres hW
  go_enter Tryz.func103, Tryz.ntmps103
  go_wp2_with fail
  refine HT1.out.mono ?_
  rintro x w1 ⟨hm1, hg1, hbd1⟩
  have hm01 := (Moves.of_below hb0).trans hm1
  cases h1 : takeV [92] e l with
  | error p =>
    obtain rfl := hbd1 p h1
    have H9 := Lib.hid (show res = .error p from by rw [HW.out, h1]; rfl)
    clear hg1 hbd1 h1
    go_wp2_with fail
    refine ⟨rfl, ?_⟩
    exact ⟨hm01, fun t q h => (by rw [H9.out] at h; cases h), fun p' h => by rw [H9.out] at h; cases h; rfl⟩
  | ok x1 =>
    obtain ⟨t1, l1⟩ := x1
    obtain ⟨rfl, hR1⟩ := hg1 t1 l1 h1
    have n1 := takeV_len h1
    have H1 := Lib.hid (show res = (takeKV 1 e l1).bind fun x2 => (takeV [46] e x2.2).bind fun x3 => (ex x3.2).bind fun x4 => .ok (.node 2 ⟨x2.1.text.toArray⟩ 0 t1.place [x4.1], x4.2) from by rw [HW.out, h1]; rfl)
    have hT1 := hm1.lies hT (by omega)
    have hs1 : w.heap.size + 1 ≤ w1.heap.size := by have h := hm1.size; simp at h; omega
    have hb2 := (Below.refl _ w1).alloc (Nat.le_refl _) (.cells #[.int .i64 2, .string ⟨#[]⟩, .int .i64 0, .int .i64 t1.place, .slice none 0 0] 24)
    have hB2 := Lies.new w1 24 #[.int .i64 2, .string ⟨#[]⟩, .int .i64 0, .int .i64 t1.place, .slice none 0 0]
    have hT2 := hT1.below hb2 hT1.lt
    have hR2 := hR1.below hb2
    have hm02 := hm01.alloc (.cells #[.int .i64 2, .string ⟨#[]⟩, .int .i64 0, .int .i64 t1.place, .slice none 0 0] 24)
    clear hg1 hbd1 h1 hT1 hR1 hb2 hm1 hT HT1 hm01 hb0 HW
    unfold Tok.val
    go_wp2_with fail
    refine (HTK l1 _ hR2).out.mono ?_
    rintro x w3 ⟨hm3, hg3, hbd3⟩
    have hm03 := hm02.trans hm3
    cases h3 : takeKV 1 e l1 with
    | error p =>
      obtain rfl := hbd3 p h3
      have H9 := Lib.hid (show res = .error p from by rw [H1.out, h3]; rfl)
      clear hg3 hbd3 h3
      go_wp2_with fail
      refine ⟨rfl, ?_⟩
      exact ⟨hm03, fun t q h => (by rw [H9.out] at h; cases h), fun p' h => by rw [H9.out] at h; cases h; rfl⟩
    | ok x3 =>
      obtain ⟨t3, l3⟩ := x3
      obtain ⟨rfl, htx, hR3⟩ := hg3 t3 l3 h3
      have n3 := takeKV_len h3
      have H3 := Lib.hid (show res = (takeV [46] e l3).bind fun x3 => (ex x3.2).bind fun x4 => .ok (.node 2 ⟨t3.text.toArray⟩ 0 t1.place [x4.1], x4.2) from by rw [H1.out, h3]; rfl)
      have hs3 : w1.heap.size + 1 ≤ w3.heap.size := by have h := hm3.size; simp at h; omega
      have hB3 := hm3.lies hB2 (by omega)
      have hT3 := hm3.lies hT2 (by omega)
      obtain ⟨⟨y0, y1, y2, y3, y4⟩, g0, g1, g2, g3, g4⟩ := hB3.five
      have hB4 : Lies (w3.setCell ⟨w1.heap.size, 1, none⟩ (.string ⟨t3.text.toArray⟩)) w1.heap.size 24 #[.int .i64 2, .string ⟨t3.text.toArray⟩, .int .i64 0, .int .i64 t1.place, .slice none 0 0] := by simpa using hB3.put 1 (.string ⟨t3.text.toArray⟩)
      have hT4 := hT3.far (p := ⟨w1.heap.size, 1, none⟩) (by show w.heap.size ≠ w1.heap.size; omega) (.string ⟨t3.text.toArray⟩)
      have hR4 := hR3.put (G := w1.heap.size) (by omega) (by omega) 1 (.string ⟨t3.text.toArray⟩)
      have hm04 := hm03.put (G := w1.heap.size) (by omega) 1 (.string ⟨t3.text.toArray⟩)
      have hs4 : (w3.setCell ⟨w1.heap.size, 1, none⟩ (.string ⟨t3.text.toArray⟩)).heap.size = w3.heap.size := by simp
      clear hg3 hbd3 h3 hB2 hT2 hR2 hm3 hm02 hB3 hT3 hR3 hm03 H1
      unfold Tok.val
      go_upto_region 3 with fail
      obtain ⟨w4, hw4⟩ : ∃ w4, w4 = w3.setCell ⟨w1.heap.size, 1, none⟩ (.string ⟨t3.text.toArray⟩) := ⟨_, rfl⟩
      rw [← hw4] at hB4 hT4 hR4 hm04 hs4 ⊢
      clear hw4 y0 y1 y2 y3 y4 g0 g1 g2 g3 g4
      go_wp2_with fail
      refine (HT2 l3 _ hR4).out.mono ?_
      rintro x w5 ⟨hm5, hg5, hbd5⟩
      have hm05 := hm04.trans hm5
      cases h5 : takeV [46] e l3 with
      | error p =>
        obtain rfl := hbd5 p h5
        have H9 := Lib.hid (show res = .error p from by rw [H3.out, h5]; rfl)
        clear hg5 hbd5 h5
        go_wp2_with fail
        refine ⟨rfl, ?_⟩
        exact ⟨hm05, fun t q h => (by rw [H9.out] at h; cases h), fun p' h => by rw [H9.out] at h; cases h; rfl⟩
      | ok x5 =>
        obtain ⟨t5, l5⟩ := x5
        obtain ⟨rfl, hR5⟩ := hg5 t5 l5 h5
        have n5 := takeV_len h5
        have H5 := Lib.hid (show res = (ex l5).bind fun x4 => .ok (.node 2 ⟨t3.text.toArray⟩ 0 t1.place [x4.1], x4.2) from by rw [H3.out, h5]; rfl)
        have hs5 := hm5.size
        have hB5 := hm5.lies hB4 (by omega)
        have hT5 := hm5.lies hT4 (by omega)
        clear hg5 hbd5 h5 hB4 hT4 hR4 hm5 hm04 H3
        unfold Tok.val
        go_wp2_with fail
        refine (HEX.out l5 w5 (by omega) hR5).mono ?_
        rintro x w6 ⟨hm6, hg6, hbd6⟩
        have hm06 := hm05.trans hm6
        cases h6 : ex l5 with
        | error p =>
          obtain rfl := hbd6 p h6
          have H9 := Lib.hid (show res = .error p from by rw [H5.out, h6]; rfl)
          clear hg6 hbd6 h6
          go_wp2_with fail
          refine ⟨rfl, ?_⟩
          exact ⟨hm06, fun t q h => (by rw [H9.out] at h; cases h), fun p' h => by rw [H9.out] at h; cases h; rfl⟩
        | ok x6 =>
          obtain ⟨u, l6⟩ := x6
          obtain ⟨A, c, rfl, hTu, hR6⟩ := hg6 u l6 h6
          have H6 := Lib.hid (show res = .ok (.node 2 ⟨t3.text.toArray⟩ 0 t1.place [u], l6) from by rw [H5.out, h6]; rfl)
          have hs6 := hm6.size
          have hB6 := hm6.lies hB5 (by omega)
          have hT6 := hm6.lies hT5 (by omega)
          have hb7 := (Below.refl _ w6).alloc (Nat.le_refl _) (.cells #[.int .i64 u.kind, .string u.name, .int .i64 u.n, .int .i64 u.place, .slice A u.parts.length (capF u.parts.length c)] 24)
          have hL7 := Lies.new w6 24 #[.int .i64 u.kind, .string u.name, .int .i64 u.n, .int .i64 u.place, .slice A u.parts.length (capF u.parts.length c)]
          have hB7 := hB6.below hb7 hB6.lt
          have hT7 := hT6.below hb7 hT6.lt
          have hR7 := hR6.below hb7
          have hm07 := hm06.alloc (.cells #[.int .i64 u.kind, .string u.name, .int .i64 u.n, .int .i64 u.place, .slice A u.parts.length (capF u.parts.length c)] 24)
          have hsz : (⟨t3.text.toArray⟩ : ByteArray).size ≤ 140737488351232 := by show t3.text.toArray.size ≤ _; simp; omega
          have hX : TIn (w6.alloc (.cells #[.int .i64 u.kind, .string u.name, .int .i64 u.n, .int .i64 u.place, .slice A u.parts.length (capF u.parts.length c)] 24)) (fun g => w.heap.size + 1 ≤ g ∧ g ≠ w1.heap.size) (.node 2 ⟨t3.text.toArray⟩ 0 t1.place [u]) (some ⟨w6.heap.size, 0, none⟩) :=
            TIn.mk hsz (by simp) (LIn.one (c1 := c) hL7 rfl ⟨by omega, by omega⟩ (TIn.below _ (TIn.wide _ hTu fun g hg _ => (by have h9 : w5.heap.size ≤ g := hg; exact ⟨by omega, by omega⟩)) hb7 (Nat.le_refl _)))
          obtain ⟨⟨y0, y1, y2, y3, y4⟩, g0, g1, g2, g3, g4⟩ := hB7.five
          have hB8 : Lies ((w6.alloc (.cells #[.int .i64 u.kind, .string u.name, .int .i64 u.n, .int .i64 u.place, .slice A u.parts.length (capF u.parts.length c)] 24)).setCell ⟨w1.heap.size, 4, none⟩ (.slice (some ⟨w6.heap.size, 0, none⟩) 1 1)) w1.heap.size 24 #[.int .i64 2, .string ⟨t3.text.toArray⟩, .int .i64 0, .int .i64 t1.place, .slice (some ⟨w6.heap.size, 0, none⟩) 1 1] := by simpa using hB7.put 4 (.slice (some ⟨w6.heap.size, 0, none⟩) 1 1)
          have hT8 := hT7.far (p := ⟨w1.heap.size, 4, none⟩) (by show w.heap.size ≠ w1.heap.size; omega) (.slice (some ⟨w6.heap.size, 0, none⟩) 1 1)
          have hR8 := hR7.put (G := w1.heap.size) (by omega) (by omega) 4 (.slice (some ⟨w6.heap.size, 0, none⟩) 1 1)
          have hm08 := hm07.put (G := w1.heap.size) (by omega) 4 (.slice (some ⟨w6.heap.size, 0, none⟩) 1 1)
          have hX8 := TIn.setCell _ hX ⟨w1.heap.size, 4, none⟩ (.slice (some ⟨w6.heap.size, 0, none⟩) 1 1) (fun h => h.2 rfl)
          clear hg6 hbd6 h6 hB5 hT5 hR5 hm6 hm05 H5 hTu hR6 hb7 hL7 hB6 hT6 hB7 hT7 hR7 hm07 hX hm06
          unfold tv
          go_upto_region 5 with fail
          obtain ⟨w8, hw8⟩ : ∃ w8, w8 = (w6.alloc (.cells #[.int .i64 u.kind, .string u.name, .int .i64 u.n, .int .i64 u.place, .slice A u.parts.length (capF u.parts.length c)] 24)).setCell ⟨w1.heap.size, 4, none⟩ (.slice (some ⟨w6.heap.size, 0, none⟩) 1 1) := ⟨_, rfl⟩
          rw [← hw8] at hB8 hT8 hR8 hm08 hX8 ⊢
          clear hw8 y0 y1 y2 y3 y4 g0 g1 g2 g3 g4
          have hP := put5 hm08 hR8 (Nat.le_refl _) hr hTb (.int .i64 2) (.string ⟨t3.text.toArray⟩) (.int .i64 0) (.int .i64 t1.place) (.slice (some ⟨w6.heap.size, 0, none⟩) 1 1) hX8 (G := w.heap.size) (fun h => by have := h.1; omega)
          have HP5 := Lib.hid hP
          have HL := Lib.hid (hT8.all5 (.int .i64 2) (.string ⟨t3.text.toArray⟩) (.int .i64 0) (.int .i64 t1.place) (.slice (some ⟨w6.heap.size, 0, none⟩) 1 1))
          obtain ⟨⟨z0, z1, z2, z3, z4⟩, f0, f1, f2, f3, f4⟩ := hT8.five
          obtain ⟨⟨y0, y1, y2, y3, y4⟩, _⟩ := hB8.five
          clear hB8 hT8 hX8 hR8 hm08 hP
          go_wp2_with fail
          refine bodyPost_ret (res_tree (p := 2) Tryz.results103 rfl HL.out) rfl ?_
          obtain ⟨q1, q2', q3⟩ := HP5.out
          refine ⟨q1, fun t' q'' h => ?_, fun p h => (by rw [H6.out] at h; cases h)⟩
          rw [H6.out] at h
          simp only [Except.ok.injEq, Prod.mk.injEq] at h
          obtain ⟨rfl, rfl⟩ := h
          exact ⟨some ⟨w6.heap.size, 0, none⟩, 1, rfl, TIn.wide _ q3 fun g hg _ => Nat.le_of_succ_le hg.1, q2'⟩
end Lx
end Go.Proofs.YteabbkhlgnoliaaGreatDoor
namespace Go.Proofs.YteabbkhlgnoliaaGreatDoor
open Go.RowKit
namespace Lx
set_option maxRecDepth 100000
def letV (k : Int) (ex : List Tok → PR) (e : Int) : List Tok → PR
  | [] => .error e
  | t1 :: l1 => (takeKV 1 e l1).bind fun x2 => (takeV [61] e x2.2).bind fun x3 => (ex x3.2).bind fun x4 => (takeV [105, 110] e x4.2).bind fun x5 => (ex x5.2).bind fun x6 => .ok (.node k ⟨x2.1.text.toArray⟩ 0 t1.place [x4.1, x6.1], x6.2)
set_option maxHeartbeats 8000000 in
theorem let_any (r Tb : Nat) (k e : Int) (ex : List Tok → PR) (t1 : Tok) (l1 : List Tok) (w : World) (hR : Rd w r Tb (t1 :: l1) e)
    (hex : ∀ (l' : List Tok) (w' : World), l'.length < l1.length → Rd w' r Tb l' e → Calls Tryz.prog 67 #[.pointer (some ⟨r, 0, none⟩)] w' fun x w'' => PPost w' r Tb e (ex l') x w'')
    (hxl : ∀ l' t q, l'.length < l1.length → ex l' = .ok (t, q) → q.length < l'.length) :
    Calls Tryz.prog 104 #[.pointer (some ⟨r, 0, none⟩), .int .i64 k] w fun x w' => PPost w r Tb e (letV k ex e (t1 :: l1)) x w' := by
  have hr := hR.lt'
  have hTb := hR.lt
  have hb0 : Below w.heap.size w (w.alloc (.cells #[.int .i64 0, .string ⟨#[]⟩, .int .i64 0, .int .i64 0, .slice none 0 0] 24)) := (Below.refl _ w).alloc (Nat.le_refl _) _
  have hT := Lies.new w 24 #[.int .i64 0, .string ⟨#[]⟩, .int .i64 0, .int .i64 0, .slice none 0 0]
  have h61 := bytes1 61
  have hin := bytes2 105 110
  have HN := Lib.hid (next_any r Tb t1 l1 e _ (hR.below hb0))
  have HTK := fun l' w' (h : Rd w' r Tb l' e) => Lib.hid (takeKind_both r Tb 1 (by decide) l' e w' h)
  have HT2 := fun l' w' (h : Rd w' r Tb l' e) => Lib.hid (take_both r Tb ⟨#[61]⟩ (by rw [h61]; simp) l' e w' h)
  have HT3 := fun l' w' (h : Rd w' r Tb l' e) => Lib.hid (take_both r Tb ⟨#[105, 110]⟩ (by rw [hin]; simp) l' e w' h)
  rw [h61] at HT2
  rw [hin] at HT3
  have HEX := Lib.hid hex
  have HXL := Lib.hid hxl
  have hf1 := fld1
  have hf3 := fld3
  obtain ⟨res, hres⟩ : ∃ res, res = letV k ex e (t1 :: l1) := ⟨_, rfl⟩
  have hW := hres
  simp only [letV] at hW
  have H1 := Lib.hid hW
  rw [← hres]
  clear hR hex hxl h61 hin hres hW
  unfold Tok.val at HN
  go_enter Tryz.func104, Tryz.ntmps104
  go_wp2_with fail
  refine HN.out.mono ?_
  rintro x w1 ⟨rfl, hm1, hR1⟩
  have hm01 := (Moves.of_below hb0).trans hm1
  have hT1 := hm1.lies hT (by omega)
  have hs1 : w.heap.size + 1 ≤ w1.heap.size := by have h := hm1.size; simp at h; omega
  have hb2 := (Below.refl _ w1).alloc (Nat.le_refl _) (.cells #[.int .i64 k, .string ⟨#[]⟩, .int .i64 0, .int .i64 t1.place, .slice none 0 0] 24)
  have hB2 := Lies.new w1 24 #[.int .i64 k, .string ⟨#[]⟩, .int .i64 0, .int .i64 t1.place, .slice none 0 0]
  have hT2 := hT1.below hb2 hT1.lt
  have hR2 := hR1.below hb2
  have hm02 := hm01.alloc (.cells #[.int .i64 k, .string ⟨#[]⟩, .int .i64 0, .int .i64 t1.place, .slice none 0 0] 24)
  clear hT1 hR1 hb2 hm1 hT hm01 hb0 HN
  go_wp2_with fail
  refine (HTK l1 _ hR2).out.mono ?_
  rintro x w3 ⟨hm3, hg3, hbd3⟩
  have hm03 := hm02.trans hm3
  cases h3 : takeKV 1 e l1 with
  | error p =>
    obtain rfl := hbd3 p h3
    have H9 := Lib.hid (show res = .error p from by rw [H1.out, h3]; rfl)
    clear hg3 hbd3 h3
    go_wp2_with fail
    refine ⟨rfl, ?_⟩
    exact ⟨hm03, fun t q h => (by rw [H9.out] at h; cases h), fun p' h => by rw [H9.out] at h; cases h; rfl⟩
  | ok x3 =>
    obtain ⟨t3, l3⟩ := x3
    obtain ⟨rfl, htx, hR3⟩ := hg3 t3 l3 h3
    have n3 := takeKV_len h3
    have H3 := Lib.hid (show res = (takeV [61] e l3).bind fun x3 => (ex x3.2).bind fun x4 => (takeV [105, 110] e x4.2).bind fun x5 => (ex x5.2).bind fun x6 => .ok (.node k ⟨t3.text.toArray⟩ 0 t1.place [x4.1, x6.1], x6.2) from by rw [H1.out, h3]; rfl)
    have hs3 : w1.heap.size + 1 ≤ w3.heap.size := by have h := hm3.size; simp at h; omega
    have hB3 := hm3.lies hB2 (by omega)
    have hT3 := hm3.lies hT2 (by omega)
    obtain ⟨⟨y0, y1, y2, y3, y4⟩, g0, g1, g2, g3, g4⟩ := hB3.five
    have hB4 : Lies (w3.setCell ⟨w1.heap.size, 1, none⟩ (.string ⟨t3.text.toArray⟩)) w1.heap.size 24 #[.int .i64 k, .string ⟨t3.text.toArray⟩, .int .i64 0, .int .i64 t1.place, .slice none 0 0] := by simpa using hB3.put 1 (.string ⟨t3.text.toArray⟩)
    have hT4 := hT3.far (p := ⟨w1.heap.size, 1, none⟩) (by show w.heap.size ≠ w1.heap.size; omega) (.string ⟨t3.text.toArray⟩)
    have hR4 := hR3.put (G := w1.heap.size) (by omega) (by omega) 1 (.string ⟨t3.text.toArray⟩)
    have hm04 := hm03.put (G := w1.heap.size) (by omega) 1 (.string ⟨t3.text.toArray⟩)
    have hs4 : (w3.setCell ⟨w1.heap.size, 1, none⟩ (.string ⟨t3.text.toArray⟩)).heap.size = w3.heap.size := by simp
    clear hg3 hbd3 h3 hB2 hT2 hR2 hm3 hm02 hB3 hT3 hR3 hm03 H1
    unfold Tok.val
    go_upto_region 3 with fail
    obtain ⟨w4, hw4⟩ : ∃ w4, w4 = w3.setCell ⟨w1.heap.size, 1, none⟩ (.string ⟨t3.text.toArray⟩) := ⟨_, rfl⟩
    rw [← hw4] at hB4 hT4 hR4 hm04 hs4 ⊢
    clear hw4 y0 y1 y2 y3 y4 g0 g1 g2 g3 g4
    go_wp2_with fail
    refine (HT2 l3 _ hR4).out.mono ?_
    rintro x w5 ⟨hm5, hg5, hbd5⟩
    have hm05 := hm04.trans hm5
    cases h5 : takeV [61] e l3 with
    | error p =>
      obtain rfl := hbd5 p h5
      have H9 := Lib.hid (show res = .error p from by rw [H3.out, h5]; rfl)
      clear hg5 hbd5 h5
      go_wp2_with fail
      refine ⟨rfl, ?_⟩
      exact ⟨hm05, fun t q h => (by rw [H9.out] at h; cases h), fun p' h => by rw [H9.out] at h; cases h; rfl⟩
    | ok x5 =>
      obtain ⟨t5, l5⟩ := x5
      obtain ⟨rfl, hR5⟩ := hg5 t5 l5 h5
      have n5 := takeV_len h5
      have H5 := Lib.hid (show res = (ex l5).bind fun x4 => (takeV [105, 110] e x4.2).bind fun x5 => (ex x5.2).bind fun x6 => .ok (.node k ⟨t3.text.toArray⟩ 0 t1.place [x4.1, x6.1], x6.2) from by rw [H3.out, h5]; rfl)
      have hs5 := hm5.size
      have hB5 := hm5.lies hB4 (by omega)
      have hT5 := hm5.lies hT4 (by omega)
      clear hg5 hbd5 h5 hB4 hT4 hR4 hm5 hm04 H3
      unfold Tok.val
      go_wp2_with fail
      refine (HEX.out l5 w5 (by omega) hR5).mono ?_
      rintro x w6 ⟨hm6, hg6, hbd6⟩
      have hm06 := hm05.trans hm6
      cases h6 : ex l5 with
      | error p =>
        obtain rfl := hbd6 p h6
        have H9 := Lib.hid (show res = .error p from by rw [H5.out, h6]; rfl)
        clear hg6 hbd6 h6
        go_wp2_with fail
        refine ⟨rfl, ?_⟩
        exact ⟨hm06, fun t q h => (by rw [H9.out] at h; cases h), fun p' h => by rw [H9.out] at h; cases h; rfl⟩
      | ok x6 =>
        obtain ⟨u, l6⟩ := x6
        obtain ⟨A, c, rfl, hTu, hR6⟩ := hg6 u l6 h6
        have n6 := HXL.out l5 u l6 (by omega) h6
        have H6 := Lib.hid (show res = (takeV [105, 110] e l6).bind fun x5 => (ex x5.2).bind fun x6 => .ok (.node k ⟨t3.text.toArray⟩ 0 t1.place [u, x6.1], x6.2) from by rw [H5.out, h6]; rfl)
        have hs6 := hm6.size
        have hB6 := hm6.lies hB5 (by omega)
        have hT6 := hm6.lies hT5 (by omega)
        have hTu6 : TIn w6 (fun g => w.heap.size + 1 ≤ g ∧ g ≠ w1.heap.size ∧ g < w6.heap.size) u A := TIn.wide _ hTu fun g hg hlt => (by have h9 : w5.heap.size ≤ g := hg; exact ⟨by omega, by omega, hlt⟩)
        have hb7 := (Below.refl _ w6).alloc (Nat.le_refl _) (.cells #[.int .i64 u.kind, .string u.name, .int .i64 u.n, .int .i64 u.place, .slice A u.parts.length (capF u.parts.length c)] 24)
        have hU7 := Lies.new w6 24 #[.int .i64 u.kind, .string u.name, .int .i64 u.n, .int .i64 u.place, .slice A u.parts.length (capF u.parts.length c)]
        have hB7 := hB6.below hb7 hB6.lt
        have hT7 := hT6.below hb7 hT6.lt
        have hR7 := hR6.below hb7
        have hX7 := TIn.below _ hTu6 hb7 (Nat.le_refl _)
        have hm07 := hm06.alloc (.cells #[.int .i64 u.kind, .string u.name, .int .i64 u.n, .int .i64 u.place, .slice A u.parts.length (capF u.parts.length c)] 24)
        clear hg6 hbd6 h6 hB5 hT5 hR5 hm6 hm05 H5 hTu hR6 hb7 hB6 hT6 hTu6 hm06
        unfold tv
        go_wp2_with fail
        refine (HT3 l6 _ hR7).out.mono ?_
        rintro x w8 ⟨hm8, hg8, hbd8⟩
        have hm08 := hm07.trans hm8
        cases h8 : takeV [105, 110] e l6 with
        | error p =>
          obtain rfl := hbd8 p h8
          have H9 := Lib.hid (show res = .error p from by rw [H6.out, h8]; rfl)
          clear hg8 hbd8 h8
          go_wp2_with fail
          refine ⟨rfl, ?_⟩
          exact ⟨hm08, fun t q h => (by rw [H9.out] at h; cases h), fun p' h => by rw [H9.out] at h; cases h; rfl⟩
        | ok x8 =>
          obtain ⟨t8, l8⟩ := x8
          obtain ⟨rfl, hR8⟩ := hg8 t8 l8 h8
          have n8 := takeV_len h8
          have H8 := Lib.hid (show res = (ex l8).bind fun x6 => .ok (.node k ⟨t3.text.toArray⟩ 0 t1.place [u, x6.1], x6.2) from by rw [H6.out, h8]; rfl)
          have hs8 : w6.heap.size + 1 ≤ w8.heap.size := by have h := hm8.size; simp at h; omega
          have hB8 := hm8.lies hB7 (by omega)
          have hT8 := hm8.lies hT7 (by omega)
          have hU8 := hm8.lies hU7 (by omega)
          have hX8 := tin_moves hX7 hm8 (by omega)
          obtain ⟨g6, hg6e⟩ : ∃ g, g = w6.heap.size := ⟨_, rfl⟩
          rw [← hg6e] at hs8 hs6 hU8 hX8 ⊢
          clear hg8 hbd8 h8 hB7 hT7 hR7 hm8 hm07 H6 hU7 hX7 hg6e
          unfold Tok.val
          go_upto_region 6 with fail
          have HS := Lib.hid (fun V (h : Moves r w8 V) => (show V.cell? ⟨g6, 0, none⟩ = some (.int .i64 u.kind) ∧ V.cell? ⟨g6, 1, none⟩ = some (.string u.name) ∧ V.cell? ⟨g6, 2, none⟩ = some (.int .i64 u.n) ∧ V.cell? ⟨g6, 3, none⟩ = some (.int .i64 u.place) ∧ V.cell? ⟨g6, 4, none⟩ = some (.slice A u.parts.length (capF u.parts.length c)) from (h.lies hU8 (by omega)).five.1))
          have HAQ := Lib.hid (HEX.out l8 w8.drew (by omega) (hR8.below (Below.refl _ w8).drew))
          refine wp_region_K (S := fun V => (V.cell? ⟨g6, 0, none⟩ = some (.int .i64 u.kind) ∧ V.cell? ⟨g6, 1, none⟩ = some (.string u.name) ∧ V.cell? ⟨g6, 2, none⟩ = some (.int .i64 u.n) ∧ V.cell? ⟨g6, 3, none⟩ = some (.int .i64 u.place) ∧ V.cell? ⟨g6, 4, none⟩ = some (.slice A u.parts.length (capF u.parts.length c)))) 5 (by kernel_rfl) (HS.out _ (Moves.of_below (Below.refl _ w8).drew)) fun hS1 => ?_
          change wpAnyK _ _ _ _ _ _ 6 (Array.replicate 6 false) _ _
          refine wpAnyK_take (i := 0) (v := .agg #[.int .i64 u.kind, .string u.name, .int .i64 u.n, .int .i64 u.place, .slice A u.parts.length (capF u.parts.length c)]) rfl (by kernel_rfl) (by kernel_rfl) (by kernel_rfl) (by kernel_rfl) (fun _ _ _ h => h) (.inl ⟨by kernel_rfl, fun W hW => by (obtain ⟨h0, h1, h2, h3, h4⟩ := hW; go_simp)⟩) hS1 ?_
          try simp only [Act.put, List.setIfInBounds_toArray]
          refine wpAnyK_take (i := 1) (v := .pointer (some ⟨r, 0, none⟩)) rfl (by kernel_rfl) (by kernel_rfl) (by kernel_rfl) (by kernel_rfl) (fun _ _ _ h => h) (.inl ⟨by kernel_rfl, fun W hW => by kernel_rfl⟩) hS1 ?_
          try simp only [Act.put]
          clear hS1
          refine wpAnyK_one (i := 2) rfl rfl (by kernel_rfl) (fun K9 hK => ?_)
          go_wp2_with fail
          refine HAQ.out.mono ?_
          rintro x w9 ⟨hm9, hg9, hbd9⟩
          have hm9' : Moves r w8 w9 := (Moves.of_below (Below.refl _ w8).drew).trans hm9
          cases h9 : ex l8 with
          | error p =>
            obtain rfl := hbd9 p h9
            have H9 := Lib.hid (show res = .error p from by rw [H8.out, h9]; rfl)
            clear hg9 hbd9 h9
            go_wp2_with fail
            refine ⟨rfl, ?_⟩
            exact ⟨hm08.trans hm9', fun t q h => (by rw [H9.out] at h; cases h), fun p' h => by rw [H9.out] at h; cases h; rfl⟩
          | ok x9 =>
            obtain ⟨v, l9⟩ := x9
            obtain ⟨A2, c2, rfl, hTv, hR9⟩ := hg9 v l9 h9
            have H9 := Lib.hid (show res = .ok (.node k ⟨t3.text.toArray⟩ 0 t1.place [u, v], l9) from by rw [H8.out, h9]; rfl)
            have hs9 := hm9'.size
            have hB9 := hm9'.lies hB8 (by omega)
            have hT9 := hm9'.lies hT8 (by omega)
            have hX9 : TIn w9 (fun g => w.heap.size + 1 ≤ g ∧ g ≠ w1.heap.size) u A := TIn.wide _ (tin_moves hX8 hm9' (fun h => by have := h.1; omega)) fun g hg _ => ⟨hg.1, hg.2.1⟩
            have hY9 : TIn w9 (fun g => w.heap.size + 1 ≤ g ∧ g ≠ w1.heap.size) v A2 := TIn.wide _ hTv fun g hg _ => (by have h9 : w8.heap.size ≤ g := hg; exact ⟨by omega, by omega⟩)
            have hba := (Below.refl _ w9).alloc (Nat.le_refl _) (.cells #[.int .i64 u.kind, .string u.name, .int .i64 u.n, .int .i64 u.place, .slice A u.parts.length (capF u.parts.length c), .int .i64 v.kind, .string v.name, .int .i64 v.n, .int .i64 v.place, .slice A2 v.parts.length (capF v.parts.length c2)] 24)
            have hLa := Lies.new w9 24 #[.int .i64 u.kind, .string u.name, .int .i64 u.n, .int .i64 u.place, .slice A u.parts.length (capF u.parts.length c), .int .i64 v.kind, .string v.name, .int .i64 v.n, .int .i64 v.place, .slice A2 v.parts.length (capF v.parts.length c2)]
            have hBa := hB9.below hba hB9.lt
            have hTa := hT9.below hba hT9.lt
            have hRa := hR9.below hba
            have hma' : Moves r w8 (w9.alloc (.cells #[.int .i64 u.kind, .string u.name, .int .i64 u.n, .int .i64 u.place, .slice A u.parts.length (capF u.parts.length c), .int .i64 v.kind, .string v.name, .int .i64 v.n, .int .i64 v.place, .slice A2 v.parts.length (capF v.parts.length c2)] 24)) := hm9'.alloc _
            have hma := hm08.trans hma'
            have hsz : (⟨t3.text.toArray⟩ : ByteArray).size ≤ 140737488351232 := by show t3.text.toArray.size ≤ _; simp; omega
            have hX : TIn (w9.alloc (.cells #[.int .i64 u.kind, .string u.name, .int .i64 u.n, .int .i64 u.place, .slice A u.parts.length (capF u.parts.length c), .int .i64 v.kind, .string v.name, .int .i64 v.n, .int .i64 v.place, .slice A2 v.parts.length (capF v.parts.length c2)] 24)) (fun g => w.heap.size + 1 ≤ g ∧ g ≠ w1.heap.size) (.node k ⟨t3.text.toArray⟩ 0 t1.place [u, v]) (some ⟨w9.heap.size, 0, none⟩) :=
              TIn.mk hsz (by simp) (LIn.two (c1 := c) (c2 := c2) hLa rfl ⟨by omega, by omega⟩ (TIn.below _ hX9 hba (Nat.le_refl _)) (TIn.below _ hY9 hba (Nat.le_refl _)))
            obtain ⟨⟨y0, y1, y2, y3, y4⟩, g0, g1, g2, g3, g4⟩ := hBa.five
            have hBb : Lies ((w9.alloc (.cells #[.int .i64 u.kind, .string u.name, .int .i64 u.n, .int .i64 u.place, .slice A u.parts.length (capF u.parts.length c), .int .i64 v.kind, .string v.name, .int .i64 v.n, .int .i64 v.place, .slice A2 v.parts.length (capF v.parts.length c2)] 24)).setCell ⟨w1.heap.size, 4, none⟩ (.slice (some ⟨w9.heap.size, 0, none⟩) 2 2)) w1.heap.size 24 #[.int .i64 k, .string ⟨t3.text.toArray⟩, .int .i64 0, .int .i64 t1.place, .slice (some ⟨w9.heap.size, 0, none⟩) 2 2] := by simpa using hBa.put 4 (.slice (some ⟨w9.heap.size, 0, none⟩) 2 2)
            have hTb' := hTa.far (p := ⟨w1.heap.size, 4, none⟩) (by show w.heap.size ≠ w1.heap.size; omega) (.slice (some ⟨w9.heap.size, 0, none⟩) 2 2)
            have hRb := hRa.put (G := w1.heap.size) (by omega) (by omega) 4 (.slice (some ⟨w9.heap.size, 0, none⟩) 2 2)
            have hmb := hma.put (G := w1.heap.size) (by omega) 4 (.slice (some ⟨w9.heap.size, 0, none⟩) 2 2)
            have hXb := TIn.setCell _ hX ⟨w1.heap.size, 4, none⟩ (.slice (some ⟨w9.heap.size, 0, none⟩) 2 2) (fun h => h.2 rfl)
            have HMA := Lib.hid hma'
            clear hg9 hbd9 h9 hB8 hT8 hR8 hU8 hX8 hm08 H8 hTv hR9 hB9 hT9 hX9 hY9 hba hLa hBa hTa hRa hma hX hma'
            unfold tv
            go_wp2_with fail
            refine hK.out _ _ (fun _ => HS.out _ hm9') fun _ => ?_
            clear hK
            try simp only [Act.put, List.setIfInBounds_toArray, List.set_cons_zero, List.set_cons_succ]
            refine wpAnyK_one (i := 3) rfl rfl (by kernel_rfl) (fun K9 hK => ?_)
            go_wp2_with fail
            refine hK.out _ _ (fun _ => HS.out _ HMA.out) fun _ => ?_
            clear hK
            try simp only [Act.put, List.setIfInBounds_toArray, List.set_cons_zero, List.set_cons_succ]
            refine wpAnyK_one (i := 4) rfl rfl (by kernel_rfl) (fun K9 hK => ?_)
            go_wp2_with fail
            refine hK.out _ _ (fun _ => HS.out _ HMA.out) fun _ => ?_
            clear hK
            try simp only [Act.put, List.setIfInBounds_toArray, List.set_cons_zero, List.set_cons_succ]
            refine wpAnyK_one (i := 5) rfl rfl (by kernel_rfl) (fun K9 hK => ?_)
            go_wp2_with fail
            refine hK.out _ _ (fun h => absurd rfl h) fun _ => ?_
            clear hK
            try simp only [Act.put, List.setIfInBounds_toArray, List.set_cons_zero, List.set_cons_succ]
            refine wpAnyK_done (by kernel_rfl) ?_ _
            clear y0 y1 y2 y3 y4 g0 g1 g2 g3 g4
            go_upto_region 7 with fail
            obtain ⟨wb, hwb⟩ : ∃ wb, wb = (w9.alloc (.cells #[.int .i64 u.kind, .string u.name, .int .i64 u.n, .int .i64 u.place, .slice A u.parts.length (capF u.parts.length c), .int .i64 v.kind, .string v.name, .int .i64 v.n, .int .i64 v.place, .slice A2 v.parts.length (capF v.parts.length c2)] 24)).setCell ⟨w1.heap.size, 4, none⟩ (.slice (some ⟨w9.heap.size, 0, none⟩) 2 2) := ⟨_, rfl⟩
            rw [← hwb] at hBb hTb' hRb hmb hXb ⊢
            clear hwb
            have hP := put5 hmb hRb (Nat.le_refl _) hr hTb (.int .i64 k) (.string ⟨t3.text.toArray⟩) (.int .i64 0) (.int .i64 t1.place) (.slice (some ⟨w9.heap.size, 0, none⟩) 2 2) hXb (G := w.heap.size) (fun h => by have := h.1; omega)
            have HP5 := Lib.hid hP
            have HL := Lib.hid (hTb'.all5 (.int .i64 k) (.string ⟨t3.text.toArray⟩) (.int .i64 0) (.int .i64 t1.place) (.slice (some ⟨w9.heap.size, 0, none⟩) 2 2))
            obtain ⟨⟨z0, z1, z2, z3, z4⟩, f0, f1, f2, f3, f4⟩ := hTb'.five
            obtain ⟨⟨y0, y1, y2, y3, y4⟩, _⟩ := hBb.five
            clear hBb hTb' hXb hRb hmb hP
            go_wp2_with fail
            refine bodyPost_ret (res_tree (p := 4) Tryz.results104 rfl HL.out) rfl ?_
            obtain ⟨q1, q2', q3⟩ := HP5.out
            refine ⟨q1, fun t' q'' h => ?_, fun p h => (by rw [H9.out] at h; cases h)⟩
            rw [H9.out] at h
            simp only [Except.ok.injEq, Prod.mk.injEq] at h
            obtain ⟨rfl, rfl⟩ := h
            exact ⟨some ⟨w9.heap.size, 0, none⟩, 2, rfl, TIn.wide _ q3 fun g hg _ => Nat.le_of_succ_le hg.1, q2'⟩
end Lx
end Go.Proofs.YteabbkhlgnoliaaGreatDoor
namespace Go.Proofs.YteabbkhlgnoliaaGreatDoor
open Go.RowKit
namespace Lx
set_option maxRecDepth 100000
/-- A con takes further atoms, n at most. -/
def conLoop (ex : List Tok → PR) (e : Int) (nm : ByteArray) (pc : Int) : Nat → List Tr → List Tok → PR
  | 0, pl, l => .ok (.node 6 nm 0 pc pl, l)
  | n + 1, pl, l => if atomS (peekV l e) = true then (match atomV ex e l with
    | .error p => .error p
    | .ok (u, q) => conLoop ex e nm pc n (pl ++ [u]) q) else .ok (.node 6 nm 0 pc pl, l)
def conP (ex : List Tok → PR) (e : Int) : List Tok → PR
  | [] => .error e
  | t :: q => conLoop ex e ⟨t.text.toArray⟩ t.place 8 [] q
theorem own_moves {w w' : World} {r base : Nat} {ty : TypeId} {size n : Nat} {v : Value} {xs : List Value} (h : w.ownsRow base ty size v n xs) (hm : Moves r w w') (hr : r < base) : w'.ownsRow base ty size v n xs := by
  refine h.kept (row := some r) hm ?_
  cases hv : v.ownBlock with
  | none => exact .inl rfl
  | some g => exact .inr (fun e => by have := (h.lt g hv).1; have e9 : g = r := Option.some.inj e; omega)
set_option maxHeartbeats 4000000 in
/-- An atom that is a token by itself: it has no parts. -/
theorem atom_leaf (r Tb : Nat) (e : Int) (t : Tok) (q : List Tok) (w : World) (hR : Rd w r Tb (t :: q) e) (hp : (t.text == [40]) = false) (ha : atomS t = true) :
    Calls Tryz.prog 168 #[.pointer (some ⟨r, 0, none⟩)] w fun x w' => x = .returned (tv (leafV t) none 0) ∧ Moves r w w' ∧ Rd w' r Tb q e := by
  have hr := hR.lt'
  have hTb := hR.lt
  have htx := hR.txt
  have hb0 : Below w.heap.size w ((w.alloc (.cells #[.int .i64 0, .string ⟨#[]⟩, .int .i64 0, .int .i64 0, .slice none 0 0] 24)).alloc (.cells #[.string ⟨#[40]⟩] 9)) := ((Below.refl _ w).alloc (Nat.le_refl _) _).alloc (by simp) _
  have hT : Lies ((w.alloc (.cells #[.int .i64 0, .string ⟨#[]⟩, .int .i64 0, .int .i64 0, .slice none 0 0] 24)).alloc (.cells #[.string ⟨#[40]⟩] 9)) w.heap.size 24 #[.int .i64 0, .string ⟨#[]⟩, .int .i64 0, .int .i64 0, .slice none 0 0] := (Lies.new w _ _).old _
  have h40 : (⟨#[40]⟩ : ByteArray).toList = [40] := ByteArray.toList_mk [40]
  have HS := Lib.hid (sees_any r Tb (w.heap.size + 1) [⟨#[40]⟩] 1 1 (t :: q) e _ rfl (by omega) (StrIn.one (lies_new1 w _ 9 #[.string ⟨#[40]⟩])) (hR.below hb0))
  rw [hasS_one, h40] at HS
  have HR0 := Lib.hid (hR.below hb0)
  have HSA := fun w' (h : Rd w' r Tb (t :: q) e) => Lib.hid (seesAtom_any r Tb (t :: q) e w' h)
  rw [show peekV (t :: q) e = t from rfl, hp] at HS
  rw [show peekV (t :: q) e = t from rfl, ha] at HSA
  clear hR h40
  have HN := fun w' (h : Rd w' r Tb (t :: q) e) => Lib.hid (next_any r Tb t q e w' h)
  have HLF := fun w' => Lib.hid (leaf_any t w')
  have hlen := htx t (by simp)
  obtain ⟨u, hu⟩ : ∃ u, u = leafV t := ⟨_, rfl⟩
  have hTu : ∀ (W : World) (X : Nat → Prop), TIn W X u none := fun W X => by rw [hu]; exact leaf_in t hlen
  rw [← hu] at HLF ⊢
  clear hp ha htx hu hlen
  have hpl : u.parts.length = 0 ∨ True := .inr trivial
  go_enter Tryz.func168, Tryz.ntmps168
  go_wp2_with fail
  refine HS.out.mono ?_
  rintro x w1 ⟨rfl, hb1⟩
  have hb01 := hb0.trans (hb1.mono hb0.size)
  have hT1 := hT.below hb1 hT.lt
  go_wp2_with fail
  refine (HSA _ (HR0.out.below hb1)).out.mono ?_
  rintro x w2 ⟨rfl, hb2⟩
  have hb02 := hb01.trans (hb2.mono hb01.size)
  have hT2 := hT1.below hb2 hT1.lt
  go_wp2_with fail
  refine (HN _ ((HR0.out.below hb1).below hb2)).out.mono ?_
  rintro x w3 ⟨rfl, hm3, hR3⟩
  have hm03 := (Moves.of_below hb02).trans hm3
  have hT3 := hm3.lies hT2 (by omega)
  unfold Tok.val
  go_wp2_with fail
  refine (HLF _).out.mono ?_
  rintro x w4 ⟨rfl, hb4⟩
  have hm04 := hm03.trans (Moves.of_below hb4)
  have hT4 := hT3.below hb4 hT3.lt
  have hR4 := hR3.below hb4
  have hP := put5 hm04 hR4 (Nat.le_refl _) hr hTb (.int .i64 u.kind) (.string u.name) (.int .i64 u.n) (.int .i64 u.place) (.slice none u.parts.length (capF u.parts.length 0)) (hTu w4 (fun g => w.heap.size + 1 ≤ g)) (by omega)
  have HP := Lib.hid hP
  have HL := Lib.hid (hT4.all5 (.int .i64 u.kind) (.string u.name) (.int .i64 u.n) (.int .i64 u.place) (.slice none u.parts.length (capF u.parts.length 0)))
  obtain ⟨⟨z0, z1, z2, z3, z4⟩, f0, f1, f2, f3, f4⟩ := hT4.five
  clear hT4 hP hT3 hT2 hT1
  unfold tv
  go_wp2_with fail
  refine bodyPost_ret (res_tree (p := 2) Tryz.results168 rfl HL.out) rfl ?_
  obtain ⟨q1, q2, _⟩ := HP.out
  exact ⟨rfl, q1, q2⟩
theorem Moves.grown {a w w' : World} {r : Nat} {row : Option Nat} (h : Moves r a w) (hg : w.grownBy w' row) (hp : ∀ g, row = some g → a.heap.size ≤ g) : Moves r a w' :=
  ⟨hg.os.trans h.os, hg.tape.trans h.tape, hg.output.trans h.output, Nat.le_trans h.size hg.size,
    fun q hq hr => (hg.block q (Nat.lt_of_lt_of_le hq h.size) (fun e => by have := hp q e.symm; omega)).trans (h.block q hq hr)⟩
theorem Rd.grown {w w' : World} {r Tb : Nat} {l : List Tok} {e : Int} {row : Option Nat} (h : Rd w r Tb l e) (hg : w.grownBy w' row) (hr : row ≠ some r) (hT : row ≠ some Tb) : Rd w' r Tb l e :=
  h.keep (hg.block r h.lt' (fun e => hr e.symm)) (hg.block Tb h.lt (fun e => hT e.symm))
set_option maxHeartbeats 8000000 in
theorem con_any (r Tb : Nat) (e : Int) (ex : List Tok → PR) (t : Tok) (q : List Tok) (w : World) (hR : Rd w r Tb (t :: q) e) (hk : t.kind = 2) (hpar : (t.text == [40]) = false)
    (hex : ∀ (l' : List Tok) (w' : World), l'.length < (t :: q).length → Rd w' r Tb l' e → Calls Tryz.prog 67 #[.pointer (some ⟨r, 0, none⟩)] w' fun x w'' => PPost w' r Tb e (ex l') x w'')
    (hxl : ∀ l' t' q', l'.length < (t :: q).length → ex l' = .ok (t', q') → q'.length < l'.length) :
    Calls Tryz.prog 186 #[.pointer (some ⟨r, 0, none⟩)] w fun x w' => PPost w r Tb e (conP ex e (t :: q)) x w' := by
  have hr := hR.lt'
  have hTb := hR.lt
  have htx := hR.txt t (by simp)
  have hb0 : Below w.heap.size w (w.alloc (.cells #[.int .i64 0, .string ⟨#[]⟩, .int .i64 0, .int .i64 0, .slice none 0 0] 24)) := (Below.refl _ w).alloc (Nat.le_refl _) _
  have hT := Lies.new w 24 #[.int .i64 0, .string ⟨#[]⟩, .int .i64 0, .int .i64 0, .slice none 0 0]
  have ha : atomS t = true := by simp [atomS, hk]
  have hA0 := atomV_leaf ex e t q hpar ha
  have hlf : leafV t = .node 6 ⟨t.text.toArray⟩ 0 t.place [] := by simp [leafV, hk]
  have HAT := Lib.hid (fun l' w' (hl : l'.length ≤ (t :: q).length) (h : Rd w' r Tb l' e) => atom_any r Tb e ex l' w' h (fun l2 w2 h2 hR2 => hex l2 w2 (Nat.lt_of_lt_of_le h2 hl) hR2))
  have HXL := Lib.hid (fun l' t' q' (hl : l'.length ≤ (t :: q).length) (h : atomV ex e l' = .ok (t', q')) => atomV_len (fun l2 t2 q2 h2 => hxl l2 t2 q2 (Nat.lt_of_lt_of_le h2 hl)) h)
  have HA1 := Lib.hid (atom_leaf r Tb e t q _ (hR.below hb0) hpar ha)
  rw [hlf] at HA1
  obtain ⟨res, hres⟩ : ∃ res, res = conP ex e (t :: q) := ⟨_, rfl⟩
  have hW := hres
  simp only [conP] at hW
  rw [← hres]
  obtain ⟨nm, hnm⟩ : ∃ nm : ByteArray, nm = ⟨t.text.toArray⟩ := ⟨_, rfl⟩
  obtain ⟨pc, hpc⟩ : ∃ pc, pc = t.place := ⟨_, rfl⟩
  have hsz : nm.size ≤ 140737488351232 := by rw [hnm]; show t.text.toArray.size ≤ _; simp; omega
  rw [← hnm, ← hpc] at HA1 hW
  have HW := Lib.hid hW
  clear hR hex hxl hres hW ha hA0 hlf hk hpar htx hnm hpc
  go_enter Tryz.func186, Tryz.ntmps186
  go_wp2_with fail
  refine HA1.out.mono ?_
  rintro x w3 ⟨rfl, hm3, hR3⟩
  have hm03 := (Moves.of_below hb0).trans hm3
  have hT3 := hm3.lies hT (by omega)
  have hs3 : w.heap.size + 1 ≤ w3.heap.size := by have h := hm3.size; simp at h; omega
  have hbw3 := (Below.refl _ w3).alloc (Nat.le_refl _) (.cells #[.int .i64 6, .string nm, .int .i64 0, .int .i64 pc, .slice none 0 0] 24)
  have HST := Lib.hid (show Moves r w (w3.alloc (.cells #[.int .i64 6, .string nm, .int .i64 0, .int .i64 pc, .slice none 0 0] 24)) ∧ Lies (w3.alloc (.cells #[.int .i64 6, .string nm, .int .i64 0, .int .i64 pc, .slice none 0 0] 24)) w.heap.size 24 #[.int .i64 0, .string ⟨#[]⟩, .int .i64 0, .int .i64 0, .slice none 0 0] ∧ Lies (w3.alloc (.cells #[.int .i64 6, .string nm, .int .i64 0, .int .i64 pc, .slice none 0 0] 24)) w3.heap.size 24 #[.int .i64 6, .string nm, .int .i64 0, .int .i64 pc, .slice none 0 0] ∧ Rd (w3.alloc (.cells #[.int .i64 6, .string nm, .int .i64 0, .int .i64 pc, .slice none 0 0] 24)) r Tb q e from
    ⟨hm03.alloc _, hT3.below hbw3 hT3.lt, Lies.new w3 _ _, hR3.below hbw3⟩)
  have htv : tv (.node 6 nm 0 pc []) none 0 = .agg #[.int .i64 6, .string nm, .int .i64 0, .int .i64 pc, .slice none 0 0] := rfl
  rw [htv]
  obtain ⟨i0, hi0, hz0, hz1, hz2⟩ := info_parts infoT
  clear hT3 hbw3 hR3 hm03 hm3 hb0 hT HA1 htv
  go_wp2_with fail
  go_loopw [] (fun wr => ∃ (n : Nat) (pl : List Tr) (q' : List Tok) (B : Option Addr) (bc : Nat) (xs : List Value), pl.length + n = 8 ∧ Moves r w wr ∧ Lies wr w.heap.size 24 #[.int .i64 0, .string ⟨#[]⟩, .int .i64 0, .int .i64 0, .slice none 0 0] ∧ Lies wr w3.heap.size 24 #[.int .i64 6, .string nm, .int .i64 0, .int .i64 pc, .slice B pl.length bc] ∧
      wr.ownsRow (w3.heap.size + 1) 24 5 (.slice B pl.length bc) pl.length xs ∧ RowTr wr (fun g => (w.heap.size + 1 ≤ g ∧ g ≠ w3.heap.size) ∧ some g ≠ (Value.slice B pl.length bc).ownBlock) pl xs ∧ w3.heap.size + 1 ≤ wr.heap.size ∧ Rd wr r Tb q' e ∧ q'.length ≤ q.length ∧ Hid (res = conLoop ex e nm pc n pl q')) (fun wr => restLen r wr)
  case atStart => exact ⟨8, [], q, none, 0, [], rfl, HST.out.1, HST.out.2.1, HST.out.2.2.1, World.ownsRow_nil _ _ _ _, RowTr.nil _ _, by simp, HST.out.2.2.2, Nat.le_refl _, HW⟩
  case round =>
    obtain ⟨n, pl, q', B, bc, xs, hn, hm, hT, hB, hown, hrow, hsz3, hR, hq', HE⟩ := hrel
    obtain ⟨⟨y0, y1, y2, y3, y4⟩, _⟩ := hB.five
    cases n with
    | zero =>
      have h8 : ¬ (pl.length : Int) < 8 := by omega
      have hE := HE.out
      simp only [conLoop] at hE
      have HE := Lib.hid hE
      clear hE y0 y1 y2 y3
      obtain ⟨wa, hwa⟩ : ∃ wa, wa = wr := ⟨_, rfl⟩
      subst hwa
      have hTa := hT
      have hBa := hB
      have hma := hm
      have hRa := hR
      have hrowa := hrow
      have howna := hown
      have hle9 := own_le hown
      clear hT hB hm hR hrow hown
      obtain ⟨m8, hm8⟩ : ∃ m8, m8 = pl.length := ⟨_, rfl⟩
      have hX9 : TIn wa (fun g => w.heap.size + 1 ≤ g) (.node 6 nm 0 pc pl) B := TIn.mk hsz (by omega) (RowTr.owned hrowa howna (fun g hg => by omega) (fun g h _ => h.1.1))
      have hP := put5 hma hRa (Nat.le_refl _) hr hTb (.int .i64 6) (.string nm) (.int .i64 0) (.int .i64 pc) (.slice B pl.length bc) hX9 (G := w.heap.size) (by omega)
      have HP5 := Lib.hid hP
      have HL := Lib.hid (hTa.all5 (.int .i64 6) (.string nm) (.int .i64 0) (.int .i64 pc) (.slice B pl.length bc))
      obtain ⟨⟨z0, z1, z2, z3, z4⟩, f0, f1, f2, f3, f4⟩ := hTa.five
      obtain ⟨⟨y0, y1, y2, y3, y4⟩, _⟩ := hBa.five
      clear hTa hBa hX9 hP hRa hma hrowa howna
      go_wp2_with fail
      refine bodyPost_ret (res_tree (p := 2) Tryz.results186 rfl HL.out) rfl ?_
      obtain ⟨q1, q2, q3⟩ := HP5.out
      refine ⟨q1, fun t' q'' h => ?_, fun p h => (by rw [HE.out] at h; cases h)⟩
      rw [HE.out] at h
      simp only [Except.ok.injEq, Prod.mk.injEq] at h
      obtain ⟨rfl, rfl⟩ := h
      exact ⟨B, bc, tv_own hle9, TIn.wide _ q3 fun g hg _ => Nat.le_of_succ_le hg, q2⟩
    | succ n =>
      have h8 : (pl.length : Int) < 8 := by omega
      have HSA := Lib.hid (seesAtom_any r Tb q' e wr hR)
      have hRest := hR.rest
      have hE := HE.out
      unfold conLoop at hE
      clear HE y0 y1 y2 y3
      cases ha : atomS (peekV q' e) with
      | false =>
        rw [ha] at HSA hE
        rw [if_neg (by simp)] at hE
        have HE := Lib.hid hE
        clear hE ha
        go_wp2_with fail
        refine HSA.out.mono ?_
        rintro x wa ⟨rfl, hba⟩
        have hma := hm.trans (Moves.of_below hba)
        have hTa := hT.below hba hT.lt
        have hBa := hB.below hba hB.lt
        have hRa := hR.below hba
        have hrowa := hrow.below hba (Nat.le_refl _)
        have howna := own_below hown hba (Nat.le_refl _)
        have hle9 := own_le hown
        clear hT hB hm hR hrow hown y4
        have hX9 : TIn wa (fun g => w.heap.size + 1 ≤ g) (.node 6 nm 0 pc pl) B := TIn.mk hsz (by omega) (RowTr.owned hrowa howna (fun g hg => by omega) (fun g h _ => h.1.1))
        have hP := put5 hma hRa (Nat.le_refl _) hr hTb (.int .i64 6) (.string nm) (.int .i64 0) (.int .i64 pc) (.slice B pl.length bc) hX9 (G := w.heap.size) (by omega)
        have HP5 := Lib.hid hP
        have HL := Lib.hid (hTa.all5 (.int .i64 6) (.string nm) (.int .i64 0) (.int .i64 pc) (.slice B pl.length bc))
        obtain ⟨⟨z0, z1, z2, z3, z4⟩, f0, f1, f2, f3, f4⟩ := hTa.five
        obtain ⟨⟨y0, y1, y2, y3, y4⟩, _⟩ := hBa.five
        clear hTa hBa hX9 hP hRa hma hrowa howna
        go_wp2_with fail
        refine bodyPost_ret (res_tree (p := 2) Tryz.results186 rfl HL.out) rfl ?_
        obtain ⟨q1, q2, q3⟩ := HP5.out
        refine ⟨q1, fun t' q'' h => ?_, fun p h => (by rw [HE.out] at h; cases h)⟩
        rw [HE.out] at h
        simp only [Except.ok.injEq, Prod.mk.injEq] at h
        obtain ⟨rfl, rfl⟩ := h
        exact ⟨B, bc, tv_own hle9, TIn.wide _ q3 fun g hg _ => Nat.le_of_succ_le hg, q2⟩
      | true =>
        rw [ha] at HSA hE
        rw [if_pos rfl] at hE
        have HE := Lib.hid hE
        clear hE ha
        go_wp2_with fail
        refine HSA.out.mono ?_
        rintro x wa ⟨rfl, hba⟩
        have hma := hm.trans (Moves.of_below hba)
        have hTa := hT.below hba hT.lt
        have hBa := hB.below hba hB.lt
        have hRa := hR.below hba
        have hrowa := hrow.below hba (Nat.le_refl _)
        have howna := own_below hown hba (Nat.le_refl _)
        have hsa := hba.size
        clear hT hB hm hR hrow hown y4 hba
        have HS := Lib.hid (fun V (h : Moves r wa V) => (show V.cell? ⟨w3.heap.size, 4, none⟩ = some (.slice B pl.length bc) from (h.lies hBa (by omega)).five.1.2.2.2.2))
        have HAQ := Lib.hid (HAT.out q' wa.drew (by simp; omega) (hRa.below (Below.refl _ wa).drew))
        go_wp2_with fail
        refine wp_region_K (S := fun V => V.cell? ⟨w3.heap.size, 4, none⟩ = some (.slice B pl.length bc)) 7 (by kernel_rfl) (HS.out _ (Moves.of_below (Below.refl _ wa).drew)) fun hS1 => ?_
        change wpAnyK _ _ _ _ _ _ 8 (Array.replicate 8 false) _ _
        refine wpAnyK_take (i := 0) (v := .pointer (some ⟨w3.heap.size, 4, none⟩)) rfl (by kernel_rfl) (by kernel_rfl) (by kernel_rfl) (by kernel_rfl) (fun _ _ _ h => h) (.inl ⟨by kernel_rfl, fun W hW => by kernel_rfl⟩) hS1 ?_
        try simp only [Act.put, List.setIfInBounds_toArray]
        refine wpAnyK_take (i := 1) (v := .slice B pl.length bc) rfl (by kernel_rfl) (by kernel_rfl) (by kernel_rfl) (by kernel_rfl) (fun _ _ _ h => h) (.inl ⟨by kernel_rfl, fun W hW => by go_simp⟩) hS1 ?_
        try simp only [Act.put]
        refine wpAnyK_take (i := 2) (v := .pointer (some ⟨r, 0, none⟩)) rfl (by kernel_rfl) (by kernel_rfl) (by kernel_rfl) (by kernel_rfl) (fun _ _ _ h => h) (.inl ⟨by kernel_rfl, fun W hW => by kernel_rfl⟩) hS1 ?_
        try simp only [Act.put]
        clear hS1
        refine wpAnyK_one (i := 3) rfl rfl (by kernel_rfl) (fun K9 hK => ?_)
        go_wp2_with fail
        refine HAQ.out.mono ?_
        rintro x w5 ⟨hm5, hg5, hbd5⟩
        have hm5' : Moves r wa w5 := (Moves.of_below (Below.refl _ wa).drew).trans hm5
        cases h5 : atomV ex e q' with
        | error p =>
          obtain rfl := hbd5 p h5
          have H5 := Lib.hid (show res = .error p from by rw [HE.out, h5])
          clear hg5 hbd5 h5
          go_wp2_with fail
          refine ⟨rfl, ?_⟩
          exact ⟨hma.trans hm5', fun t q h => (by rw [H5.out] at h; cases h), fun p' h => by rw [H5.out] at h; cases h; rfl⟩
        | ok tq =>
          obtain ⟨u, q5⟩ := tq
          obtain ⟨A, c, rfl, hTu, hR5⟩ := hg5 u q5 h5
          have hq5 := HXL.out q' u q5 (by simp; omega) h5
          have H5 := Lib.hid (show res = conLoop ex e nm pc n (pl ++ [u]) q5 from by rw [HE.out, h5])
          clear hg5 hbd5 h5
          have hs5 := hm5'.size
          have hB5 := hm5'.lies hBa (by omega)
          have hT5 := hm5'.lies hTa (by omega)
          have hown5 := own_moves howna hm5' (by omega)
          have hlta := howna.lt
          have hrow5 : RowTr w5 (fun g => (w.heap.size + 1 ≤ g ∧ g ≠ w3.heap.size) ∧ some g ≠ (Value.slice B pl.length bc).ownBlock) pl xs := RowTr.grown hrowa hm5' (fun g hg h => by have e9 : r = g := Option.some.inj hg; have := h.1.1; omega)
          have hY5 : TIn w5 (fun g => (w.heap.size + 1 ≤ g ∧ g ≠ w3.heap.size) ∧ some g ≠ (Value.slice B pl.length bc).ownBlock) u A := TIn.wide _ hTu fun g hg _ => by
            have h9 : wa.heap.size ≤ g := hg
            exact ⟨⟨by omega, by omega⟩, fun e => by have := (hlta g e.symm).2; omega⟩
          have hba6 := (Below.refl _ w5).alloc (Nat.le_refl _) (.cells #[.int .i64 u.kind, .string u.name, .int .i64 u.n, .int .i64 u.place, .slice A u.parts.length (capF u.parts.length c)] 24)
          have hB6 := hB5.below hba6 hB5.lt
          have hT6 := hT5.below hba6 hT5.lt
          have hR6 := hR5.below hba6
          have hrow6 := hrow5.below hba6 (Nat.le_refl _)
          have hY6 := TIn.below _ hY5 hba6 (Nat.le_refl _)
          have hm6' : Moves r wa (w5.alloc (.cells #[.int .i64 u.kind, .string u.name, .int .i64 u.n, .int .i64 u.place, .slice A u.parts.length (capF u.parts.length c)] 24)) := hm5'.alloc _
          have hm6 := hma.trans hm6'
          have hlt5 := hown5.lt
          clear hTa hBa hRa hrowa howna hTu hB5 hT5 hR5 hrow5 hY5 hba6
          unfold tv
          go_wp2_with fail
          refine hK.out _ _ (fun _ => HS.out _ hm5') fun _ => ?_
          clear hK
          try simp only [Act.put, List.setIfInBounds_toArray, List.set_cons_zero, List.set_cons_succ]
          refine wpAnyK_one (i := 4) rfl rfl (by kernel_rfl) (fun K9 hK => ?_)
          go_wp2_with fail
          refine hK.out _ _ (fun _ => HS.out _ hm6') fun _ => ?_
          clear hK
          try simp only [Act.put, List.setIfInBounds_toArray, List.set_cons_zero, List.set_cons_succ]
          refine wpAnyK_one (i := 5) rfl rfl (by kernel_rfl) (fun K9 hK => ?_)
          refine wp_append_lies _ _ _ _ rfl (w3.heap.size + 1) 24 i0 _ 5 64 Tryz.underlying22 hi0 hz0 hz1 hz2 rfl (by decide) (.slice B pl.length bc) pl.length xs rfl (hown5.alloc _) ⟨w5.heap.size, 0, none⟩ 1 1 [.int .i64 u.kind, .string u.name, .int .i64 u.n, .int .i64 u.place, .slice A u.parts.length (capF u.parts.length c)] rfl rfl
            (World.news_of_block (cs := #[.int .i64 u.kind, .string u.name, .int .i64 u.n, .int .i64 u.place, .slice A u.parts.length (capF u.parts.length c)]) (t := 24) (fr := (0, 0)) (heap_alloc_new w5 _)) (by simp [Value.oneCell']) (by omega) (by simp only [maxLen]; omega) (by omega) (by simp; omega) (w5.heap.size + 1) (by simp) ?_
          intro gg c3 w7 hown7 hg7 hat hltg
          have hB7 := hB6.grown hg7 (fun e => by have := (hlt5 _ e.symm).1; omega)
          have hT7 := hT6.grown hg7 (fun e => by have := (hlt5 _ e.symm).1; omega)
          have hR7 := hR6.grown hg7 (fun e => by have := (hlt5 _ e).1; omega) (fun e => by have := (hlt5 _ e).1; omega)
          have hm7 := hm6.grown hg7 (fun g hg => by have := (hlt5 _ hg).1; omega)
          have hs7 := hg7.size
          simp at hs7
          have hgg : w3.heap.size + 1 ≤ gg := by
            rcases hat with h | h
            · exact (hlt5 _ h).1
            · omega
          have hfar : ∀ b j, b < (w5.alloc (.cells #[.int .i64 u.kind, .string u.name, .int .i64 u.n, .int .i64 u.place, .slice A u.parts.length (capF u.parts.length c)] 24)).heap.size → ((w.heap.size + 1 ≤ b ∧ b ≠ w3.heap.size) ∧ some b ≠ (Value.slice B pl.length bc).ownBlock) → b ≠ gg → w7.cell? ⟨b, j, none⟩ = (w5.alloc (.cells #[.int .i64 u.kind, .string u.name, .int .i64 u.n, .int .i64 u.place, .slice A u.parts.length (capF u.parts.length c)] 24)).cell? ⟨b, j, none⟩ ∧ ((w.heap.size + 1 ≤ b ∧ b ≠ w3.heap.size) ∧ some b ≠ (Value.slice (some ⟨gg, 0, none⟩) (pl.length + 1) c3).ownBlock) := fun b j hb hX hne =>
            ⟨World.cell?_of_block (a := ⟨b, j, none⟩) (hg7.block b hb hX.2), hX.1, fun e => hne (Option.some.inj e)⟩
          have hbg : ∀ b, b < (w5.alloc (.cells #[.int .i64 u.kind, .string u.name, .int .i64 u.n, .int .i64 u.place, .slice A u.parts.length (capF u.parts.length c)] 24)).heap.size → some b ≠ (Value.slice B pl.length bc).ownBlock → b ≠ gg := fun b hb hne e => by
            rcases hat with h | h
            · exact hne (by rw [h, e])
            · simp at hb; omega
          have hrow7 : RowTr w7 (fun g => (w.heap.size + 1 ≤ g ∧ g ≠ w3.heap.size) ∧ some g ≠ (Value.slice (some ⟨gg, 0, none⟩) (pl.length + 1) c3).ownBlock) pl xs := hrow6.keep fun b j hX hb => hfar b j hb hX (hbg b hb hX.2)
          have hY7 : TIn w7 (fun g => (w.heap.size + 1 ≤ g ∧ g ≠ w3.heap.size) ∧ some g ≠ (Value.slice (some ⟨gg, 0, none⟩) (pl.length + 1) c3).ownBlock) u A := TIn.keep _ hY6 fun b j hX hb => hfar b j hb hX (hbg b hb hX.2)
          have hrow8 := hrow7.snoc (c := c) hY7
          have e4 := hB7.five.1.2.2.2.2
          have f4 := hB7.five.2.2.2.2.2
          have HFIN := Lib.hid (show Moves r w (w7.setCell ⟨w3.heap.size, 4, none⟩ (.slice (some ⟨gg, 0, none⟩) (pl.length + 1) c3)) ∧ Lies (w7.setCell ⟨w3.heap.size, 4, none⟩ (.slice (some ⟨gg, 0, none⟩) (pl.length + 1) c3)) w.heap.size 24 #[.int .i64 0, .string ⟨#[]⟩, .int .i64 0, .int .i64 0, .slice none 0 0] ∧
              Lies (w7.setCell ⟨w3.heap.size, 4, none⟩ (.slice (some ⟨gg, 0, none⟩) (pl.length + 1) c3)) w3.heap.size 24 #[.int .i64 6, .string nm, .int .i64 0, .int .i64 pc, .slice (some ⟨gg, 0, none⟩) (pl.length + 1) c3] ∧
              (w7.setCell ⟨w3.heap.size, 4, none⟩ (.slice (some ⟨gg, 0, none⟩) (pl.length + 1) c3)).ownsRow (w3.heap.size + 1) 24 5 (.slice (some ⟨gg, 0, none⟩) (pl.length + 1) c3) (pl.length + 1) (xs ++ cellsT u A c) ∧
              RowTr (w7.setCell ⟨w3.heap.size, 4, none⟩ (.slice (some ⟨gg, 0, none⟩) (pl.length + 1) c3)) (fun g => (w.heap.size + 1 ≤ g ∧ g ≠ w3.heap.size) ∧ some g ≠ (Value.slice (some ⟨gg, 0, none⟩) (pl.length + 1) c3).ownBlock) (pl ++ [u]) (xs ++ cellsT u A c) ∧ Rd (w7.setCell ⟨w3.heap.size, 4, none⟩ (.slice (some ⟨gg, 0, none⟩) (pl.length + 1) c3)) r Tb q5 e from
            ⟨hm7.put (by omega) 4 _, hT7.far (p := ⟨w3.heap.size, 4, none⟩) (by show w.heap.size ≠ w3.heap.size; omega) _, by simpa using hB7.put 4 (.slice (some ⟨gg, 0, none⟩) (pl.length + 1) c3), ownsRow_setCell_below hown7 (by show w3.heap.size < _; omega) _,
              hrow8.setCell ⟨w3.heap.size, 4, none⟩ _ (fun h => h.1.2 rfl), hR7.put (by omega) (by omega) 4 _⟩)
          clear hi0 hz0 hz1 hz2 hg7 hat hB6 hT6 hR6 hrow6 hY6 hm6 hown5 hT7 hR7 hm7 hrow7 hY7 hrow8 hfar hbg hown7
          refine hK.out _ _ (fun _ => e4) fun _ => ?_
          clear hK
          try simp only [Act.put, List.setIfInBounds_toArray]
          refine wpAnyK_one (i := 6) rfl rfl (by kernel_rfl) (fun K9 hK => ?_)
          go_wp2_with fail
          refine hK.out _ _ (fun _ => e4) fun _ => ?_
          clear hK
          try simp only [Act.put, List.setIfInBounds_toArray, List.set_cons_zero, List.set_cons_succ]
          refine wpAnyK_one (i := 7) rfl rfl (by kernel_rfl) (fun K9 hK => ?_)
          go_wp2_with fail
          refine hK.out _ _ (fun h => absurd rfl h) fun _ => ?_
          clear hK
          try simp only [Act.put, List.setIfInBounds_toArray, List.set_cons_zero, List.set_cons_succ]
          refine wpAnyK_done (by kernel_rfl) ?_ _
          go_wp2_with fail
          go_roundw
          case rel =>
            have hl : (pl ++ [u]).length = pl.length + 1 := by simp
            obtain ⟨k1, k2, k3, k4, k5, k6⟩ := HFIN.out
            exact ⟨n, pl ++ [u], q5, some ⟨gg, 0, none⟩, c3, xs ++ cellsT u A c, by omega, k1, k2, by rw [hl]; exact k3, by rw [hl]; exact k4, by rw [hl]; exact k5, by simp [World.setCell]; omega, k6, by omega, H5⟩
          case measure => rw [HFIN.out.2.2.2.2.2.rest, hRest]; exact hq5
end Lx
end Go.Proofs.YteabbkhlgnoliaaGreatDoor
namespace Go.Proofs.YteabbkhlgnoliaaGreatDoor
open Go.RowKit
namespace Lx
set_option maxRecDepth 100000
/-- A reading of fewer tokens than l has that is shorter behind. -/
def Eats (ex : List Tok → PR) (n : Nat) : Prop := ∀ l' t q, l'.length < n → ex l' = .ok (t, q) → q.length < l'.length
theorem appLoop_len {ex : List Tok → PR} {e at_ : Int} {m : Nat} (hex : Eats ex m) : ∀ (n : Nat) (t : Tr) (l : List Tok), l.length ≤ m → ∀ v q, appLoop ex e at_ n t l = .ok (v, q) → q.length ≤ l.length
  | 0, t, l, _, v, q, h => by simp only [appLoop, Except.ok.injEq, Prod.mk.injEq] at h; rw [← h.2]; exact Nat.le_refl _
  | n + 1, t, l, hl, v, q, h => by
    unfold appLoop at h
    by_cases ha : atomS (peekV l e) = true
    · rw [if_pos ha] at h
      cases h1 : atomV ex e l with
      | error p => rw [h1] at h; cases h
      | ok x =>
        obtain ⟨u, q1⟩ := x
        rw [h1] at h
        have n1 := atomV_len (fun l' t q h2 => hex l' t q (Nat.lt_of_lt_of_le h2 hl)) h1
        have := appLoop_len hex n _ q1 (by omega) v q h
        omega
    · rw [if_neg ha] at h
      simp only [Except.ok.injEq, Prod.mk.injEq] at h
      rw [← h.2]; exact Nat.le_refl _
theorem conLoop_len {ex : List Tok → PR} {e : Int} {nm : ByteArray} {pc : Int} {m : Nat} (hex : Eats ex m) : ∀ (n : Nat) (pl : List Tr) (l : List Tok), l.length ≤ m → ∀ v q, conLoop ex e nm pc n pl l = .ok (v, q) → q.length ≤ l.length
  | 0, pl, l, _, v, q, h => by simp only [conLoop, Except.ok.injEq, Prod.mk.injEq] at h; rw [← h.2]; exact Nat.le_refl _
  | n + 1, pl, l, hl, v, q, h => by
    unfold conLoop at h
    by_cases ha : atomS (peekV l e) = true
    · rw [if_pos ha] at h
      cases h1 : atomV ex e l with
      | error p => rw [h1] at h; cases h
      | ok x =>
        obtain ⟨u, q1⟩ := x
        rw [h1] at h
        have n1 := atomV_len (fun l' t q h2 => hex l' t q (Nat.lt_of_lt_of_le h2 hl)) h1
        have := conLoop_len hex n _ q1 (by omega) v q h
        omega
    · rw [if_neg ha] at h
      simp only [Except.ok.injEq, Prod.mk.injEq] at h
      rw [← h.2]; exact Nat.le_refl _
theorem conP_len {ex : List Tok → PR} {e : Int} {m : Nat} (hex : Eats ex m) {l : List Tok} (hl : l.length ≤ m) {v : Tr} {q : List Tok} (h : conP ex e l = .ok (v, q)) : q.length < l.length := by
  cases l with
  | nil => cases h
  | cons t r =>
    simp only [conP] at h
    simp only [List.length_cons] at hl ⊢
    have := conLoop_len hex 8 [] r (by omega) v q h
    omega
theorem appV_len {ex : List Tok → PR} {e : Int} {m : Nat} (hex : Eats ex m) {l : List Tok} (hl : l.length ≤ m) {v : Tr} {q : List Tok} (h : appV (conP ex e) ex e l = .ok (v, q)) : q.length < l.length := by
  unfold appV at h
  by_cases hk : (peekV l e).kind = 2
  · rw [if_pos hk] at h
    exact conP_len hex hl h
  · rw [if_neg hk] at h
    cases h1 : atomV ex e l with
    | error p => rw [h1] at h; cases h
    | ok x =>
      obtain ⟨u, q1⟩ := x
      rw [h1] at h
      have n1 := atomV_len (fun l' t q h2 => hex l' t q (Nat.lt_of_lt_of_le h2 hl)) h1
      have := appLoop_len hex (q1.length + 1) u q1 (by omega) v q h
      omega
theorem rowLoop_len {sd : List Tok → PR} {ss : List ByteArray} {e at_ : Int} {m : Nat} (hsd : ∀ l' t q, l'.length ≤ m → sd l' = .ok (t, q) → q.length < l'.length) : ∀ (n : Nat) (t : Tr) (l : List Tok), l.length ≤ m → ∀ v q, rowLoop sd ss e at_ n t l = .ok (v, q) → q.length ≤ l.length
  | 0, t, l, _, v, q, h => by simp only [rowLoop, Except.ok.injEq, Prod.mk.injEq] at h; rw [← h.2]; exact Nat.le_refl _
  | n + 1, t, l, hl, v, q, h => by
    unfold rowLoop at h
    by_cases ha : hasS ss ⟨(peekV l e).text.toArray⟩ = true
    · rw [if_pos ha] at h
      cases h1 : opP sd at_ t l with
      | error p => rw [h1] at h; cases h
      | ok x =>
        obtain ⟨u, q1⟩ := x
        rw [h1] at h
        have n1 := opP_len (fun l' t q h2 => hsd l' t q (by omega)) h1
        have := rowLoop_len hsd n u q1 (by omega) v q h
        omega
    · rw [if_neg ha] at h
      simp only [Except.ok.injEq, Prod.mk.injEq] at h
      rw [← h.2]; exact Nat.le_refl _
theorem rowV_len {sd : List Tok → PR} {ss : List ByteArray} {e : Int} {m : Nat} (hsd : ∀ l' t q, l'.length ≤ m → sd l' = .ok (t, q) → q.length < l'.length) {l : List Tok} (hl : l.length ≤ m) {v : Tr} {q : List Tok} (h : rowV sd ss e l = .ok (v, q)) : q.length < l.length := by
  unfold rowV at h
  cases h1 : sd l with
  | error p => rw [h1] at h; cases h
  | ok x =>
    obtain ⟨u, q1⟩ := x
    rw [h1] at h
    have n1 := hsd l u q1 hl h1
    have := rowLoop_len hsd (q1.length + 1) u q1 (by omega) v q h
    omega
theorem cmpV_len {sd : List Tok → PR} {e : Int} {m : Nat} (hsd : ∀ l' t q, l'.length ≤ m → sd l' = .ok (t, q) → q.length < l'.length) {l : List Tok} (hl : l.length ≤ m) {v : Tr} {q : List Tok} (h : cmpV sd e l = .ok (v, q)) : q.length < l.length := by
  unfold cmpV at h
  cases h1 : sd l with
  | error p => rw [h1] at h; cases h
  | ok x =>
    obtain ⟨u, q1⟩ := x
    rw [h1] at h
    simp only at h
    have n1 := hsd l u q1 hl h1
    split at h
    · have := opP_len (fun l' t q h2 => hsd l' t q (by omega)) h
      omega
    · simp only [Except.ok.injEq, Prod.mk.injEq] at h
      rw [← h.2]; exact n1
/-- Sums, by what expr reads of fewer tokens. -/
def sumV (ex : List Tok → PR) (e : Int) : List Tok → PR := rowV (rowV (appV (conP ex e) ex e) [⟨#[42]⟩, ⟨#[47]⟩] e) [⟨#[43]⟩, ⟨#[45]⟩] e
theorem sumV_len {ex : List Tok → PR} {e : Int} {m : Nat} (hex : Eats ex m) : ∀ l' t q, l'.length ≤ m → sumV ex e l' = .ok (t, q) → q.length < l'.length := fun _l' _t _q hl h =>
  rowV_len (m := m) (fun _l2 _t2 _q2 h2 hh => rowV_len (m := m) (fun _l3 _t3 _q3 h3 hhh => appV_len hex h3 hhh) h2 hh) hl h
end Lx
end Go.Proofs.YteabbkhlgnoliaaGreatDoor
namespace Go.Proofs.YteabbkhlgnoliaaGreatDoor
open Go.RowKit
namespace Lx
set_option maxRecDepth 100000
/-- What expr answers of fewer tokens than m. -/
def Less (r Tb : Nat) (e : Int) (ex : List Tok → PR) (m : Nat) : Prop := ∀ (l' : List Tok) (w' : World), l'.length < m → Rd w' r Tb l' e → Calls Tryz.prog 67 #[.pointer (some ⟨r, 0, none⟩)] w' fun x w'' => PPost w' r Tb e (ex l') x w''
theorem app_ex (r Tb : Nat) (e : Int) (ex : List Tok → PR) (m : Nat) (hex : Less r Tb e ex m) (hxl : Eats ex m) (l : List Tok) (hl : l.length ≤ m) (w : World) (hR : Rd w r Tb l e) :
    Calls Tryz.prog 181 #[.pointer (some ⟨r, 0, none⟩)] w fun x w' => PPost w r Tb e (appV (conP ex e) ex e l) x w' := by
  refine app_any r Tb e (conP ex e) ex l w hR (fun l' w' h => hex l' w' (Nat.lt_of_lt_of_le h hl)) (fun l' t q h => hxl l' t q (Nat.lt_of_lt_of_le h hl)) fun w' hk hR' => ?_
  cases l with
  | nil => simp [peekV] at hk
  | cons t q =>
    exact con_any r Tb e ex t q w' hR' hk (hR'.par t (by simp) hk) (fun l' w' h => hex l' w' (Nat.lt_of_lt_of_le h hl)) (fun l' t q h => hxl l' t q (Nat.lt_of_lt_of_le h hl))
theorem prod_ex (r Tb : Nat) (e : Int) (ex : List Tok → PR) (m : Nat) (hex : Less r Tb e ex m) (hxl : Eats ex m) (l : List Tok) (hl : l.length ≤ m) (w : World) (hR : Rd w r Tb l e) :
    Calls Tryz.prog 171 #[.pointer (some ⟨r, 0, none⟩)] w fun x w' => PPost w r Tb e (rowV (appV (conP ex e) ex e) [⟨#[42]⟩, ⟨#[47]⟩] e l) x w' :=
  prod_any r Tb e _ l w hR (fun l' w' h hR' => app_ex r Tb e ex m hex hxl l' (Nat.le_trans h hl) w' hR') (fun _l' _t _q h hh => appV_len hxl (Nat.le_trans h hl) hh)
theorem sum_ex (r Tb : Nat) (e : Int) (ex : List Tok → PR) (m : Nat) (hex : Less r Tb e ex m) (hxl : Eats ex m) (l : List Tok) (hl : l.length ≤ m) (w : World) (hR : Rd w r Tb l e) :
    Calls Tryz.prog 147 #[.pointer (some ⟨r, 0, none⟩)] w fun x w' => PPost w r Tb e (sumV ex e l) x w' :=
  sum_any r Tb e _ l w hR (fun l' w' h hR' => prod_ex r Tb e ex m hex hxl l' (Nat.le_trans h hl) w' hR') (fun _l' _t _q h hh => rowV_len (m := m) (fun _l2 _t2 _q2 h2 hh2 => appV_len hxl h2 hh2) (Nat.le_trans h hl) hh)
theorem cmp_ex (r Tb : Nat) (e : Int) (ex : List Tok → PR) (m : Nat) (hex : Less r Tb e ex m) (hxl : Eats ex m) (l : List Tok) (hl : l.length ≤ m) (w : World) (hR : Rd w r Tb l e) :
    Calls Tryz.prog 106 #[.pointer (some ⟨r, 0, none⟩)] w fun x w' => PPost w r Tb e (cmpV (sumV ex e) e l) x w' :=
  cmp_any r Tb e _ l w hR (fun l' w' h hR' => sum_ex r Tb e ex m hex hxl l' (Nat.le_trans h hl) w' hR') (fun l' t q h hh => sumV_len hxl l' t q (Nat.le_trans h hl) hh)
end Lx
end Go.Proofs.YteabbkhlgnoliaaGreatDoor
