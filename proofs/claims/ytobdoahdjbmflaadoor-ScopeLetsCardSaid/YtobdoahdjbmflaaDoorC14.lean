/-
  Texts that lie one behind the other: GRes GExp GSign GErr GStore GAtom.
-/
import Derived.Test.YtobdoahdjbmflaaDoorC13
import Derived.Test.YtobdoahdjbmflaaDoorC4
import Derived.StillTailTactics
import Derived.Deep.MidRow
namespace Go.Proofs.YtobdoahdjbmflaaDoor
open Go.RowKit
namespace Lx
set_option maxRecDepth 100000
theorem text_mk (l : List UInt8) : (⟨l.toArray⟩ : ByteArray).toList = l := ByteArray.toList_mk l
theorem kAt_of {l : List Tok} {i : Nat} (h : i < l.length) : kAt l i = (l[i]'h).kind := by unfold kAt; rw [List.getElem?_eq_getElem h]
theorem kAt_no {l : List Tok} {i : Nat} (h : ¬ i < l.length) : kAt l i = 0 := by unfold kAt; rw [List.getElem?_eq_none (by omega)]
theorem xAt_of {l : List Tok} {i : Nat} (h : i < l.length) : xAt l i = if 4 ≤ (l[i]'h).kind then (l[i]'h).text else [] := by unfold xAt; rw [List.getElem?_eq_getElem h]
theorem xAt_no {l : List Tok} {i : Nat} (h : ¬ i < l.length) : xAt l i = [] := by unfold xAt; rw [List.getElem?_eq_none (by omega)]
/-- Token i, in memory. -/
theorem Row.get {w : World} {A : Option Addr} {l : List Tok} (h : Row w A l) {i : Nat} (hi : i < l.length) :
    ∃ g o, A = some ⟨g, o, none⟩ ∧ w.cell? ⟨g, o + i * 4, none⟩ = some (.int .i64 (kAt l i)) ∧ w.cell? ⟨g, o + i * 4 + 1, none⟩ = some (.string (nmAt l i)) ∧ w.cell? ⟨g, o + i * 4 + 2, none⟩ = some (.int .i64 (nuAt l i)) ∧ w.cell? ⟨g, o + i * 4 + 3, none⟩ = some (.int .i64 (plAt l i)) := by
  obtain ⟨g, o, hA, c0, c1, c2, c3⟩ := h.at_ hi
  refine ⟨g, o, hA, ?_, ?_, ?_, ?_⟩
  · rw [kAt_of hi]; exact c0
  · unfold nmAt; rw [List.getElem?_eq_getElem hi]; exact c1
  · unfold nuAt; rw [List.getElem?_eq_getElem hi]; exact c2
  · unfold plAt; rw [List.getElem?_eq_getElem hi]; exact c3
theorem xAt_get {l : List Tok} {i : Nat} (h : i < l.length) : xAt l i = if 4 ≤ kAt l i then (nmAt l i).toList else [] := by
  rw [xAt_of h, kAt_of h]
  unfold nmAt
  rw [List.getElem?_eq_getElem h, text_mk]
set_option maxHeartbeats 1000000 in
theorem gkind_any (l : List Tok) (A : Option Addr) (n c i : Nat) (w : World) (hn : n = l.length) (_hi : i ≤ 70000) (_hn6 : n ≤ 60000) (hR : Row w A l) :
    Calls Tryd.prog 70 #[.slice A n c, .int .i64 i] w fun e w' => e = .returned (.int .i64 (kAt l i)) ∧ w = w' := by
  by_cases hlt : i < n
  · obtain ⟨g, o, rfl, c0, c1, c2, c3⟩ := hR.get (i := i) (by omega)
    clear hR hn
    obtain ⟨K, hK⟩ : ∃ K, K = kAt l i := ⟨_, rfl⟩
    rw [← hK] at c0 ⊢
    clear hK c1 c2 c3
    go_enter Tryd.func70, Tryd.ntmps70
    go_wp2_with fail
    go_ret
    exact ⟨rfl, rfl⟩
  · have HE := Lib.hid (kAt_no (l := l) (i := i) (by omega))
    clear hR hn
    go_enter Tryd.func70, Tryd.ntmps70
    go_wp2_with fail
    go_ret
    exact ⟨ret_int HE.out.symm, rfl⟩
theorem ret_str {a b : ByteArray} (h : a = b) : Ending.returned (.string a) = .returned (.string b) := by rw [h]
theorem bytes_ext {a b : ByteArray} (h : a.toList = b.toList) : a = b := by
  rw [data_list, data_list] at h
  obtain ⟨⟨a⟩⟩ := a
  obtain ⟨⟨b⟩⟩ := b
  simp at h
  rw [h]
set_option maxHeartbeats 1000000 in
theorem gtext_any (l : List Tok) (A : Option Addr) (n c i : Nat) (w : World) (hn : n = l.length) (_hi : i ≤ 70000) (_hn6 : n ≤ 60000) (hR : Row w A l) :
    Calls Tryd.prog 42 #[.slice A n c, .int .i64 i] w fun e w' => e = .returned (.string ⟨(xAt l i).toArray⟩) ∧ w = w' := by
  by_cases hlt : i < n
  · obtain ⟨g, o, rfl, c0, c1, c2, c3⟩ := hR.get (i := i) (by omega)
    have hx := xAt_get (l := l) (i := i) (by omega)
    clear hR hn
    obtain ⟨K, hK⟩ : ∃ K, K = kAt l i := ⟨_, rfl⟩
    obtain ⟨S, hS⟩ : ∃ S, S = nmAt l i := ⟨_, rfl⟩
    rw [← hK] at c0 hx
    rw [← hS] at c1 hx
    clear hK hS c2 c3
    by_cases h4 : 4 ≤ K
    · rw [if_pos h4] at hx
      have HX := Lib.hid hx
      clear hx
      go_enter Tryd.func42, Tryd.ntmps42
      go_wp2_with fail
      go_ret
      exact ⟨ret_str (bytes_ext (HX.out.symm.trans (text_mk _).symm)), rfl⟩
    · rw [if_neg h4] at hx
      have HX := Lib.hid hx
      have h4' : ¬ 4 ≤ K := h4
      clear hx h4
      go_enter Tryd.func42, Tryd.ntmps42
      go_wp2_with fail
      go_ret
      exact ⟨ret_str (by rw [HX.out]), rfl⟩
  · have HE := Lib.hid (xAt_no (l := l) (i := i) (by omega))
    clear hR hn
    go_enter Tryd.func42, Tryd.ntmps42
    go_wp2_with fail
    go_ret
    exact ⟨ret_str (by rw [HE.out]), rfl⟩
/-- What a reading answers, as a value. -/
def gv (t : Tr) (A : Option Addr) (c j : Nat) (ok : Bool) : Value := .agg #[.int .i64 t.kind, .string t.name, .int .i64 t.n, .int .i64 t.place, .slice A t.parts.length (capF t.parts.length c), .int .i64 j, .bool ok]
def noTr : Tr := .node 0 ⟨#[]⟩ 0 0 []
def GPost (w : World) (r : GR) (e : Ending) (w' : World) : Prop :=
  Below w.heap.size w w' ∧ (∀ j, r = .error j → e = .returned (gv noTr none 0 j false)) ∧ (∀ t j, r = .ok (t, j) → ∃ A c, e = .returned (gv t A c j true) ∧ TIn w' (fun g => w.heap.size ≤ g) t A)
abbrev zero7 : Array Value := #[.int .i64 0, .string ⟨#[]⟩, .int .i64 0, .int .i64 0, .slice none 0 0, .int .i64 0, .bool false]
theorem res_got {fn : Func} {p : Tmp} (h : fn.results = #[.cell p 61]) {tmps : Array Value} {g : Nat} {a b c d e x y : Value} {w : World} (hp : tmps.getD p undef = .pointer (some ⟨g, 0, none⟩)) (L : Lies w g 61 #[a, b, c, d, e, x, y]) :
    (results fn tmps).run Tryd.prog w = .ok (.agg #[a, b, c, d, e, x, y]) w := by
  have hl := run_loadVar_row (P := Tryd.prog) w g 61 61 #[a, b, c, d, e, x, y] (0, 0) _ L Tryd.underlying61 rfl (by kernel_rfl)
  have hp' : tmps[p]?.getD undef = .pointer (some ⟨g, 0, none⟩) := by simpa using hp
  simp only [results, h]
  simp [hp', asAddr, hl]
theorem Lies.seven {w : World} {g : Nat} {t : TypeId} {a b c d e x y : Value} (h : Lies w g t #[a, b, c, d, e, x, y]) :
    (w.cell? ⟨g, 0, none⟩ = some a ∧ w.cell? ⟨g, 1, none⟩ = some b ∧ w.cell? ⟨g, 2, none⟩ = some c ∧ w.cell? ⟨g, 3, none⟩ = some d ∧ w.cell? ⟨g, 4, none⟩ = some e ∧ w.cell? ⟨g, 5, none⟩ = some x ∧ w.cell? ⟨g, 6, none⟩ = some y) ∧
    w.frozen? ⟨g, 0, none⟩ = false ∧ w.frozen? ⟨g, 1, none⟩ = false ∧ w.frozen? ⟨g, 2, none⟩ = false ∧ w.frozen? ⟨g, 3, none⟩ = false ∧ w.frozen? ⟨g, 4, none⟩ = false ∧ w.frozen? ⟨g, 5, none⟩ = false ∧ w.frozen? ⟨g, 6, none⟩ = false :=
  ⟨⟨h.cell 0, h.cell 1, h.cell 2, h.cell 3, h.cell 4, h.cell 5, h.cell 6⟩, h.frozen 0, h.frozen 1, h.frozen 2, h.frozen 3, h.frozen 4, h.frozen 5, h.frozen 6⟩
/-- Seven stores into a block of the call's own. -/
abbrev put7 (w : World) (g : Nat) (a b c d e x y : Value) : World := (((((((w.setCell ⟨g, 0, none⟩ a).setCell ⟨g, 1, none⟩ b).setCell ⟨g, 2, none⟩ c).setCell ⟨g, 3, none⟩ d).setCell ⟨g, 4, none⟩ e).setCell ⟨g, 5, none⟩ x).setCell ⟨g, 6, none⟩ y)
theorem Lies.all7 {w : World} {g : Nat} {t : TypeId} {a b c d e x y : Value} (h : Lies w g t #[a, b, c, d, e, x, y]) (a' b' c' d' e' x' y' : Value) : Lies (put7 w g a' b' c' d' e' x' y') g t #[a', b', c', d', e', x', y'] := by
  simpa using ((((((h.put 0 a').put 1 b').put 2 c').put 3 d').put 4 e').put 5 x').put 6 y'
theorem Below.all7 {B : Nat} {a w : World} (h : Below B a w) {g : Nat} (hg : B ≤ g) (a' b' c' d' e' x' y' : Value) : Below B a (put7 w g a' b' c' d' e' x' y') :=
  ((((((h.setCell (p := ⟨g, 0, none⟩) hg a').setCell (p := ⟨g, 1, none⟩) hg b').setCell (p := ⟨g, 2, none⟩) hg c').setCell (p := ⟨g, 3, none⟩) hg d').setCell (p := ⟨g, 4, none⟩) hg e').setCell (p := ⟨g, 5, none⟩) hg x').setCell (p := ⟨g, 6, none⟩) hg y'
theorem TIn.all7 (t : Tr) {w : World} {X : Nat → Prop} {A : Option Addr} (h : TIn w X t A) {g : Nat} (hg : ¬ X g) (a' b' c' d' e' x' y' : Value) : TIn (put7 w g a' b' c' d' e' x' y') X t A :=
  TIn.setCell _ (TIn.setCell _ (TIn.setCell _ (TIn.setCell _ (TIn.setCell _ (TIn.setCell _ (TIn.setCell _ h ⟨g, 0, none⟩ a' hg) ⟨g, 1, none⟩ b' hg) ⟨g, 2, none⟩ c' hg) ⟨g, 3, none⟩ d' hg) ⟨g, 4, none⟩ e' hg) ⟨g, 5, none⟩ x' hg) ⟨g, 6, none⟩ y' hg
set_option maxHeartbeats 1000000 in
theorem gno_any (j : Nat) (w : World) : Calls Tryd.prog 71 #[.int .i64 j] w fun e w' => e = .returned (gv noTr none 0 j false) ∧ Below w.heap.size w w' := by
  go_enter Tryd.func71, Tryd.ntmps71
  go_wp2_with fail
  exact bodyPost_ret (res_got (p := 2) Tryd.results71 rfl (Lies.new w _ _)) rfl ⟨rfl, (Below.refl _ w).alloc (Nat.le_refl _) _⟩
set_option maxHeartbeats 1000000 in
theorem gyes_any (k n a : Int) (s : ByteArray) (A : Option Addr) (m c j : Nat) (w : World) : Calls Tryd.prog 72 #[.agg #[.int .i64 k, .string s, .int .i64 n, .int .i64 a, .slice A m c], .int .i64 j] w
    fun e w' => e = .returned (.agg #[.int .i64 k, .string s, .int .i64 n, .int .i64 a, .slice A m c, .int .i64 j, .bool true]) ∧ Below w.heap.size w w' := by
  go_enter Tryd.func72, Tryd.ntmps72
  go_wp2_with fail
  have L := Lies.new (w.alloc (.cells #[.int .i64 k, .string s, .int .i64 n, .int .i64 a, .slice A m c] 24)) 61 #[.int .i64 k, .string s, .int .i64 n, .int .i64 a, .slice A m c, .int .i64 j, .bool true]
  rw [show (w.alloc (.cells #[.int .i64 k, .string s, .int .i64 n, .int .i64 a, .slice A m c] 24)).heap.size = w.heap.size + 1 from by simp] at L
  exact bodyPost_ret (res_got (p := 4) Tryd.results72 rfl L) rfl ⟨rfl, ((Below.refl _ w).alloc (Nat.le_refl _) _).alloc (by simp) _⟩
theorem bytes_eq (l m : List UInt8) : ((⟨l.toArray⟩ : ByteArray).toList == (⟨m.toArray⟩ : ByteArray).toList) = (l == m) := by rw [text_mk, text_mk]
set_option maxHeartbeats 2000000 in
theorem gatomic_any (l : List Tok) (A : Option Addr) (n c i : Nat) (w : World) (hn : n = l.length) (hi : i ≤ 70000) (hn6 : n ≤ 60000) (hR : Row w A l) :
    Calls Tryd.prog 85 #[.slice A n c, .int .i64 i] w fun e w' => e = .returned (.bool (atomicA l i)) ∧ w = w' := by
  have HK := Lib.hid (gkind_any l A n c i w hn hi hn6 hR)
  have HT := Lib.hid (gtext_any l A n c i w hn hi hn6 hR)
  have HE : Hid (atomicA l i = ((decide (1 ≤ kAt l i) && decide (kAt l i ≤ 3)) || xAt l i == [40])) := by exact rfl
  obtain ⟨K, hK⟩ : ∃ K, K = kAt l i := ⟨_, rfl⟩
  obtain ⟨X, hX⟩ : ∃ X, X = xAt l i := ⟨_, rfl⟩
  rw [← hK] at HK HE
  rw [← hX] at HT HE
  have HX2 := Lib.hid (text_mk X)
  clear hK hX hR hn
  by_cases h1 : 1 ≤ K
  · by_cases h3 : K ≤ 3
    · go_enter Tryd.func85, Tryd.ntmps85
      go_wp2_with fail
      refine HK.out.mono ?_
      rintro e w' ⟨rfl, rfl⟩
      go_wp2_with fail
      go_ret
      exact ⟨ret_bool (by rw [HE.out, decide_eq_true (by omega : 1 ≤ K), decide_eq_true (by omega : K ≤ 3)]; rfl), rfl⟩
    · have h3' : ¬ K ≤ 3 := h3
      by_cases hx : X = [40]
      · subst hx
        go_enter Tryd.func85, Tryd.ntmps85
        go_wp2_with fail
        refine HK.out.mono ?_
        rintro e w' ⟨rfl, rfl⟩
        go_wp2_with fail
        refine HT.out.mono ?_
        rintro e w' ⟨rfl, rfl⟩
        go_wp2_with fail
        go_ret
        exact ⟨ret_bool (by rw [HE.out]; exact (Bool.or_true _).symm), rfl⟩
      · have hx2 : ¬ [40] = X := fun e => hx e.symm
        have hx3 : ¬ (⟨X.toArray⟩ : ByteArray).toList = [40] := by rw [text_mk]; exact hx
        go_enter Tryd.func85, Tryd.ntmps85
        go_wp2_with fail
        refine HK.out.mono ?_
        rintro e w' ⟨rfl, rfl⟩
        go_wp2_with fail
        refine HT.out.mono ?_
        rintro e w' ⟨rfl, rfl⟩
        go_wp2_with fail
        go_ret
        exact ⟨ret_bool (by rw [HE.out, decide_eq_false (by omega : ¬ K ≤ 3), Bool.and_false]), rfl⟩
  · have h1' : ¬ 1 ≤ K := h1
    by_cases hx : X = [40]
    · subst hx
      go_enter Tryd.func85, Tryd.ntmps85
      go_wp2_with fail
      refine HK.out.mono ?_
      rintro e w' ⟨rfl, rfl⟩
      go_wp2_with fail
      refine HT.out.mono ?_
      rintro e w' ⟨rfl, rfl⟩
      go_wp2_with fail
      go_ret
      exact ⟨ret_bool (by rw [HE.out]; exact (Bool.or_true _).symm), rfl⟩
    · have hx2 : ¬ [40] = X := fun e => hx e.symm
      have hx3 : ¬ (⟨X.toArray⟩ : ByteArray).toList = [40] := by rw [text_mk]; exact hx
      go_enter Tryd.func85, Tryd.ntmps85
      go_wp2_with fail
      refine HK.out.mono ?_
      rintro e w' ⟨rfl, rfl⟩
      go_wp2_with fail
      refine HT.out.mono ?_
      rintro e w' ⟨rfl, rfl⟩
      go_wp2_with fail
      go_ret
      exact ⟨ret_bool (by rw [HE.out, decide_eq_false (by omega : ¬ 1 ≤ K), Bool.false_and, Bool.false_or]), rfl⟩
theorem gkind_at (l : List Tok) (A : Option Addr) (n c i : Nat) (x : Int) (w : World) (hx : x = (i : Int)) (hn : n = l.length) (hi : i ≤ 70000) (hn6 : n ≤ 60000) (hR : Row w A l) :
    Calls Tryd.prog 70 #[.slice A n c, .int .i64 x] w fun e w' => e = .returned (.int .i64 (kAt l i)) ∧ w = w' := by
  subst hx; exact gkind_any l A n c i w hn hi hn6 hR
theorem gtext_at (l : List Tok) (A : Option Addr) (n c i : Nat) (x : Int) (w : World) (hx : x = (i : Int)) (hn : n = l.length) (hi : i ≤ 70000) (hn6 : n ≤ 60000) (hR : Row w A l) :
    Calls Tryd.prog 42 #[.slice A n c, .int .i64 x] w fun e w' => e = .returned (.string ⟨(xAt l i).toArray⟩) ∧ w = w' := by
  subst hx; exact gtext_any l A n c i w hn hi hn6 hR
theorem gno_at (j : Nat) (x : Int) (w : World) (hx : x = (j : Int)) : Calls Tryd.prog 71 #[.int .i64 x] w fun e w' => e = .returned (gv noTr none 0 j false) ∧ Below w.heap.size w w' := by
  subst hx; exact gno_any j w
theorem gyes_at (k n a : Int) (s : ByteArray) (A : Option Addr) (m c j : Nat) (x : Int) (w : World) (hx : x = (j : Int)) : Calls Tryd.prog 72 #[.agg #[.int .i64 k, .string s, .int .i64 n, .int .i64 a, .slice A m c], .int .i64 x] w
    fun e w' => e = .returned (.agg #[.int .i64 k, .string s, .int .i64 n, .int .i64 a, .slice A m c, .int .i64 j, .bool true]) ∧ Below w.heap.size w w' := by
  subst hx; exact gyes_any k n a s A m c j w
/-- What a function of the reference's parser promises, with so much fuel. -/
def GC (F : FuncId) (l : List Tok) (A : Option Addr) (n c rank : Nat) (g : Nat → List Tok → Nat → GR) (f : Nat) : Prop :=
  ∀ (i : Nat) (x : Int) (w : World), x = (i : Int) → i ≤ n + 8 → 8 * (n - i) + rank ≤ f → Row w A l → Calls Tryd.prog F #[.slice A n c, .int .i64 x] w (GPost w (g f l i))
/-- The tokens: as many as there are, not too long. -/
structure GTok (l : List Tok) (n : Nat) : Prop where
  len : n = l.length
  few : n ≤ 60000
  small : ∀ i, (nmAt l i).size ≤ 140737488351232
theorem below_seven {w : World} : Below w.heap.size w (w.alloc (.cells zero7 61)) := (Below.refl _ w).alloc (Nat.le_refl _) _
/-- The end: what was answered is laid into the result's block. -/
theorem gpost_err {w V : World} {j : Nat} {r : GR} (hr : r = .error j) (hb : Below w.heap.size w V) : GPost w r (.returned (gv noTr none 0 j false)) (put7 V w.heap.size (.int .i64 0) (.string ⟨#[]⟩) (.int .i64 0) (.int .i64 0) (.slice none 0 0) (.int .i64 j) (.bool false)) := by
  subst hr
  exact ⟨Below.all7 hb (Nat.le_refl _) _ _ _ _ _ _ _, fun j' h => by cases h; rfl, fun t j' h => by cases h⟩
theorem gpost_ok {w V : World} {t : Tr} {A : Option Addr} {c j : Nat} {r : GR} (hr : r = .ok (t, j)) (hb : Below w.heap.size w V) (hT : TIn V (fun g => w.heap.size + 1 ≤ g) t A) :
    GPost w r (.returned (gv t A c j true)) (put7 V w.heap.size (.int .i64 t.kind) (.string t.name) (.int .i64 t.n) (.int .i64 t.place) (.slice A t.parts.length (capF t.parts.length c)) (.int .i64 j) (.bool true)) := by
  subst hr
  refine ⟨Below.all7 hb (Nat.le_refl _) _ _ _ _ _ _ _, fun j' h => (by cases h), fun t' j' h => ?_⟩
  cases h
  refine ⟨A, c, rfl, ?_⟩
  exact TIn.wide _ (TIn.all7 _ hT (g := w.heap.size) (by omega) _ _ _ _ _ _ _) (fun g h _ => by omega)
end Lx
end Go.Proofs.YtobdoahdjbmflaaDoor
namespace Go.Proofs.YtobdoahdjbmflaaDoor
open Go.RowKit
namespace Lx
set_option maxRecDepth 100000
theorem GPost.with_ {w V V' : World} {r : GR} {e : Ending} (h : GPost V r e V') (hb : Below w.heap.size w V) : GPost w r e V' :=
  ⟨hb.trans (h.1.mono hb.size), h.2.1, fun t j hr => by
    obtain ⟨A, c, he, hT⟩ := h.2.2 t j hr
    exact ⟨A, c, he, TIn.wide _ hT (fun g hg _ => Nat.le_trans hb.size hg)⟩⟩
theorem GPost.split {w V : World} {r : GR} {e : Ending} (h : GPost w r e V) :
    (∃ j, r = .error j ∧ e = .returned (.agg #[.int .i64 0, .string ⟨#[]⟩, .int .i64 0, .int .i64 0, .slice none 0 0, .int .i64 j, .bool false])) ∨
    (∃ t j A c, r = .ok (t, j) ∧ e = .returned (.agg #[.int .i64 t.kind, .string t.name, .int .i64 t.n, .int .i64 t.place, .slice A t.parts.length (capF t.parts.length c), .int .i64 j, .bool true]) ∧ TIn V (fun g => w.heap.size ≤ g) t A) := by
  rcases hr : r with j | ⟨t, j⟩
  · exact .inl ⟨j, rfl, h.2.1 j hr⟩
  · obtain ⟨A, c, he, hT⟩ := h.2.2 t j hr
    exact .inr ⟨t, j, A, c, rfl, he, hT⟩
/-- What ops promises at a level. -/
def GCO (l : List Tok) (A : Option Addr) (n c f : Nat) (lev : Nat) : Prop :=
  ∀ (i : Nat) (x y : Int) (w : World), x = (i : Int) → y = (lev : Int) → i ≤ n + 8 → 8 * (n - i) + (6 - lev) ≤ f → Row w A l → Calls Tryd.prog 46 #[.slice A n c, .int .i64 x, .int .i64 y] w (GPost w (gOps f l i lev))
theorem bytes_ne {l m : List UInt8} (h : ¬ l = m) : ¬ (⟨l.toArray⟩ : ByteArray).toList = m := by rw [text_mk]; exact h
theorem Row.at_new {w : World} {A : Option Addr} {l : List Tok} (h : Row w A l) {V : World} (hb : Below w.heap.size w V) : Row V A l := h.below (B := w.heap.size) hb (Nat.le_refl _)
set_option maxHeartbeats 4000000 in
theorem gexpr_any {l : List Tok} {A : Option Addr} {n c f : Nat} (T : GTok l n) (HL : GC 43 l A n c 6 gLam f) (HT : GC 44 l A n c 6 gLet f) (HM : ∀ (i : Nat) (x : Int) (w : World), x = (i : Int) → i < n → 8 * (n - i) + 6 ≤ f → Row w A l → Calls Tryd.prog 45 #[.slice A n c, .int .i64 x] w (GPost w (gMatch f l i))) (HO : GCO l A n c f 0) :
    GC 26 l A n c 7 gExpr (f + 1) := by
  intro i x w hx hi hf hR
  subst hx
  have h6 := T.few
  have hb0 := below_seven (w := w)
  have hR1 := hR.at_new hb0
  have HX := Lib.hid (gtext_any l A n c i (w.alloc (.cells zero7 61)) T.len (by omega) h6 hR1)
  obtain ⟨X, hX⟩ : ∃ X, X = xAt l i := ⟨_, rfl⟩
  have HX2 := Lib.hid (text_mk X)
  rw [← hX] at HX
  by_cases h1 : X = [92]
  · have HC1 := Lib.hid (HL i i (w.alloc (.cells zero7 61)) rfl hi (by omega) hR1)
    subst h1
    have HE : Hid (gExpr (f + 1) l i = gLam f l i) := by
      refine Lib.hid ?_
      rw [gExpr]
      rw [← hX]; rfl
    clear T
    obtain ⟨r, hr⟩ : ∃ r, r = gLam f l i := ⟨_, rfl⟩
    rw [← hr] at HE HC1
    clear hr hX
    go_enter Tryd.func26, Tryd.ntmps26
    go_wp2_with fail
    refine HX.out.mono ?_
    rintro e w' ⟨rfl, rfl⟩
    go_wp2_with fail
    refine HC1.out.mono ?_
    intro e V hG
    have hb := hb0.trans (hG.1.mono hb0.size)
    have L := (Lies.new w 61 zero7).below hG.1 (by simp)
    rcases hG.split with ⟨j, hr, rfl⟩ | ⟨t, j, A2, c2, hr, rfl, hT⟩
    · have q := L.seven
      go_wp2_with fail
      exact bodyPost_ret (res_got (p := 4) Tryd.results26 rfl (Lies.all7 L _ _ _ _ _ _ _)) rfl (gpost_err (HE.out.trans hr) hb)
    · have q := L.seven
      go_wp2_with fail
      exact bodyPost_ret (res_got (p := 4) Tryd.results26 rfl (Lies.all7 L _ _ _ _ _ _ _)) rfl (gpost_ok (HE.out.trans hr) hb (TIn.wide _ hT (fun g hg _ => by simpa using hg)))
  by_cases h2 : X = [108, 101, 116]
  · have HC2 := Lib.hid (HT i i (w.alloc (.cells zero7 61)) rfl hi (by omega) hR1)
    subst h2
    have HE : Hid (gExpr (f + 1) l i = gLet f l i) := by
      refine Lib.hid ?_
      rw [gExpr]
      rw [← hX]; rfl
    clear T
    obtain ⟨r, hr⟩ : ∃ r, r = gLet f l i := ⟨_, rfl⟩
    rw [← hr] at HE HC2
    clear hr hX
    go_enter Tryd.func26, Tryd.ntmps26
    go_wp2_with fail
    refine HX.out.mono ?_
    rintro e w' ⟨rfl, rfl⟩
    go_wp2_with fail
    refine HC2.out.mono ?_
    intro e V hG
    have hb := hb0.trans (hG.1.mono hb0.size)
    have L := (Lies.new w 61 zero7).below hG.1 (by simp)
    rcases hG.split with ⟨j, hr, rfl⟩ | ⟨t, j, A2, c2, hr, rfl, hT⟩
    · have q := L.seven
      go_wp2_with fail
      exact bodyPost_ret (res_got (p := 4) Tryd.results26 rfl (Lies.all7 L _ _ _ _ _ _ _)) rfl (gpost_err (HE.out.trans hr) hb)
    · have q := L.seven
      go_wp2_with fail
      exact bodyPost_ret (res_got (p := 4) Tryd.results26 rfl (Lies.all7 L _ _ _ _ _ _ _)) rfl (gpost_ok (HE.out.trans hr) hb (TIn.wide _ hT (fun g hg _ => by simpa using hg)))
  by_cases h3 : X = [108, 101, 116, 114, 101, 99]
  · have HC2 := Lib.hid (HT i i (w.alloc (.cells zero7 61)) rfl hi (by omega) hR1)
    subst h3
    have HE : Hid (gExpr (f + 1) l i = gLet f l i) := by
      refine Lib.hid ?_
      rw [gExpr]
      rw [← hX]; rfl
    clear T
    obtain ⟨r, hr⟩ : ∃ r, r = gLet f l i := ⟨_, rfl⟩
    rw [← hr] at HE HC2
    clear hr hX
    go_enter Tryd.func26, Tryd.ntmps26
    go_wp2_with fail
    refine HX.out.mono ?_
    rintro e w' ⟨rfl, rfl⟩
    go_wp2_with fail
    refine HC2.out.mono ?_
    intro e V hG
    have hb := hb0.trans (hG.1.mono hb0.size)
    have L := (Lies.new w 61 zero7).below hG.1 (by simp)
    rcases hG.split with ⟨j, hr, rfl⟩ | ⟨t, j, A2, c2, hr, rfl, hT⟩
    · have q := L.seven
      go_wp2_with fail
      exact bodyPost_ret (res_got (p := 4) Tryd.results26 rfl (Lies.all7 L _ _ _ _ _ _ _)) rfl (gpost_err (HE.out.trans hr) hb)
    · have q := L.seven
      go_wp2_with fail
      exact bodyPost_ret (res_got (p := 4) Tryd.results26 rfl (Lies.all7 L _ _ _ _ _ _ _)) rfl (gpost_ok (HE.out.trans hr) hb (TIn.wide _ hT (fun g hg _ => by simpa using hg)))
  by_cases h4 : X = [99, 97, 115, 101]
  · have HC3 := Lib.hid (HM i i (w.alloc (.cells zero7 61)) rfl (by rw [T.len]; exact xAt_lt (hX.symm.trans h4) (by simp)) (by omega) hR1)
    subst h4
    have HE : Hid (gExpr (f + 1) l i = gMatch f l i) := by
      refine Lib.hid ?_
      rw [gExpr]
      rw [← hX]; rfl
    clear T
    obtain ⟨r, hr⟩ : ∃ r, r = gMatch f l i := ⟨_, rfl⟩
    rw [← hr] at HE HC3
    clear hr hX
    go_enter Tryd.func26, Tryd.ntmps26
    go_wp2_with fail
    refine HX.out.mono ?_
    rintro e w' ⟨rfl, rfl⟩
    go_wp2_with fail
    refine HC3.out.mono ?_
    intro e V hG
    have hb := hb0.trans (hG.1.mono hb0.size)
    have L := (Lies.new w 61 zero7).below hG.1 (by simp)
    rcases hG.split with ⟨j, hr, rfl⟩ | ⟨t, j, A2, c2, hr, rfl, hT⟩
    · have q := L.seven
      go_wp2_with fail
      exact bodyPost_ret (res_got (p := 4) Tryd.results26 rfl (Lies.all7 L _ _ _ _ _ _ _)) rfl (gpost_err (HE.out.trans hr) hb)
    · have q := L.seven
      go_wp2_with fail
      exact bodyPost_ret (res_got (p := 4) Tryd.results26 rfl (Lies.all7 L _ _ _ _ _ _ _)) rfl (gpost_ok (HE.out.trans hr) hb (TIn.wide _ hT (fun g hg _ => by simpa using hg)))
  have HC4 := Lib.hid (HO i i 0 (w.alloc (.cells zero7 61)) rfl rfl hi (by omega) hR1)
  have n1 := bytes_ne h1
  have b1 : (X == [92]) = false := beq_eq_false_iff_ne.2 h1
  have b2 : (X == [108, 101, 116]) = false := beq_eq_false_iff_ne.2 h2
  have b3 : (X == [108, 101, 116, 114, 101, 99]) = false := beq_eq_false_iff_ne.2 h3
  have b4 : (X == [99, 97, 115, 101]) = false := beq_eq_false_iff_ne.2 h4
  have n2 : ¬ (⟨X.toArray⟩ : ByteArray).toList = [108, 101, 116] := bytes_ne h2
  have n3 : ¬ (⟨X.toArray⟩ : ByteArray).toList = [108, 101, 116, 114, 101, 99] := bytes_ne h3
  have n4 : ¬ (⟨X.toArray⟩ : ByteArray).toList = [99, 97, 115, 101] := bytes_ne h4
  have HE : Hid (gExpr (f + 1) l i = gOps f l i ((0 : Nat) : Int)) := by
    refine Lib.hid ?_
    rw [gExpr]
    rw [← hX, if_neg (by simpa using h1), if_neg (by simp [letS, letrecS, h2, h3]), if_neg (by simpa [caseS] using h4)]; rfl
  clear T
  obtain ⟨r, hr⟩ : ∃ r, r = gOps f l i ((0 : Nat) : Int) := ⟨_, rfl⟩
  rw [← hr] at HE HC4
  clear hr hX
  go_enter Tryd.func26, Tryd.ntmps26
  go_wp2_with fail
  refine HX.out.mono ?_
  rintro e w' ⟨rfl, rfl⟩
  go_wp2_with fail
  refine HC4.out.mono ?_
  intro e V hG
  have hb := hb0.trans (hG.1.mono hb0.size)
  have L := (Lies.new w 61 zero7).below hG.1 (by simp)
  rcases hG.split with ⟨j, hr, rfl⟩ | ⟨t, j, A2, c2, hr, rfl, hT⟩
  · have q := L.seven
    go_wp2_with fail
    exact bodyPost_ret (res_got (p := 4) Tryd.results26 rfl (Lies.all7 L _ _ _ _ _ _ _)) rfl (gpost_err (HE.out.trans hr) hb)
  · have q := L.seven
    go_wp2_with fail
    exact bodyPost_ret (res_got (p := 4) Tryd.results26 rfl (Lies.all7 L _ _ _ _ _ _ _)) rfl (gpost_ok (HE.out.trans hr) hb (TIn.wide _ hT (fun g hg _ => by simpa using hg)))
end Lx
end Go.Proofs.YtobdoahdjbmflaaDoor
namespace Go.Proofs.YtobdoahdjbmflaaDoor
open Go.RowKit
namespace Lx
set_option maxRecDepth 100000
set_option maxHeartbeats 4000000 in
theorem gsign_any {l : List Tok} {A : Option Addr} {n c : Nat} (T : GTok l n) (i lev : Nat) (x y : Int) (w : World) (hx : x = (i : Int)) (hy : y = (lev : Int)) (hi : i ≤ n + 8) (hl : lev < 3) (hR : Row w A l) :
    Calls Tryd.prog 75 #[.slice A n c, .int .i64 x, .int .i64 y] w fun e w' => e = .returned (.bool (signA l i lev)) ∧ w = w' := by
  subst hx hy
  have HX := Lib.hid (gtext_any l A n c i w T.len (by have := T.few; omega) T.few hR)
  have hs := fun v => signA l i v
  obtain ⟨X, hX⟩ : ∃ X, X = xAt l i := ⟨_, rfl⟩
  rw [← hX] at HX
  clear hs
  by_cases h0 : lev = 0
  · subst h0
    have HE : Hid (signA l i ((0 : Nat) : Int) = (X == [60] || X == [61, 61])) := by
      refine Lib.hid ?_
      unfold signA; rw [if_pos (by rfl), ← hX]
    clear hX T hR
    by_cases g0 : X = [60]
    · subst g0
      go_enter Tryd.func75, Tryd.ntmps75
      go_wp2_with fail
      refine HX.out.mono ?_
      rintro e w' ⟨rfl, rfl⟩
      go_wp2_with fail
      go_ret
      exact ⟨ret_bool (by rw [HE.out]; rfl), rfl⟩
    by_cases g1 : X = [61, 61]
    · subst g1
      go_enter Tryd.func75, Tryd.ntmps75
      go_wp2_with fail
      refine HX.out.mono ?_
      rintro e w' ⟨rfl, rfl⟩
      go_wp2_with fail
      go_ret
      exact ⟨ret_bool (by rw [HE.out]; rfl), rfl⟩
    have b0 : (X == [60]) = false := beq_eq_false_iff_ne.2 g0
    have b1 : (X == [61, 61]) = false := beq_eq_false_iff_ne.2 g1
    go_enter Tryd.func75, Tryd.ntmps75
    go_wp2_with fail
    refine HX.out.mono ?_
    rintro e w' ⟨rfl, rfl⟩
    go_wp2_with fail
    go_ret
    exact ⟨ret_bool (by rw [HE.out, b0, b1]; rfl), rfl⟩
  by_cases h1 : lev = 1
  · subst h1
    have HE : Hid (signA l i ((1 : Nat) : Int) = (X == [43] || X == [45])) := by
      refine Lib.hid ?_
      unfold signA; rw [if_neg (by decide), if_pos (by rfl), ← hX]
    clear hX T hR
    by_cases g0 : X = [43]
    · subst g0
      go_enter Tryd.func75, Tryd.ntmps75
      go_wp2_with fail
      refine HX.out.mono ?_
      rintro e w' ⟨rfl, rfl⟩
      go_wp2_with fail
      go_ret
      exact ⟨ret_bool (by rw [HE.out]; rfl), rfl⟩
    by_cases g1 : X = [45]
    · subst g1
      go_enter Tryd.func75, Tryd.ntmps75
      go_wp2_with fail
      refine HX.out.mono ?_
      rintro e w' ⟨rfl, rfl⟩
      go_wp2_with fail
      go_ret
      exact ⟨ret_bool (by rw [HE.out]; rfl), rfl⟩
    have b0 : (X == [43]) = false := beq_eq_false_iff_ne.2 g0
    have b1 : (X == [45]) = false := beq_eq_false_iff_ne.2 g1
    go_enter Tryd.func75, Tryd.ntmps75
    go_wp2_with fail
    refine HX.out.mono ?_
    rintro e w' ⟨rfl, rfl⟩
    go_wp2_with fail
    go_ret
    exact ⟨ret_bool (by rw [HE.out, b0, b1]; rfl), rfl⟩
  obtain rfl : lev = 2 := by omega
  have HE : Hid (signA l i ((2 : Nat) : Int) = (X == [42] || X == [47])) := by
    refine Lib.hid ?_
    unfold signA; rw [if_neg (by decide), if_neg (by decide), ← hX]
  clear hX T hR
  by_cases g0 : X = [42]
  · subst g0
    go_enter Tryd.func75, Tryd.ntmps75
    go_wp2_with fail
    refine HX.out.mono ?_
    rintro e w' ⟨rfl, rfl⟩
    go_wp2_with fail
    go_ret
    exact ⟨ret_bool (by rw [HE.out]; rfl), rfl⟩
  by_cases g1 : X = [47]
  · subst g1
    go_enter Tryd.func75, Tryd.ntmps75
    go_wp2_with fail
    refine HX.out.mono ?_
    rintro e w' ⟨rfl, rfl⟩
    go_wp2_with fail
    go_ret
    exact ⟨ret_bool (by rw [HE.out]; rfl), rfl⟩
  have b0 : (X == [42]) = false := beq_eq_false_iff_ne.2 g0
  have b1 : (X == [47]) = false := beq_eq_false_iff_ne.2 g1
  go_enter Tryd.func75, Tryd.ntmps75
  go_wp2_with fail
  refine HX.out.mono ?_
  rintro e w' ⟨rfl, rfl⟩
  go_wp2_with fail
  go_ret
  exact ⟨ret_bool (by rw [HE.out, b0, b1]; rfl), rfl⟩
end Lx
end Go.Proofs.YtobdoahdjbmflaaDoor
namespace Go.Proofs.YtobdoahdjbmflaaDoor
namespace Lx
set_option maxRecDepth 100000
theorem names_err : ∀ (f : Nat) (l : List Tok) (j : Nat) (acc : List Tr) (j2 : Nat), gNames f l j acc = .error j2 → j2 ≤ j ∨ j2 ≤ l.length
  | 0, l, j, acc, j2, h => by cases h; omega
  | f + 1, l, j, acc, j2, h => by
    rw [gNames] at h
    split at h
    · rename_i hk
      have hlt := kAt_lt (l := l) (i := j) (by omega)
      split at h
      · cases h; omega
      · have := names_err f l (j + 1) _ j2 h
        omega
    · cases h
theorem sign_lt {l : List Tok} {i : Nat} {lev : Int} (h : signA l i lev = true) : i < l.length := by
  unfold signA at h
  split at h
  · simp at h; rcases h with h | h <;> exact xAt_lt h (by simp)
  · split at h
    · simp at h; rcases h with h | h <;> exact xAt_lt h (by simp)
    · simp at h; rcases h with h | h <;> exact xAt_lt h (by simp)
def ErrB (l : List Tok) (b : Nat) (r : GR) : Prop := ∀ j, r = .error j → j ≤ b ∨ j ≤ l.length + 2
structure ErrAll (f : Nat) : Prop where
  expr : ∀ l i, ErrB l (i + 2) (gExpr f l i)
  lam : ∀ l i, ErrB l (i + 2) (gLam f l i)
  let_ : ∀ l i, ErrB l (i + 2) (gLet f l i)
  alt : ∀ l i, ErrB l (i + 2) (gAlt f l i)
  match_ : ∀ l i, ErrB l (i + 3) (gMatch f l i)
  alts : ∀ l i j acc, ErrB l (j + 2) (gAlts f l i j acc)
  ops : ∀ l i lev, ErrB l (i + 2) (gOps f l i lev)
  opsL : ∀ l lev n a j, j ≤ l.length → ErrB l 0 (gOpsL f l lev n a j)
  app : ∀ l i, ErrB l (i + 2) (gApp f l i)
  appL : ∀ l con a j, j ≤ l.length → ErrB l 0 (gAppL f l con a j)
  atom : ∀ l i, ErrB l (i + 2) (gAtom f l i)
theorem eq_of_nn {a b : List UInt8} (h : ¬ a ≠ b) : a = b := Classical.byContradiction fun e => h e
theorem err_all : ∀ f, ErrAll f
  | 0 => by
    refine ⟨?_, ?_, ?_, ?_, ?_, ?_, ?_, ?_, ?_, ?_, ?_⟩
    all_goals
      intros
      intro j h
      first
        | (rw [gExpr] at h; cases h; omega)
        | (rw [gLam] at h; cases h; omega)
        | (rw [gLet] at h; cases h; omega)
        | (rw [gAlt] at h; cases h; omega)
        | (rw [gMatch] at h; cases h; omega)
        | (rw [gAlts] at h; cases h; omega)
        | (rw [gOps] at h; cases h; omega)
        | (rw [gOpsL] at h; cases h; omega)
        | (rw [gApp] at h; cases h; omega)
        | (rw [gAppL] at h; cases h; omega)
        | (rw [gAtom] at h; cases h; omega)
  | f + 1 => by
    have ih := err_all f
    have pr := prog_all f
    refine ⟨?_, ?_, ?_, ?_, ?_, ?_, ?_, ?_, ?_, ?_, ?_⟩
    · intro l i
      rw [gExpr]
      split
      · exact ih.lam l i
      · split
        · exact ih.let_ l i
        · split
          · rename_i hc
            have hlt := xAt_lt (l := l) (i := i) (s := caseS) (by simpa using hc) (by decide)
            intro j h
            have := ih.match_ l i j h
            omega
          · exact ih.ops l i 0
    · intro l i j h
      rw [gLam] at h
      split at h
      · cases h; omega
      · split at h
        · cases h; omega
        · rename_i hx
          have hlt := xAt_lt (eq_of_nn hx) (by simp)
          split at h
          · rename_i j' hb
            have := ih.expr l (i + 3) j' hb
            cases h
            omega
          · cases h
    · intro l i j h
      rw [gLet] at h
      split at h
      · cases h; omega
      · split at h
        · cases h; omega
        · rename_i hx
          have hlt := xAt_lt (eq_of_nn hx) (by simp)
          split at h
          · rename_i j' hb
            have := ih.expr l (i + 3) j' hb
            cases h
            omega
          · rename_i a j1 ha
            have h1 := pr.expr l (i + 3) a j1 ha
            split at h
            · cases h; omega
            · rename_i hx2
              have hlt2 := xAt_lt (eq_of_nn hx2) (by decide)
              split at h
              · rename_i j2 hb
                have := ih.expr l (j1 + 1) j2 hb
                cases h
                omega
              · cases h
    · intro l i j h
      rw [gAlt] at h
      split at h
      · cases h; omega
      · split at h
        · rename_i j1 hv
          have := names_err _ _ _ _ _ hv
          cases h
          omega
        · rename_i hk vs j1 hv
          have hlt := kAt_lt (l := l) (i := i) (by omega)
          have h1 := names_prog _ _ _ _ _ _ hv (by simp)
          split at h
          · cases h; omega
          · rename_i hx2
            have hlt2 := xAt_lt (eq_of_nn hx2) (by decide)
            split at h
            · rename_i j2 hb
              have := ih.expr l (j1 + 1) j2 hb
              cases h
              omega
            · cases h
    · intro l i j h
      rw [gMatch] at h
      split at h
      · rename_i j1 hb
        have := ih.expr l (i + 1) j1 hb
        cases h
        omega
      · rename_i a j1 ha
        have h1 := pr.expr l (i + 1) a j1 ha
        split at h
        · cases h; omega
        · split at h
          · cases h; omega
          · rename_i hx2
            have hlt2 := xAt_lt (eq_of_nn hx2) (by decide)
            have := ih.alts l i (j1 + 2) [a] j h
            omega
    · intro l i j acc j9 h
      rw [gAlts] at h
      split at h
      · rename_i j2 hb
        have := ih.alt l j j2 hb
        cases h
        omega
      · rename_i b j2 hb
        have h1 := pr.alt l j b j2 hb
        split at h
        · cases h
        · split at h
          · cases h; omega
          · rename_i hx
            have hx3 : xAt l j2 = [124] := Classical.byContradiction fun e => hx (.inl e)
            have hlt := xAt_lt hx3 (by simp)
            have := ih.alts l i (j2 + 1) (acc ++ [b]) j9 h
            omega
    · intro l i lev j h
      rw [gOps] at h
      split at h
      · exact ih.app l i j h
      · split at h
        · rename_i j1 ha
          have := ih.ops l i (lev + 1) j1 ha
          cases h
          omega
        · rename_i a j1 ha
          have h1 := pr.ops l i (lev + 1) a j1 ha
          have := ih.opsL l lev 0 a j1 h1.2 j h
          omega
    · intro l lev n a j hj j9 h
      rw [gOpsL] at h
      split at h
      · rename_i hs
        split at h
        · rename_i j2 hb
          have := ih.ops l (j + 1) (lev + 1) j2 hb
          cases h
          have hlt : j < l.length := sign_lt hs.1
          omega
        · rename_i b j2 hb
          have h1 := pr.ops l (j + 1) (lev + 1) b j2 hb
          exact ih.opsL l lev (n + 1) _ j2 h1.2 j9 h
      · cases h
    · intro l i j h
      rw [gApp] at h
      split at h
      · rename_i j1 ha
        have := ih.atom l i j1 ha
        cases h
        omega
      · rename_i a j1 ha
        have h1 := pr.atom l i a j1 ha
        have := ih.appL l _ a j1 h1.2 j h
        omega
    · intro l con a j hj j9 h
      rw [gAppL] at h
      split at h
      · split at h
        · cases h; omega
        · split at h
          · rename_i j2 hb
            have := ih.atom l j j2 hb
            cases h
            omega
          · rename_i b j2 hb
            have h1 := pr.atom l j b j2 hb
            exact ih.appL l con _ j2 h1.2 j9 h
      · cases h
    · intro l i j h
      rw [gAtom] at h
      split at h
      · rename_i hp
        have hlt := xAt_lt (l := l) (i := i) (s := [40]) (by simpa using hp) (by simp)
        split at h
        · rename_i j1 ha
          have := ih.expr l (i + 1) j1 ha
          cases h
          omega
        · rename_i a j1 ha
          have h1 := pr.expr l (i + 1) a j1 ha
          split at h
          · cases h; omega
          · cases h
      · split at h
        · cases h
        · split at h
          · cases h
          · split at h
            · cases h
            · cases h; omega
end Lx
end Go.Proofs.YtobdoahdjbmflaaDoor
namespace Go.Proofs.YtobdoahdjbmflaaDoor
open Go.RowKit
namespace Lx
set_option maxRecDepth 100000
theorem wpList_store7 {ops : Array Oper} {rest : List Oper} {op : Oper} {ac : Act} {w : World} {Q : Exit → Act → World → Prop} (x y : Operand) (hgd : op.guard = none) (ho : op.op = .store 61 x y)
    {g : Nat} {a b c d e u v a' b' c' d' e' u' v' : Value} {t : TypeId} (hx : ac.eval x = .pointer (some ⟨g, 0, none⟩)) (hy : ac.eval y = .agg #[a, b, c, d, e, u, v]) (L : Lies w g t #[a', b', c', d', e', u', v'])
    (h1 : (#[a, b, c, d, e, u, v] : Array Value).all (·.oneCell') = true)
    (h : wpList Tryd.prog ops Q rest (ac.put op.dst undef) (put7 w g a b c d e u v)) : wpList Tryd.prog ops Q (op :: rest) ac w := by
  refine wpList_store_mid hgd _ x y ho g 0 _ hx hy ?_ (by kernel_rfl) h1 h
  intro j hj
  have hj' : j < 7 := hj
  constructor
  · rw [Nat.zero_add, L.cell j]
    rw [Array.getElem?_eq_getElem (show j < (#[a', b', c', d', e', u', v'] : Array Value).size from hj')]
    rfl
  · rw [Nat.zero_add]
    exact L.frozen j
end Lx
end Go.Proofs.YtobdoahdjbmflaaDoor
namespace Go.Proofs.YtobdoahdjbmflaaDoor
open Go.RowKit
namespace Lx
set_option maxRecDepth 100000
theorem GTok.leaf {l : List Tok} {n : Nat} (T : GTok l n) (i : Nat) (k num a : Int) (w : World) (X : Nat → Prop) : TIn w X (.node k (nmAt l i) num a []) none := by
  rw [TIn]
  exact ⟨T.small i, by simp, by rw [LIn]; trivial⟩
theorem leaf0 (k num a : Int) (w : World) (X : Nat → Prop) : TIn w X (.node k ⟨#[]⟩ num a []) none := by
  rw [TIn]
  exact ⟨by decide, by simp, by rw [LIn]; trivial⟩
theorem Lies.far7 {w : World} {g : Nat} {t : TypeId} {cs : Array Value} (h : Lies w g t cs) {r : Nat} (hr : g ≠ r) (a b c d e x y : Value) : Lies (put7 w r a b c d e x y) g t cs :=
  ((((((h.far (p := ⟨r, 0, none⟩) hr a).far (p := ⟨r, 1, none⟩) hr b).far (p := ⟨r, 2, none⟩) hr c).far (p := ⟨r, 3, none⟩) hr d).far (p := ⟨r, 4, none⟩) hr e).far (p := ⟨r, 5, none⟩) hr x).far (p := ⟨r, 6, none⟩) hr y
theorem gno_lit (j : Nat) (w : World) : Calls Tryd.prog 71 #[.int .i64 j] w fun e w' => e = .returned (.agg #[.int .i64 0, .string ⟨#[]⟩, .int .i64 0, .int .i64 0, .slice none 0 0, .int .i64 j, .bool false]) ∧ Below w.heap.size w w' := gno_any j w
theorem gpost_leaf {w V : World} {r : GR} {k num a : Int} {s : ByteArray} {i : Nat} (hr : r = .ok (.node k s num a [], i + 1)) (hb : Below w.heap.size w V) (hT : TIn V (fun g => w.heap.size + 1 ≤ g) (.node k s num a []) none) :
    GPost w r (.returned (.agg #[.int .i64 k, .string s, .int .i64 num, .int .i64 a, .slice none 0 0, .int .i64 ((i : Int) + 1), .bool true]))
      (put7 V w.heap.size (.int .i64 k) (.string s) (.int .i64 num) (.int .i64 a) (.slice none 0 0) (.int .i64 ((i : Int) + 1)) (.bool true)) := by
  have h := gpost_ok (c := 0) hr hb hT
  rw [show (((i + 1 : Nat) : Int)) = (i : Int) + 1 from by simp] at h
  have h2 := h
  unfold gv at h2
  simp only [Tr.kind, Tr.name, Tr.n, Tr.place, Tr.parts, List.length_nil, capF, Nat.max_self] at h2
  rw [show (((i + 1 : Nat) : Int)) = (i : Int) + 1 from by simp] at h2
  exact h2
set_option maxHeartbeats 4000000 in
theorem gatom_any {l : List Tok} {A : Option Addr} {n c f : Nat} (T : GTok l n) (HX0 : GC 26 l A n c 7 gExpr f) :
    GC 84 l A n c 1 gAtom (f + 1) := by
  intro i x w hx hi hf hR
  subst hx
  have h6 := T.few
  have hb0 := below_seven (w := w)
  have hR1 := hR.at_new hb0
  have HX := Lib.hid (gtext_any l A n c i (w.alloc (.cells zero7 61)) T.len (by omega) h6 hR1)
  have HK := Lib.hid (gkind_any l A n c i (w.alloc (.cells zero7 61)) T.len (by omega) h6 hR1)
  have hL := Lies.new w 61 zero7
  by_cases hp : xAt l i = [40]
  · have hlt : i < n := by rw [T.len]; exact xAt_lt hp (by simp)
    have HC := Lib.hid (HX0 (i + 1) ((i : Int) + 1) (w.alloc (.cells zero7 61)) (by simp) (by omega) (by omega) hR1)
    rw [hp] at HX
    have HE : Hid (gAtom (f + 1) l i = (match gExpr f l (i + 1) with | .error j => .error j | .ok (a, j) => if xAt l j ≠ [41] then .error j else .ok (a, j + 1))) := by
      refine Lib.hid ?_
      rw [gAtom, if_pos (by rw [hp]; rfl)]
      all_goals (cases gExpr f l (i + 1) <;> rfl)
    clear hp
    go_enter Tryd.func84, Tryd.ntmps84
    go_wp2_with fail
    refine HX.out.mono ?_
    rintro e w' ⟨rfl, rfl⟩
    go_wp2_with fail
    refine HC.out.mono ?_
    intro e V hG
    have hb := hb0.trans (hG.1.mono hb0.size)
    have L := hL.below hG.1 (by simp)
    have hsz := hG.1.size
    have hne : w.heap.size ≠ V.heap.size := by simp at hsz; omega
    have hRV := hR.below hb (Nat.le_refl _)
    rcases hG.split with ⟨j, hr, rfl⟩ | ⟨t, j, A2, c2, hr, rfl, hT⟩
    · rw [hr] at HE
      have hj := (err_all f).expr l (i + 1) j hr
      have hjs : j ≤ 60002 := by have := T.len; omega
      clear hj
      have L9 := L.old (.cells #[.int .i64 0, .string ⟨#[]⟩, .int .i64 0, .int .i64 0, .slice none 0 0, .int .i64 j, .bool false] 61)
      have q9 := L9.seven
      have hb9 := hb.alloc hb.size (.cells #[.int .i64 0, .string ⟨#[]⟩, .int .i64 0, .int .i64 0, .slice none 0 0, .int .i64 j, .bool false] 61)
      go_wp2_with fail
      exact bodyPost_ret (res_got (p := 4) Tryd.results84 rfl (Lies.all7 L9 _ _ _ _ _ _ _)) rfl (gpost_err HE.out hb9)
    · rw [hr] at HE
      have hj := (prog_all f).expr l (i + 1) t j hr
      have hjs : j ≤ 60000 := by have := T.len; omega
      have hjn : j ≤ n := by have := T.len; omega
      clear hj
      have hb8 : Below V.heap.size V (V.alloc (.cells #[.int .i64 t.kind, .string t.name, .int .i64 t.n, .int .i64 t.place, .slice A2 t.parts.length (capF t.parts.length c2), .int .i64 j, .bool true] 61)) := (Below.refl _ V).alloc (Nat.le_refl _) _
      have HX2 := Lib.hid (gtext_any l A n c j (V.alloc (.cells #[.int .i64 t.kind, .string t.name, .int .i64 t.n, .int .i64 t.place, .slice A2 t.parts.length (capF t.parts.length c2), .int .i64 j, .bool true] 61)) T.len (by omega) h6 (hRV.at_new hb8))
      have L8 := L.old (.cells #[.int .i64 t.kind, .string t.name, .int .i64 t.n, .int .i64 t.place, .slice A2 t.parts.length (capF t.parts.length c2), .int .i64 j, .bool true] 61)
      by_cases hq : xAt l j = [41]
      · rw [hq] at HX2
        have HE2 : Hid (gAtom (f + 1) l i = .ok (t, j + 1)) := by
          refine Lib.hid (HE.out.trans ?_)
          show (if xAt l j ≠ [41] then (.error j : GR) else .ok (t, j + 1)) = _
          rw [if_neg (fun h => h hq)]
        clear hq
        have L9 := L.old (.cells #[.int .i64 t.kind, .string t.name, .int .i64 t.n, .int .i64 t.place, .slice A2 t.parts.length (capF t.parts.length c2), .int .i64 ((j : Int) + 1), .bool true] 61)
        have q9 := L9.seven
        have hb9 : Below V.heap.size V (V.alloc (.cells #[.int .i64 t.kind, .string t.name, .int .i64 t.n, .int .i64 t.place, .slice A2 t.parts.length (capF t.parts.length c2), .int .i64 ((j : Int) + 1), .bool true] 61)) := (Below.refl _ V).alloc (Nat.le_refl _) _
        have hT9 := TIn.below t (TIn.wide t (Y := fun g => w.heap.size + 1 ≤ g) hT (fun g hg _ => by simpa using hg)) hb9 (Nat.le_refl _)
        go_wp2_with fail
        refine HX2.out.mono ?_
        rintro e w' ⟨rfl, rfl⟩
        go_wp2_with fail
        exact bodyPost_ret (res_got (p := 4) Tryd.results84 rfl (Lies.all7 L9 _ _ _ _ _ _ _)) rfl (gpost_ok (j := j + 1) HE2.out (hb.trans (hb9.mono hb.size)) hT9)
      · have HE2 : Hid (gAtom (f + 1) l i = .error j) := by
          refine Lib.hid (HE.out.trans ?_)
          show (if xAt l j ≠ [41] then (.error j : GR) else .ok (t, j + 1)) = _
          rw [if_pos hq]
        obtain ⟨X, hX⟩ : ∃ X, X = xAt l j := ⟨_, rfl⟩
        rw [← hX] at HX2 hq
        clear hX HE
        have b0 : (X == [41]) = false := beq_eq_false_iff_ne.2 hq
        have HN := Lib.hid (gno_lit j (V.alloc (.cells #[.int .i64 t.kind, .string t.name, .int .i64 t.n, .int .i64 t.place, .slice A2 t.parts.length (capF t.parts.length c2), .int .i64 j, .bool true] 61)))
        go_wp2_with fail
        refine HX2.out.mono ?_
        rintro e w' ⟨rfl, rfl⟩
        go_wp2_with fail
        refine HN.out.mono ?_
        rintro e V2 ⟨rfl, hb2⟩
        have L9 := L8.below hb2 L8.lt
        have q9 := L9.seven
        have hb9 := (hb.trans (hb8.mono hb.size)).trans (hb2.mono (by have := hb.size; have := hb8.size; omega))
        go_wp2_with fail
        exact bodyPost_ret (res_got (p := 4) Tryd.results84 rfl (Lies.all7 L9 _ _ _ _ _ _ _)) rfl (gpost_err HE2.out hb9)
  · obtain ⟨X, hX⟩ : ∃ X, X = xAt l i := ⟨_, rfl⟩
    rw [← hX] at HX
    have b0 : (X == [40]) = false := beq_eq_false_iff_ne.2 (by rw [hX]; exact hp)
    clear hX
    by_cases hk1 : kAt l i = 1
    · have hlt : i < l.length := kAt_lt (by omega)
      have hlt' : i < n := by rw [T.len]; exact hlt
      have HE : Hid (gAtom (f + 1) l i = .ok (.node 1 (nmAt l i) 0 (plAt l i) [], i + 1)) := by
        refine Lib.hid ?_
        rw [gAtom, if_neg (by simpa using hp), if_pos hk1]
      obtain ⟨g, o, rfl, c0, c1, c2, c3⟩ := hR1.get hlt
      rw [hk1] at HK
      clear hk1 c0
      have HY := Lib.hid (fun V => gyes_at 1 0 (plAt l i) (nmAt l i) none 0 0 (i + 1) ((i : Int) + 1) V (by simp))
      have HLf := Lib.hid (fun V X => T.leaf i 1 0 (plAt l i) V X)
      have HL0 := Lib.hid (fun V X => leaf0 9 (nuAt l i) (plAt l i) V X)
      obtain ⟨NM, hNM⟩ : ∃ NM, NM = nmAt l i := ⟨_, rfl⟩
      obtain ⟨NU, hNU⟩ : ∃ NU, NU = nuAt l i := ⟨_, rfl⟩
      obtain ⟨PL, hPL⟩ : ∃ PL, PL = plAt l i := ⟨_, rfl⟩
      rw [← hNM] at c1 HE HY HLf
      rw [← hNU] at c2
      rw [← hPL] at c3 HE HY HLf HL0
      clear hNM hNU hPL hR1 hR T
      go_enter Tryd.func84, Tryd.ntmps84
      go_wp2_with fail
      refine HX.out.mono ?_
      rintro e w' ⟨rfl, rfl⟩
      go_wp2_with fail
      refine HK.out.mono ?_
      rintro e w' ⟨rfl, rfl⟩
      go_wp2_with fail
      generalize hW : (w.alloc (.cells zero7 61)) = wr at hb0 hL c1 c2 c3 ⊢
      clear hW HX HK
      go_still_tail 13, (by kernel_rfl)
      change wpList _ _ _ _ _ wr.drew
      go_wp2_with fail
      refine (HY.out _).mono ?_
      rintro e V ⟨rfl, hb2⟩
      have hb := (hb0.drew).trans (hb2.mono (by exact hb0.size))
      have L9 := (hL.drew).below hb2 hL.lt
      have q9 := L9.seven
      go_wp2_with fail
      exact bodyPost_ret (res_got (p := 4) Tryd.results84 rfl (Lies.all7 L9 _ _ _ _ _ _ _)) rfl (gpost_leaf HE.out hb (HLf.out _ _))
    by_cases hk2 : kAt l i = 2
    · have hlt : i < l.length := kAt_lt (by omega)
      have hlt' : i < n := by rw [T.len]; exact hlt
      have HE : Hid (gAtom (f + 1) l i = .ok (.node 6 (nmAt l i) 0 (plAt l i) [], i + 1)) := by
        refine Lib.hid ?_
        rw [gAtom, if_neg (by simpa using hp), if_neg hk1, if_pos hk2]
      obtain ⟨g, o, rfl, c0, c1, c2, c3⟩ := hR1.get hlt
      rw [hk2] at HK
      clear hk2 c0
      have HY := Lib.hid (fun V => gyes_at 6 0 (plAt l i) (nmAt l i) none 0 0 (i + 1) ((i : Int) + 1) V (by simp))
      have HLf := Lib.hid (fun V X => T.leaf i 6 0 (plAt l i) V X)
      have HL0 := Lib.hid (fun V X => leaf0 9 (nuAt l i) (plAt l i) V X)
      obtain ⟨NM, hNM⟩ : ∃ NM, NM = nmAt l i := ⟨_, rfl⟩
      obtain ⟨NU, hNU⟩ : ∃ NU, NU = nuAt l i := ⟨_, rfl⟩
      obtain ⟨PL, hPL⟩ : ∃ PL, PL = plAt l i := ⟨_, rfl⟩
      rw [← hNM] at c1 HE HY HLf
      rw [← hNU] at c2
      rw [← hPL] at c3 HE HY HLf HL0
      clear hNM hNU hPL hR1 hR T
      go_enter Tryd.func84, Tryd.ntmps84
      go_wp2_with fail
      refine HX.out.mono ?_
      rintro e w' ⟨rfl, rfl⟩
      go_wp2_with fail
      refine HK.out.mono ?_
      rintro e w' ⟨rfl, rfl⟩
      go_wp2_with fail
      generalize hW : (w.alloc (.cells zero7 61)) = wr at hb0 hL c1 c2 c3 ⊢
      clear hW HX HK
      go_still_tail 13, (by kernel_rfl)
      change wpList _ _ _ _ _ wr.drew
      go_wp2_with fail
      refine (HY.out _).mono ?_
      rintro e V ⟨rfl, hb2⟩
      have hb := (hb0.drew).trans (hb2.mono (by exact hb0.size))
      have L9 := (hL.drew).below hb2 hL.lt
      have q9 := L9.seven
      go_wp2_with fail
      exact bodyPost_ret (res_got (p := 4) Tryd.results84 rfl (Lies.all7 L9 _ _ _ _ _ _ _)) rfl (gpost_leaf HE.out hb (HLf.out _ _))
    by_cases hk3 : kAt l i = 3
    · have hlt : i < l.length := kAt_lt (by omega)
      have hlt' : i < n := by rw [T.len]; exact hlt
      have HE : Hid (gAtom (f + 1) l i = .ok (.node 9 ⟨#[]⟩ (nuAt l i) (plAt l i) [], i + 1)) := by
        refine Lib.hid ?_
        rw [gAtom, if_neg (by simpa using hp), if_neg hk1, if_neg hk2, if_pos hk3]
      obtain ⟨g, o, rfl, c0, c1, c2, c3⟩ := hR1.get hlt
      rw [hk3] at HK
      clear hk3 c0
      have HY := Lib.hid (fun V => gyes_at 9 (nuAt l i) (plAt l i) ⟨#[]⟩ none 0 0 (i + 1) ((i : Int) + 1) V (by simp))
      have HLf := Lib.hid (fun V X => T.leaf i 6 0 (plAt l i) V X)
      have HL0 := Lib.hid (fun V X => leaf0 9 (nuAt l i) (plAt l i) V X)
      obtain ⟨NM, hNM⟩ : ∃ NM, NM = nmAt l i := ⟨_, rfl⟩
      obtain ⟨NU, hNU⟩ : ∃ NU, NU = nuAt l i := ⟨_, rfl⟩
      obtain ⟨PL, hPL⟩ : ∃ PL, PL = plAt l i := ⟨_, rfl⟩
      rw [← hNM] at c1
      rw [← hNU] at c2 HE HY HL0
      rw [← hPL] at c3 HE HY HLf HL0
      clear hNM hNU hPL hR1 hR T
      go_enter Tryd.func84, Tryd.ntmps84
      go_wp2_with fail
      refine HX.out.mono ?_
      rintro e w' ⟨rfl, rfl⟩
      go_wp2_with fail
      refine HK.out.mono ?_
      rintro e w' ⟨rfl, rfl⟩
      go_wp2_with fail
      generalize hW : (w.alloc (.cells zero7 61)) = wr at hb0 hL c1 c2 c3 ⊢
      clear hW HX HK
      go_still_tail 13, (by kernel_rfl)
      change wpList _ _ _ _ _ wr.drew
      go_wp2_with fail
      refine (HY.out _).mono ?_
      rintro e V ⟨rfl, hb2⟩
      have hb := (hb0.drew).trans (hb2.mono (by exact hb0.size))
      have L9 := (hL.drew).below hb2 hL.lt
      have q9 := L9.seven
      go_wp2_with fail
      exact bodyPost_ret (res_got (p := 4) Tryd.results84 rfl (Lies.all7 L9 _ _ _ _ _ _ _)) rfl (gpost_leaf HE.out hb (HL0.out _ _))
    have HE : Hid (gAtom (f + 1) l i = .error i) := by
      refine Lib.hid ?_
      rw [gAtom, if_neg (by simpa using hp), if_neg hk1, if_neg hk2, if_neg hk3]
    obtain ⟨k, hk⟩ : ∃ k, k = kAt l i := ⟨_, rfl⟩
    rw [← hk] at HK hk1 hk2 hk3
    have HN := Lib.hid (gno_lit i (w.alloc (.cells zero7 61)))
    clear hk hp
    go_enter Tryd.func84, Tryd.ntmps84
    go_wp2_with fail
    refine HX.out.mono ?_
    rintro e w' ⟨rfl, rfl⟩
    go_wp2_with fail
    refine HK.out.mono ?_
    rintro e w' ⟨rfl, rfl⟩
    go_wp2_with fail
    refine HN.out.mono ?_
    rintro e V2 ⟨rfl, hb2⟩
    have L9 := hL.below hb2 hL.lt
    have q9 := L9.seven
    have hb9 := hb0.trans (hb2.mono hb0.size)
    go_wp2_with fail
    exact bodyPost_ret (res_got (p := 4) Tryd.results84 rfl (Lies.all7 L9 _ _ _ _ _ _ _)) rfl (gpost_err HE.out hb9)
end Lx
end Go.Proofs.YtobdoahdjbmflaaDoor
