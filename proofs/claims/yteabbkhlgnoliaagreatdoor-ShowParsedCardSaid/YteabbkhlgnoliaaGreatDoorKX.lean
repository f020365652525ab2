/-
  Texts that lie one behind the other: GSim GSim2 GSim3 GSim4 GPl.
-/
import Derived.Test.YteabbkhlgnoliaaGreatDoorKS
import Derived.Test.YteabbkhlgnoliaaGreatDoorK6
import Derived.Test.YteabbkhlgnoliaaGreatDoorK5
import Derived.Test.YteabbkhlgnoliaaGreatDoorKD
import Derived.Test.YteabbkhlgnoliaaGreatDoorKB
namespace Go.Proofs.YteabbkhlgnoliaaGreatDoor
namespace Lx
set_option maxRecDepth 100000
def kwsL : List (List UInt8) := [[92], [108, 101, 116], [108, 101, 116, 114, 101, 99], [99, 97, 115, 101], [46], [61], [105, 110], [40], [41], [45, 62], [111, 102], [123], [125], [124], [42], [47], [43], [45], [60], [61, 61]]
/-- Names, constructors and numbers are no words or signs. -/
def KwOk (l : List Tok) : Prop := ∀ t ∈ l, t.kind < 4 → t.text ∉ kwsL
theorem kws_ne {s : List UInt8} (h : s ∈ kwsL) : s ≠ [] := by
  intro e
  subst e
  revert h
  decide
theorem peek_drop (l : List Tok) (i : Nat) : peekV (l.drop i) 0 = match l[i]? with | some t => t | none => ⟨0, [], 0, 0⟩ := by
  rcases Nat.lt_or_ge i l.length with h | h
  · rw [List.drop_eq_getElem_cons h, List.getElem?_eq_getElem h]; rfl
  · rw [List.drop_eq_nil_of_le h, List.getElem?_eq_none h]; rfl
theorem isT_x {l : List Tok} (H : KwOk l) {s : List UInt8} (hs : s ∈ kwsL) (i : Nat) : isT s (peekV (l.drop i) 0) = (xAt l i == s) := by
  rw [peek_drop]
  unfold isT xAt
  cases hi : l[i]? with
  | none => rfl
  | some t =>
    simp only
    by_cases h4 : 4 ≤ t.kind
    · rw [if_pos h4]
    · rw [if_neg h4]
      have h1 := H t (List.mem_of_getElem? hi) (by omega)
      have h2 : (t.text == s) = false := beq_eq_false_iff_ne.2 (fun e => h1 (e ▸ hs))
      rw [h2]
      exact (beq_eq_false_iff_ne.2 (fun e => kws_ne hs e.symm)).symm
theorem isK_k {l : List Tok} {k : Int} (i : Nat) : isK k (peekV (l.drop i) 0) = decide (kAt l i = k) := by
  rw [peek_drop]
  unfold isK kAt
  cases hi : l[i]? with
  | none => rfl
  | some t => rfl
theorem atomS_a {l : List Tok} (H : KwOk l) (hk : ∀ t ∈ l, 1 ≤ t.kind) (i : Nat) : atomS (peekV (l.drop i) 0) = atomicA l i := by
  have h := isT_x H (s := [40]) (by decide) i
  unfold isT at h
  unfold atomS atomicA
  rw [h, peek_drop]
  unfold kAt
  cases hi : l[i]? with
  | none => rfl
  | some t =>
    have := hk t (List.mem_of_getElem? hi)
    simp only
    have e : (decide (t.kind = 1) || (decide (t.kind = 2) || decide (t.kind = 3))) = (decide (1 ≤ t.kind) && decide (t.kind ≤ 3)) := by
      rw [Bool.eq_iff_iff]
      simp only [Bool.or_eq_true, Bool.and_eq_true, decide_eq_true_eq]
      omega
    rw [← e, Bool.or_assoc, Bool.or_assoc]
theorem bindQ_ok {α β : Type} {f : Rg α} {g : α → Rg β} {l : List Tok} {b : β} {q : List Tok} (h : bindQ f g l = .ok (b, q)) : ∃ a q1, f l = .ok (a, q1) ∧ g a q1 = .ok (b, q) := by
  unfold bindQ at h
  cases hf : f l with
  | error p => rw [hf] at h; cases h
  | ok x => rw [hf] at h; exact ⟨x.1, x.2, rfl, h⟩
theorem nextQ_ok {l : List Tok} {i : Nat} {t : Tok} {q : List Tok} (h : nextQ (l.drop i) = .ok (t, q)) : i < l.length ∧ l[i]? = some t ∧ q = l.drop (i + 1) := by
  rcases Nat.lt_or_ge i l.length with hi | hi
  · rw [List.drop_eq_getElem_cons hi] at h
    simp only [nextQ, Except.ok.injEq, Prod.mk.injEq] at h
    exact ⟨hi, by rw [List.getElem?_eq_getElem hi, h.1], h.2.symm⟩
  · rw [List.drop_eq_nil_of_le hi] at h
    cases h
theorem takeQ_ok {l : List Tok} (H : KwOk l) {s : List UInt8} (hs : s ∈ kwsL) {i : Nat} {t : Tok} {q : List Tok} (h : takeQ s (l.drop i) = .ok (t, q)) : xAt l i = s ∧ i < l.length ∧ l[i]? = some t ∧ q = l.drop (i + 1) := by
  unfold takeQ at h
  cases hx : xAt l i == s with
  | true =>
    rw [ifQ_t (by rw [isT_x H hs]; exact hx)] at h
    exact ⟨eq_of_beq hx, nextQ_ok h⟩
  | false =>
    rw [ifQ_f (by rw [isT_x H hs]; exact hx)] at h
    cases h
theorem takeKQ_ok {l : List Tok} {k : Int} {i : Nat} {t : Tok} {q : List Tok} (h : takeKQ k (l.drop i) = .ok (t, q)) : kAt l i = k ∧ i < l.length ∧ l[i]? = some t ∧ q = l.drop (i + 1) := by
  unfold takeKQ at h
  by_cases hx : kAt l i = k
  · rw [ifQ_t (by rw [isK_k]; exact decide_eq_true hx)] at h
    exact ⟨hx, nextQ_ok h⟩
  · rw [ifQ_f (by rw [isK_k]; exact decide_eq_false hx)] at h
    cases h
theorem hereQ_ok {α : Type} {f : Rg α} {l : List Tok} {x : Int × α} {q : List Tok} (h : hereQ f l = .ok (x, q)) : f l = .ok (x.2, q) := by
  unfold hereQ at h
  cases hf : f l with
  | error p => rw [hf] at h; cases h
  | ok y => rw [hf] at h; cases h; rfl
theorem nm_some {l : List Tok} {i : Nat} {t : Tok} (h : l[i]? = some t) : nmAt l i = ⟨t.text.toArray⟩ ∧ kAt l i = t.kind ∧ nuAt l i = t.n := by
  unfold nmAt kAt nuAt
  rw [h]
  exact ⟨rfl, rfl, rfl⟩
theorem sameT_mk {k n a a' : Int} {s : ByteArray} {l l' : List Tr} (h : sameL l l' = true) : sameT (.node k s n a l) (.node k s n a' l') = true := by simp [sameT, h]
theorem sameL_sn : ∀ (l l' : List Tr) (t t' : Tr), sameL l l' = true → sameT t t' = true → sameL (l ++ [t]) (l' ++ [t']) = true
  | [], [], t, t', _, h => by simp [sameL, h]
  | [], _ :: _, _, _, h, _ => by simp [sameL] at h
  | _ :: _, [], _, _, h, _ => by simp [sameL] at h
  | a :: l, b :: l', t, t', h, h2 => by
    rw [sameL, Bool.and_eq_true] at h
    rw [List.cons_append, List.cons_append, sameL, h.1, sameL_sn l l' t t' h.2 h2]
    rfl
/-- What a reading of the parser reads, the reference's reads, if no atom follows. -/
def SimR (l : List Tok) (_i : Nat) (r : Except (List Tok) (Tr × List Tok)) (g : GR) : Prop :=
  ∀ t q, r = .ok (t, q) → atomS (peekV q 0) = false → ∃ t' j, g = .ok (t', j) ∧ q = l.drop j ∧ sameT t t' = true
/-- As that, whatever follows. -/
def SimA (l : List Tok) (r : Except (List Tok) (Tr × List Tok)) (g : GR) : Prop :=
  ∀ t q, r = .ok (t, q) → ∃ t' j, g = .ok (t', j) ∧ q = l.drop j ∧ sameT t t' = true
theorem suf_drop {α : Type} {F : Rg α} (hF : Nice F) {l : List Tok} {i : Nat} {t : α} {q : List Tok} (h : F (l.drop i) = .ok (t, q)) : ∃ j, q = l.drop j := by
  obtain ⟨c, hc⟩ := hF.suf (l.drop i)
  rw [h] at hc
  refine ⟨i + c.length, ?_⟩
  have h9 : (l.drop i).drop c.length = q := by rw [hc]; simp [remQ]
  rw [← h9, List.drop_drop]
theorem not_atom {l : List Tok} (H : KwOk l) (hk1 : ∀ t ∈ l, 1 ≤ t.kind) {s : List UInt8} (hs : s ∈ kwsL) (h40 : s ≠ [40]) {i : Nat} (hx : xAt l i = s) : atomS (peekV (l.drop i) 0) = false := by
  rw [atomS_a H hk1]
  unfold atomicA
  have hne := kws_ne hs
  have h4 : ¬ kAt l i ≤ 3 := by
    unfold xAt at hx
    unfold kAt
    cases hi : l[i]? with
    | none => rw [hi] at hx; exact absurd hx.symm hne
    | some t =>
      rw [hi] at hx
      simp only at hx ⊢
      intro h
      rw [if_neg (by omega)] at hx
      exact hne hx.symm
  rw [hx, decide_eq_false h4, Bool.and_false, Bool.false_or]
  exact beq_eq_false_iff_ne.2 h40
theorem take_not {l : List Tok} (H : KwOk l) (hk1 : ∀ t ∈ l, 1 ≤ t.kind) {s : List UInt8} (hs : s ∈ kwsL) (h40 : s ≠ [40]) {j : Nat} {t : Tok} {q : List Tok} (h : takeQ s (l.drop j) = .ok (t, q)) : atomS (peekV (l.drop j) 0) = false :=
  not_atom H hk1 hs h40 (takeQ_ok H hs h).1
theorem retQ_ok {α : Type} {a b : α} {p q : List Tok} (h : retQ a p = .ok (b, q)) : b = a ∧ q = p := by
  simp only [retQ, Except.ok.injEq, Prod.mk.injEq] at h
  exact ⟨h.1.symm, h.2.symm⟩
theorem gAtom_con {g : Nat} {l : List Tok} {i : Nat} (hk : kAt l i = 2) : gAtom (g + 1) l i = .ok (.node 6 (nmAt l i) 0 (plAt l i) [], i + 1) := by
  have hx : xAt l i = [] := by
    unfold xAt
    unfold kAt at hk
    cases hl : l[i]? with
    | none => rfl
    | some t => rw [hl] at hk; simp only at hk; simp only; rw [if_neg (by omega)]
  rw [gAtom, hx, hk]
  simp
section
variable {l : List Tok} (H : KwOk l) (hk1 : ∀ t ∈ l, 1 ≤ t.kind) {ex : Rg Tr} (hX : Nice ex) {F : Nat}
  (hE : ∀ g, g < F → ∀ i, 8 * (l.length - i) + 7 ≤ g → SimR l i (ex (l.drop i)) (gExpr g l i))
include H hk1 hX hE
theorem atom_sim (g : Nat) (hg : g ≤ F) (i : Nat) (hi : 8 * (l.length - i) + 1 ≤ g) : SimA l (atomQ ex (l.drop i)) (gAtom g l i) := by
  obtain ⟨g, rfl⟩ : ∃ q, g = q + 1 := ⟨g - 1, by omega⟩
  intro t q h
  unfold atomQ at h
  cases hx : xAt l i == [40] with
  | true =>
    rw [ifQ_t (by rw [isT_x H (by decide)]; exact hx)] at h
    unfold withinQ at h
    obtain ⟨a, q1, h1, h⟩ := bindQ_ok h
    obtain ⟨hx1, hil, -, rfl⟩ := takeQ_ok H (by decide) h1
    obtain ⟨b, q2, h2, h⟩ := bindQ_ok h
    obtain ⟨c, q3, h3, h⟩ := bindQ_ok h
    obtain ⟨rfl, rfl⟩ := retQ_ok h
    obtain ⟨j0, rfl⟩ := suf_drop hX h2
    obtain ⟨t', j, e1, e2, e3⟩ := hE g (by omega) (i + 1) (by omega) _ _ h2 (take_not H hk1 (by decide) (by decide) h3)
    rw [e2] at h3
    obtain ⟨hx3, hjl, -, rfl⟩ := takeQ_ok H (by decide) h3
    refine ⟨t', j + 1, ?_, rfl, e3⟩
    rw [gAtom, hx, if_pos rfl, e1]
    simp only [hx3, ne_eq, not_true_eq_false, if_false]
  | false =>
    rw [ifQ_f (by rw [isT_x H (by decide)]; exact hx)] at h
    cases ha : atomS (peekV (l.drop i) 0) with
    | false => rw [ifQ_f ha] at h; cases h
    | true =>
      rw [ifQ_t ha] at h
      obtain ⟨a, q1, h1, h⟩ := bindQ_ok h
      obtain ⟨hil, hia, rfl⟩ := nextQ_ok h1
      obtain ⟨rfl, rfl⟩ := retQ_ok h
      obtain ⟨e1, e2, e3⟩ := nm_some hia
      rw [atomS_a H hk1] at ha
      unfold atomicA at ha
      rw [hx, Bool.or_false, Bool.and_eq_true, decide_eq_true_eq, decide_eq_true_eq] at ha
      rw [gAtom, hx]
      simp only [Bool.false_eq_true, if_false]
      by_cases k1 : kAt l i = 1
      · rw [if_pos k1]
        refine ⟨_, _, rfl, rfl, ?_⟩
        rw [leafV, if_pos (by omega), e1]
        exact sameT_mk rfl
      · by_cases k2 : kAt l i = 2
        · rw [if_neg k1, if_pos k2]
          refine ⟨_, _, rfl, rfl, ?_⟩
          rw [leafV, if_neg (by omega), if_pos (by omega), e1]
          exact sameT_mk rfl
        · have k3 : kAt l i = 3 := by omega
          rw [if_neg k1, if_neg k2, if_pos k3]
          refine ⟨_, _, rfl, rfl, ?_⟩
          rw [leafV, if_neg (by omega), if_neg (by omega), e3]
          exact sameT_mk rfl
theorem conLoop_sim (nm : ByteArray) (pc pc' : Int) : ∀ (m : Nat) (pl pl' : List Tr) (g j : Nat), sameL pl pl' = true → pl'.length + m = 8 → g ≤ F → 8 * (l.length - j) + 2 ≤ g →
    SimR l j (conLoopQ ex nm pc m pl (l.drop j)) (gAppL g l true (.node 6 nm 0 pc' pl') j)
  | 0, pl, pl', g, j, hs, hm, hg, hj => by
    obtain ⟨g, rfl⟩ : ∃ q, g = q + 1 := ⟨g - 1, by omega⟩
    intro t q h hna
    obtain ⟨rfl, rfl⟩ := retQ_ok h
    rw [atomS_a H hk1] at hna
    exact ⟨_, j, by rw [gAppL, if_neg (by simp [hna])], rfl, sameT_mk hs⟩
  | m + 1, pl, pl', g, j, hs, hm, hg, hj => by
    obtain ⟨g, rfl⟩ : ∃ q, g = q + 1 := ⟨g - 1, by omega⟩
    intro t q h hna
    rw [conLoopQ] at h
    cases ha : atomS (peekV (l.drop j) 0) with
    | false =>
      rw [ifQ_f ha] at h
      obtain ⟨rfl, rfl⟩ := retQ_ok h
      rw [atomS_a H hk1] at hna
      exact ⟨_, j, by rw [gAppL, if_neg (by simp [hna])], rfl, sameT_mk hs⟩
    | true =>
      rw [ifQ_t ha] at h
      obtain ⟨u, q1, h1, h⟩ := bindQ_ok h
      obtain ⟨u', j1, e1, rfl, e3⟩ := atom_sim H hk1 hX hE g (by omega) j (by omega) u q1 h1
      have hp := (prog_all g).atom l j u' j1 e1
      obtain ⟨t', j2, e4, e5, e6⟩ := conLoop_sim nm pc pc' m (pl ++ [u]) (pl' ++ [u']) g j1 (sameL_sn _ _ _ _ hs e3) (by simp; omega) (by omega) (by omega) t q h hna
      refine ⟨t', j2, ?_, e5, e6⟩
      rw [atomS_a H hk1] at ha
      rw [gAppL, if_pos ha, if_neg (fun h => by have := h.2; simp only [Tr.parts] at this; omega), e1]
      exact e4
theorem appLoop_sim (at_ : Int) : ∀ (n : Nat) (t t' : Tr) (g j : Nat), sameT t t' = true → l.length - j < n → g ≤ F → 8 * (l.length - j) + 2 ≤ g →
    SimR l j (appLoopQ ex at_ n t (l.drop j)) (gAppL g l false t' j)
  | 0, _, _, _, _, _, hn, _, _ => by omega
  | n + 1, t, t', g, j, hs, hn, hg, hj => by
    obtain ⟨g, rfl⟩ : ∃ q, g = q + 1 := ⟨g - 1, by omega⟩
    intro t9 q h hna
    rw [appLoopQ] at h
    cases ha : atomS (peekV (l.drop j) 0) with
    | false =>
      rw [ifQ_f ha] at h
      obtain ⟨rfl, rfl⟩ := retQ_ok h
      rw [atomS_a H hk1] at hna
      exact ⟨t', j, by rw [gAppL, if_neg (by simp [hna])], rfl, hs⟩
    | true =>
      rw [ifQ_t ha] at h
      obtain ⟨u, q1, h1, h⟩ := bindQ_ok h
      obtain ⟨u', j1, e1, rfl, e3⟩ := atom_sim H hk1 hX hE g (by omega) j (by omega) u q1 h1
      have hp := (prog_all g).atom l j u' j1 e1
      obtain ⟨t8, j2, e4, e5, e6⟩ := appLoop_sim at_ n (.node 3 ⟨#[]⟩ 0 at_ [t, u]) (.node 3 ⟨#[]⟩ 0 t'.place [t', u']) g j1 (sameT_mk (by simp [sameL, hs, e3])) (by omega) (by omega) (by omega) t9 q h hna
      refine ⟨t8, j2, ?_, e5, e6⟩
      rw [atomS_a H hk1] at ha
      rw [gAppL, if_pos ha, if_neg (fun h => by have := h.1; cases this), e1]
      exact e4
theorem app_sim {N : Nat} (hN : l.length < N) (g : Nat) (hg : g ≤ F) (i : Nat) (hi : 8 * (l.length - i) + 2 ≤ g) : SimR l i (appQ N ex (l.drop i)) (gApp g l i) := by
  obtain ⟨g, rfl⟩ : ∃ q, g = q + 1 := ⟨g - 1, by omega⟩
  intro t q h hna
  rw [appQ] at h
  by_cases hk : kAt l i = 2
  · rw [ifQ_t (by rw [isK_k]; exact decide_eq_true hk)] at h
    unfold conQ at h
    obtain ⟨a, q1, h1, h⟩ := bindQ_ok h
    obtain ⟨hil, hia, rfl⟩ := nextQ_ok h1
    obtain ⟨g', rfl⟩ : ∃ q, g = q + 1 := ⟨g - 1, by omega⟩
    obtain ⟨t', j, e1, e2, e3⟩ := conLoop_sim H hk1 hX hE _ a.place (plAt l i) 8 [] [] (g' + 1) (i + 1) rfl rfl (by omega) (by omega) t q h hna
    refine ⟨t', j, ?_, e2, e3⟩
    rw [gApp, gAtom_con hk, hk, (nm_some hia).1]
    exact e1
  · rw [ifQ_f (by rw [isK_k]; exact decide_eq_false hk)] at h
    obtain ⟨x, q1, h1, h⟩ := bindQ_ok h
    have h1 := hereQ_ok h1
    obtain ⟨u', j1, e1, rfl, e3⟩ := atom_sim H hk1 hX hE g (by omega) i (by omega) x.2 q1 h1
    have hp := (prog_all g).atom l i u' j1 e1
    obtain ⟨t', j, e4, e5, e6⟩ := appLoop_sim H hk1 hX hE x.1 N x.2 u' g j1 e3 (by omega) (by omega) (by omega) t q h hna
    refine ⟨t', j, ?_, e5, e6⟩
    rw [gApp, e1, decide_eq_false hk]
    exact e4
end
end Lx
end Go.Proofs.YteabbkhlgnoliaaGreatDoor
namespace Go.Proofs.YteabbkhlgnoliaaGreatDoor
namespace Lx
set_option maxRecDepth 100000
theorem isAny_x {l : List Tok} (H : KwOk l) {a b : List UInt8} (ha : a ∈ kwsL) (hb : b ∈ kwsL) (j : Nat) : isAny [a, b] (peekV (l.drop j) 0) = (xAt l j == a || xAt l j == b) := by
  rw [← isT_x H ha, ← isT_x H hb]
  simp [isAny, isT]
theorem nm_of_x {l : List Tok} {i : Nat} {s : List UInt8} (h : xAt l i = s) (hs : s ≠ []) : nmAt l i = ⟨s.toArray⟩ ∧ 4 ≤ kAt l i := by
  unfold xAt at h
  unfold nmAt kAt
  cases hi : l[i]? with
  | none => rw [hi] at h; exact absurd h.symm hs
  | some t =>
    rw [hi] at h
    simp only at h ⊢
    by_cases h4 : 4 ≤ t.kind
    · rw [if_pos h4] at h
      exact ⟨by rw [h], h4⟩
    · rw [if_neg h4] at h
      exact absurd h.symm hs
theorem rowLoop_sim {l : List Tok} {F : Nat} {sd : Rg Tr} (hSd : Nice sd) {ss : List (List UInt8)} {lev : Int} (hl : 0 < lev) (hsg : ∀ j, isAny ss (peekV (l.drop j) 0) = signA l j lev) (hsn : ∀ j, signA l j lev = true → atomS (peekV (l.drop j) 0) = false) {r : Nat} (hr : r ≤ 6)
    (hs : ∀ g, g ≤ F → ∀ i, 8 * (l.length - i) + r ≤ g → SimR l i (sd (l.drop i)) (gOps g l i (lev + 1))) (at_ : Int) : ∀ (n : Nat) (t t' : Tr) (k g j : Nat), sameT t t' = true → l.length - j < n → g ≤ F → 8 * (l.length - j) + 1 ≤ g →
    SimR l j (rowLoopQ sd ss at_ n t (l.drop j)) (gOpsL g l lev k t' j)
  | 0, _, _, _, _, _, _, hn, _, _ => by omega
  | n + 1, t, t', k, g, j, hst, hn, hg, hj => by
    obtain ⟨g, rfl⟩ : ∃ q, g = q + 1 := ⟨g - 1, by omega⟩
    intro t9 q h hna
    rw [rowLoopQ] at h
    cases ha : signA l j lev with
    | false =>
      rw [ifQ_f (by rw [hsg]; exact ha)] at h
      obtain ⟨rfl, rfl⟩ := retQ_ok h
      exact ⟨t', j, by rw [gOpsL, if_neg (by simp [ha])], rfl, hst⟩
    | true =>
      rw [ifQ_t (by rw [hsg]; exact ha)] at h
      obtain ⟨v, q2, h1, h⟩ := bindQ_ok h
      unfold opQ at h1
      obtain ⟨s, q1, h2, h1⟩ := bindQ_ok h1
      obtain ⟨hjl, hsi, rfl⟩ := nextQ_ok h2
      obtain ⟨u, q3, h3, h1⟩ := bindQ_ok h1
      obtain ⟨rfl, rfl⟩ := retQ_ok h1
      obtain ⟨j0, rfl⟩ := suf_drop hSd h3
      obtain ⟨n, rfl⟩ : ∃ m, n = m + 1 := ⟨n - 1, by omega⟩
      have hna2 : atomS (peekV (l.drop j0) 0) = false := by
        cases hb : signA l j0 lev with
        | true => exact hsn j0 hb
        | false =>
          have h9 := h
          rw [rowLoopQ, ifQ_f (by rw [hsg]; exact hb)] at h9
          obtain ⟨-, e⟩ := retQ_ok h9
          rw [← e]
          exact hna
      obtain ⟨u', j2, e1, e2, e3⟩ := hs g (by omega) (j + 1) (by omega) u _ h3 hna2
      have hp := (prog_all g).ops l (j + 1) (lev + 1) u' j2 e1
      rw [e2] at h
      obtain ⟨t8, j3, e4, e5, e6⟩ := rowLoop_sim hSd hl hsg hsn hr hs at_ (n + 1) _ (.node 10 (nmAt l j) 0 t'.place [t', u']) (k + 1) g j2 (by rw [(nm_some hsi).1]; exact sameT_mk (by simp [sameL, hst, e3])) (by omega) (by omega) (by omega) t9 q h hna
      refine ⟨t8, j3, ?_, e5, e6⟩
      rw [gOpsL, if_pos ⟨ha, .inl hl⟩, e1]
      exact e4
theorem row_sim {l : List Tok} {F : Nat} {sd : Rg Tr} (hSd : Nice sd) {ss : List (List UInt8)} {lev : Int} (hl : 0 < lev) (hl3 : lev ≠ 3) (hsg : ∀ j, isAny ss (peekV (l.drop j) 0) = signA l j lev) (hsn : ∀ j, signA l j lev = true → atomS (peekV (l.drop j) 0) = false) {r : Nat} (hr0 : 1 ≤ r) (hr : r ≤ 6)
    (hs : ∀ g, g ≤ F → ∀ i, 8 * (l.length - i) + r ≤ g → SimR l i (sd (l.drop i)) (gOps g l i (lev + 1))) {N : Nat} (hN : l.length < N) (g : Nat) (hg : g ≤ F) (i : Nat) (hi : 8 * (l.length - i) + (r + 1) ≤ g) :
    SimR l i (rowQ N sd ss (l.drop i)) (gOps g l i lev) := by
  obtain ⟨g, rfl⟩ : ∃ q, g = q + 1 := ⟨g - 1, by omega⟩
  intro t q h hna
  unfold rowQ at h
  obtain ⟨x, q1, h1, h⟩ := bindQ_ok h
  have h1 := hereQ_ok h1
  obtain ⟨j0, rfl⟩ := suf_drop hSd h1
  obtain ⟨N', rfl⟩ : ∃ m, N = m + 1 := ⟨N - 1, by omega⟩
  have hna2 : atomS (peekV (l.drop j0) 0) = false := by
    cases hb : signA l j0 lev with
    | true => exact hsn j0 hb
    | false =>
      have h9 := h
      rw [rowLoopQ, ifQ_f (by rw [hsg]; exact hb)] at h9
      obtain ⟨-, e⟩ := retQ_ok h9
      rw [← e]
      exact hna
  obtain ⟨u', j2, e1, e2, e3⟩ := hs g (by omega) i (by omega) x.2 _ h1 hna2
  have hp := (prog_all g).ops l i (lev + 1) u' j2 e1
  rw [e2] at h
  obtain ⟨t8, j3, e4, e5, e6⟩ := rowLoop_sim hSd hl hsg hsn hr hs x.1 (N' + 1) x.2 u' 0 g j2 e3 (by omega) (by omega) (by omega) t q h hna
  refine ⟨t8, j3, ?_, e5, e6⟩
  rw [gOps, if_neg hl3, e1]
  exact e4
section
variable {l : List Tok} (H : KwOk l) (hk1 : ∀ t ∈ l, 1 ≤ t.kind) {F : Nat}
include H hk1
theorem cmp_sim {sd : Rg Tr} (hSd : Nice sd) (hs : ∀ g, g ≤ F → ∀ i, 8 * (l.length - i) + 5 ≤ g → SimR l i (sd (l.drop i)) (gOps g l i (0 + 1))) (g : Nat) (hg : g ≤ F) (i : Nat) (hi : 8 * (l.length - i) + 6 ≤ g) :
    SimR l i (cmpQ sd (l.drop i)) (gOps g l i 0) := by
  obtain ⟨g, rfl⟩ : ∃ q, g = q + 1 := ⟨g - 1, by omega⟩
  have hsg : ∀ j, isAny [[60], [61, 61]] (peekV (l.drop j) 0) = signA l j 0 := fun j => by rw [isAny_x H (by decide) (by decide)]; rfl
  have hsn : ∀ j, signA l j 0 = true → atomS (peekV (l.drop j) 0) = false := fun j h => by
    have h : (xAt l j == [60] || xAt l j == [61, 61]) = true := h
    rw [Bool.or_eq_true] at h
    rcases h with h | h
    · exact not_atom H hk1 (s := [60]) (by decide) (by decide) (eq_of_beq h)
    · exact not_atom H hk1 (s := [61, 61]) (by decide) (by decide) (eq_of_beq h)
  intro t q h hna
  unfold cmpQ at h
  obtain ⟨x, q1, h1, h⟩ := bindQ_ok h
  have h1 := hereQ_ok h1
  obtain ⟨j0, rfl⟩ := suf_drop hSd h1
  cases hb : signA l j0 0 with
  | false =>
    rw [ifQ_f (by rw [hsg]; exact hb)] at h
    obtain ⟨rfl, rfl⟩ := retQ_ok h
    obtain ⟨u', j2, e1, e2, e3⟩ := hs g (by omega) i (by omega) x.2 _ h1 hna
    refine ⟨u', j2, ?_, e2, e3⟩
    obtain ⟨g, rfl⟩ : ∃ q, g = q + 1 := ⟨g - 1, by omega⟩
    have hb2 : signA l j2 0 = false := by rw [← hsg, ← e2, hsg]; exact hb
    rw [gOps, if_neg (by decide), e1]
    show gOpsL (g + 1) l 0 0 u' j2 = _
    rw [gOpsL, if_neg (by simp [hb2])]
  | true =>
    rw [ifQ_t (by rw [hsg]; exact hb)] at h
    obtain ⟨u', j2, e1, e2, e3⟩ := hs g (by omega) i (by omega) x.2 _ h1 (hsn j0 hb)
    have hp := (prog_all g).ops l i (0 + 1) u' j2 e1
    have hb2 : signA l j2 0 = true := by rw [← hsg, ← e2, hsg]; exact hb
    rw [e2] at h
    unfold opQ at h
    obtain ⟨s, q1, h2, h⟩ := bindQ_ok h
    obtain ⟨hjl, hsi, rfl⟩ := nextQ_ok h2
    obtain ⟨v, q3, h3, h⟩ := bindQ_ok h
    obtain ⟨rfl, rfl⟩ := retQ_ok h
    obtain ⟨g, rfl⟩ : ∃ q, g = q + 1 := ⟨g - 1, by omega⟩
    obtain ⟨v', j3, e4, e5, e6⟩ := hs g (by omega) (j2 + 1) (by omega) v _ h3 hna
    obtain ⟨g, rfl⟩ : ∃ q, g = q + 1 := ⟨g - 1, by omega⟩
    refine ⟨.node 10 (nmAt l j2) 0 u'.place [u', v'], j3, ?_, e5, by rw [(nm_some hsi).1]; exact sameT_mk (by simp [sameL, e3, e6])⟩
    rw [gOps, if_neg (by decide), e1]
    show gOpsL (g + 1 + 1) l 0 0 u' j2 = _
    rw [gOpsL, if_pos ⟨hb2, .inr (by decide)⟩, e4]
    show gOpsL (g + 1) l 0 1 _ j3 = _
    rw [gOpsL, if_neg (by omega)]
end
theorem lam_sim {l : List Tok} (H : KwOk l) {ex : Rg Tr} {F : Nat}
    (hE : ∀ g, g < F → ∀ i, 8 * (l.length - i) + 7 ≤ g → SimR l i (ex (l.drop i)) (gExpr g l i)) (g : Nat) (hg : g ≤ F) (i : Nat) (hi : 8 * (l.length - i) + 6 ≤ g) : SimR l i (lamQ ex (l.drop i)) (gLam g l i) := by
  obtain ⟨g, rfl⟩ : ∃ q, g = q + 1 := ⟨g - 1, by omega⟩
  intro t q h hna
  unfold lamQ at h
  obtain ⟨x1, q1, h1, h⟩ := bindQ_ok h
  obtain ⟨hx1, hi1, -, rfl⟩ := takeQ_ok H (by decide) h1
  obtain ⟨x2, q2, h2, h⟩ := bindQ_ok h
  obtain ⟨hk2, hi2, hx2, rfl⟩ := takeKQ_ok h2
  obtain ⟨x3, q3, h3, h⟩ := bindQ_ok h
  obtain ⟨hx3, hi3, -, rfl⟩ := takeQ_ok H (by decide) h3
  obtain ⟨b, q4, h4, h⟩ := bindQ_ok h
  obtain ⟨rfl, rfl⟩ := retQ_ok h
  obtain ⟨b', j, e1, e2, e3⟩ := hE g (by omega) (i + 3) (by omega) _ _ h4 hna
  refine ⟨.node 2 (nmAt l (i + 1)) 0 (plAt l i) [b'], j, ?_, e2, by rw [(nm_some hx2).1]; exact sameT_mk (by simp [sameL, e3])⟩
  rw [gLam, if_neg (fun h => h hk2), if_neg (fun h => h hx3), e1]
section
variable {l : List Tok} (H : KwOk l) (hk1 : ∀ t ∈ l, 1 ≤ t.kind) {ex : Rg Tr} (hX : Nice ex) {F : Nat}
  (hE : ∀ g, g < F → ∀ i, 8 * (l.length - i) + 7 ≤ g → SimR l i (ex (l.drop i)) (gExpr g l i))
include H hk1 hX hE
theorem ops_sim {N : Nat} (hN : l.length < N) (g : Nat) (hg : g ≤ F) (i : Nat) (hi : 8 * (l.length - i) + 6 ≤ g) : SimR l i (cmpQ (sumQ N ex) (l.drop i)) (gOps g l i 0) := by
  have s3 : ∀ g, g ≤ F → ∀ i, 8 * (l.length - i) + 3 ≤ g → SimR l i (appQ N ex (l.drop i)) (gOps g l i (2 + 1)) := fun g hg i hi => by
    obtain ⟨g, rfl⟩ : ∃ q, g = q + 1 := ⟨g - 1, by omega⟩
    have h := app_sim H hk1 hX hE hN g (by omega) i (by omega)
    rw [gOps, if_pos (by decide)]
    exact h
  have n2 : ∀ j, signA l j 2 = true → atomS (peekV (l.drop j) 0) = false := fun j h => by
    have h : (xAt l j == [42] || xAt l j == [47]) = true := h
    rw [Bool.or_eq_true] at h
    rcases h with h | h
    · exact not_atom H hk1 (s := [42]) (by decide) (by decide) (eq_of_beq h)
    · exact not_atom H hk1 (s := [47]) (by decide) (by decide) (eq_of_beq h)
  have n1 : ∀ j, signA l j 1 = true → atomS (peekV (l.drop j) 0) = false := fun j h => by
    have h : (xAt l j == [43] || xAt l j == [45]) = true := h
    rw [Bool.or_eq_true] at h
    rcases h with h | h
    · exact not_atom H hk1 (s := [43]) (by decide) (by decide) (eq_of_beq h)
    · exact not_atom H hk1 (s := [45]) (by decide) (by decide) (eq_of_beq h)
  have s2 : ∀ g, g ≤ F → ∀ i, 8 * (l.length - i) + 4 ≤ g → SimR l i (prodQ N ex (l.drop i)) (gOps g l i (1 + 1)) := fun g hg i hi =>
    row_sim (nice_app hX) (by decide) (by decide) (fun j => by rw [isAny_x H (by decide) (by decide)]; rfl) n2 (r := 3) (by decide) (by decide) s3 hN g hg i hi
  have s1 : ∀ g, g ≤ F → ∀ i, 8 * (l.length - i) + 5 ≤ g → SimR l i (sumQ N ex (l.drop i)) (gOps g l i (0 + 1)) := fun g hg i hi =>
    row_sim (nice_prod hX) (by decide) (by decide) (fun j => by rw [isAny_x H (by decide) (by decide)]; rfl) n1 (r := 4) (by decide) (by decide) s2 hN g hg i hi
  exact cmp_sim H hk1 (nice_sum hX) s1 g hg i hi
theorem let_sim (k : Int) (i : Nat) (hk : (k = 4 ∧ xAt l i = [108, 101, 116]) ∨ (k = 5 ∧ xAt l i = [108, 101, 116, 114, 101, 99])) (g : Nat) (hg : g ≤ F) (hi : 8 * (l.length - i) + 6 ≤ g) : SimR l i (letQ k ex (l.drop i)) (gLet g l i) := by
  obtain ⟨g, rfl⟩ : ∃ q, g = q + 1 := ⟨g - 1, by omega⟩
  intro t q h hna
  unfold letQ at h
  obtain ⟨x1, q1, h1, h⟩ := bindQ_ok h
  obtain ⟨hi1, -, rfl⟩ := nextQ_ok h1
  obtain ⟨x2, q2, h2, h⟩ := bindQ_ok h
  obtain ⟨hk2, hi2, hx2, rfl⟩ := takeKQ_ok h2
  obtain ⟨x3, q3, h3, h⟩ := bindQ_ok h
  obtain ⟨hx3, hi3, -, rfl⟩ := takeQ_ok H (by decide) h3
  obtain ⟨a, q4, h4, h⟩ := bindQ_ok h
  obtain ⟨x5, q5, h5, h⟩ := bindQ_ok h
  obtain ⟨b, q6, h6, h⟩ := bindQ_ok h
  obtain ⟨rfl, rfl⟩ := retQ_ok h
  obtain ⟨j0, rfl⟩ := suf_drop hX h4
  obtain ⟨a', j, e1, e2, e3⟩ := hE g (by omega) (i + 3) (by omega) _ _ h4 (take_not H hk1 (by decide) (by decide) h5)
  have hp := (prog_all g).expr l (i + 3) a' j e1
  rw [e2] at h5
  obtain ⟨hx5, hi5, -, rfl⟩ := takeQ_ok H (by decide) h5
  obtain ⟨b', j2, e4, e5, e6⟩ := hE g (by omega) (j + 1) (by omega) _ _ h6 hna
  have hkk : (if nmAt l i = ⟨letrecS.toArray⟩ then (5 : Int) else 4) = k := by
    rcases hk with ⟨rfl, hx⟩ | ⟨rfl, hx⟩
    · rw [(nm_of_x hx (by simp)).1, if_neg (by decide)]
    · rw [(nm_of_x hx (by simp)).1]; rfl
  refine ⟨.node k (nmAt l (i + 1)) 0 (plAt l i) [a', b'], j2, ?_, e5, by rw [(nm_some hx2).1]; exact sameT_mk (by simp [sameL, e3, e6])⟩
  rw [gLet, if_neg (fun h => h hk2), if_neg (fun h => h hx3), e1]
  simp only [show (inS : List UInt8) = [105, 110] from rfl, hx5, ne_eq, not_true_eq_false, if_false, e4, hkk]
end
end Lx
end Go.Proofs.YteabbkhlgnoliaaGreatDoor
namespace Go.Proofs.YteabbkhlgnoliaaGreatDoor
namespace Lx
set_option maxRecDepth 100000
mutual
theorem same_refl : ∀ t : Tr, sameT t t = true
  | .node _k _s _n _a l => sameT_mk (same_reflL l)
theorem same_reflL : ∀ l : List Tr, sameL l l = true
  | [] => rfl
  | t :: r => by rw [sameL, same_refl t, same_reflL r]; rfl
end
theorem sign_k {l : List Tok} {i : Nat} {s : List UInt8} (h : xAt l i = s) (hs : s ≠ []) : ¬ kAt l i = 1 := by
  have := (nm_of_x h hs).2
  omega
/-- Behind the alternative that was read: is there another one? -/
def gDec (g : Nat) (l : List Tok) (i j : Nat) (acc : List Tr) : GR :=
  if xAt l j = [125] then .ok (.node 7 ⟨#[]⟩ 0 (plAt l i) acc, j + 1) else if xAt l j ≠ [124] ∨ acc.length = 9 then .error j else gAlts g l i (j + 1) acc
theorem gAlts_dec {g : Nat} {l : List Tok} {i j j2 : Nat} {acc : List Tr} {b : Tr} (h : gAlt g l j = .ok (b, j2)) : gAlts (g + 1) l i j acc = gDec g l i j2 (acc ++ [b]) := by
  rw [gAlts, h]
  unfold gDec
  simp only [List.length_append, List.length_cons, List.length_nil, Nat.zero_add]
  by_cases hx : xAt l j2 = [125]
  · simp [hx]
  · by_cases hy : xAt l j2 ≠ [124] ∨ acc.length = 8
    · have hy2 : xAt l j2 ≠ [124] ∨ acc.length + 1 = 9 := by exact hy.elim .inl (fun h => .inr (by omega))
      rw [if_neg hx, if_neg hx, if_pos hy, if_pos hy2]
    · have hy2 : ¬ (xAt l j2 ≠ [124] ∨ acc.length + 1 = 9) := fun h => hy (h.elim .inl (fun h => .inr (by omega)))
      rw [if_neg hx, if_neg hx, if_neg hy, if_neg hy2]
theorem leaf_kind1 {g : Nat} {l : List Tok} {i : Nat} (hk : kAt l i = 1) : gAtom (g + 1) l i = .ok (.node 1 (nmAt l i) 0 (plAt l i) [], i + 1) := by
  have hx : xAt l i = [] := by
    unfold xAt
    unfold kAt at hk
    cases hl : l[i]? with
    | none => rfl
    | some t => rw [hl] at hk; simp only at hk; simp only; rw [if_neg (by omega)]
  rw [gAtom, hx, hk]
  simp
section
variable {l : List Tok} (H : KwOk l) (hk1 : ∀ t ∈ l, 1 ≤ t.kind) {ex : Rg Tr} (hX : Nice ex) {F : Nat}
  (hE : ∀ g, g < F → ∀ i, 8 * (l.length - i) + 7 ≤ g → SimR l i (ex (l.drop i)) (gExpr g l i))
include H hk1 hX hE
theorem altLoop_sim (nm : ByteArray) (pc : Int) (G : Nat) (hG : G < F) (i0 : Nat) (hi0 : 8 * (l.length - i0) + 1 ≤ G + 1) : ∀ (m : Nat) (pl pl' : List Tr) (g j : Nat), sameL pl pl' = true → pl'.length + m = 8 → l.length - j < g → i0 ≤ j → ∀ t q, altLoopQ ex nm pc m pl (l.drop j) = .ok (t, q) → atomS (peekV q 0) = false →
    ∃ vs j1 b' j2, gNames g l j pl' = .ok (vs, j1) ∧ xAt l j1 = [45, 62] ∧ gExpr G l (j1 + 1) = .ok (b', j2) ∧ q = l.drop j2 ∧ ∀ pc', sameT t (.node 8 nm vs.length pc' (vs ++ [b'])) = true := by
  have hend : ∀ (pl pl' : List Tr) (g j : Nat), sameL pl pl' = true → l.length - j < g → i0 ≤ j → ∀ t q, altEndQ ex nm pc pl (l.drop j) = .ok (t, q) → atomS (peekV q 0) = false →
      ∃ vs j1 b' j2, gNames g l j pl' = .ok (vs, j1) ∧ xAt l j1 = [45, 62] ∧ gExpr G l (j1 + 1) = .ok (b', j2) ∧ q = l.drop j2 ∧ ∀ pc', sameT t (.node 8 nm vs.length pc' (vs ++ [b'])) = true := by
    intro pl pl' g j hs hg hij t q h hna
    obtain ⟨g, rfl⟩ : ∃ q, g = q + 1 := ⟨g - 1, by omega⟩
    unfold altEndQ at h
    obtain ⟨x, q1, h1, h⟩ := bindQ_ok h
    obtain ⟨hx, hj, -, rfl⟩ := takeQ_ok H (by decide) h1
    obtain ⟨b, q2, h2, h⟩ := bindQ_ok h
    obtain ⟨rfl, rfl⟩ := retQ_ok h
    obtain ⟨b', j2, e1, e2, e3⟩ := hE G hG (j + 1) (by omega) _ _ h2 hna
    refine ⟨pl', j, b', j2, by rw [gNames, if_neg (sign_k hx (by simp))], hx, e1, e2, fun pc' => ?_⟩
    rw [sameL_len _ _ hs]
    exact sameT_mk (sameL_sn _ _ _ _ hs e3)
  intro m
  induction m with
  | zero => exact fun pl pl' g j hs _ hg hij => hend pl pl' g j hs hg hij
  | succ m ih =>
    intro pl pl' g j hs hm hg hij t q h hna
    rw [altLoopQ] at h
    by_cases hk : kAt l j = 1
    · obtain ⟨g, rfl⟩ : ∃ q, g = q + 1 := ⟨g - 1, by omega⟩
      rw [ifQ_t (by rw [isK_k]; exact decide_eq_true hk)] at h
      obtain ⟨u, q1, h1, h⟩ := bindQ_ok h
      have hjl := kAt_lt (l := l) (i := j) (by omega)
      obtain ⟨G', hG'⟩ : ∃ q, G + 1 = q + 1 := ⟨G, rfl⟩
      obtain ⟨u', j1, e1, rfl, e3⟩ := atom_sim H hk1 hX hE (G + 1) (by omega) j (by omega) u q1 h1
      rw [leaf_kind1 hk] at e1
      cases e1
      obtain ⟨vs, j1, b', j2, e4, e5, e6, e7, e8⟩ := ih (pl ++ [u]) (pl' ++ [.node 1 (nmAt l j) 0 (plAt l j) []]) g (j + 1) (sameL_sn _ _ _ _ hs e3) (by simp; omega) (by omega) (by omega) t q h hna
      exact ⟨vs, j1, b', j2, by rw [gNames, if_pos hk, if_neg (by omega)]; exact e4, e5, e6, e7, e8⟩
    · rw [ifQ_f (by rw [isK_k]; exact decide_eq_false hk)] at h
      exact hend pl pl' g j hs hg hij t q h hna
theorem alt_sim (g : Nat) (hg : g ≤ F) (i : Nat) (hi : 8 * (l.length - i) + 6 ≤ g) : SimR l i (altQ ex (l.drop i)) (gAlt g l i) := by
  obtain ⟨g, rfl⟩ : ∃ q, g = q + 1 := ⟨g - 1, by omega⟩
  intro t q h hna
  unfold altQ at h
  obtain ⟨x, q1, h1, h⟩ := bindQ_ok h
  obtain ⟨hk, hil, hx, rfl⟩ := takeKQ_ok h1
  obtain ⟨vs, j1, b', j2, e1, e2, e3, e4, e5⟩ := altLoop_sim H hk1 hX hE _ x.place g (by omega) (i + 1) (by omega) 8 [] [] (l.length + 1) (i + 1) rfl rfl (by omega) (Nat.le_refl _) t q h hna
  refine ⟨.node 8 (nmAt l i) vs.length (plAt l i) (vs ++ [b']), j2, ?_, e4, by rw [(nm_some hx).1]; exact e5 _⟩
  rw [gAlt, if_neg (fun h => h hk), e1]
  simp only [e2, ne_eq, not_true_eq_false, if_false, e3]
theorem choiceLoop_sim (pc : Int) (i : Nat) : ∀ (m : Nat) (acc acc' : List Tr) (g j : Nat), sameL acc acc' = true → acc'.length + m = 9 → g ≤ F → 8 * (l.length - j) + 7 ≤ g → ∀ t q, choiceLoopQ (altQ ex) pc m acc (l.drop j) = .ok (t, q) →
    atomS (peekV (l.drop j) 0) = false ∧ ∃ t' j2, gDec g l i j acc' = .ok (t', j2) ∧ q = l.drop j2 ∧ sameT t t' = true := by
  have hend : ∀ (acc acc' : List Tr) (g j : Nat), sameL acc acc' = true → ∀ t q, choiceEndQ pc acc (l.drop j) = .ok (t, q) →
      atomS (peekV (l.drop j) 0) = false ∧ ∃ t' j2, gDec g l i j acc' = .ok (t', j2) ∧ q = l.drop j2 ∧ sameT t t' = true := by
    intro acc acc' g j hs t q h
    unfold choiceEndQ at h
    obtain ⟨x, q1, h1, h⟩ := bindQ_ok h
    obtain ⟨hx, hj, -, rfl⟩ := takeQ_ok H (by decide) h1
    obtain ⟨rfl, rfl⟩ := retQ_ok h
    exact ⟨not_atom H hk1 (s := [125]) (by decide) (by decide) hx, _, j + 1, by unfold gDec; rw [if_pos hx], rfl, sameT_mk hs⟩
  intro m
  induction m with
  | zero => exact fun acc acc' g j hs _ _ _ => hend acc acc' g j hs
  | succ m ih =>
    intro acc acc' g j hs hm hg hj t q h
    rw [choiceLoopQ] at h
    cases hx : xAt l j == [124] with
    | false =>
      rw [ifQ_f (by rw [isT_x H (by decide)]; exact hx)] at h
      exact hend acc acc' g j hs t q h
    | true =>
      rw [ifQ_t (by rw [isT_x H (by decide)]; exact hx)] at h
      obtain ⟨x, q1, h1, h⟩ := bindQ_ok h
      obtain ⟨hx1, hjl, -, rfl⟩ := takeQ_ok H (by decide) h1
      obtain ⟨y, q2, h2, h⟩ := bindQ_ok h
      obtain ⟨j0, rfl⟩ := suf_drop (nice_alt hX) h2
      obtain ⟨g, rfl⟩ : ∃ q, g = q + 1 := ⟨g - 1, by omega⟩
      have hna : atomS (peekV (l.drop j0) 0) = false := by
        cases m with
        | zero => exact (hend _ _ 0 j0 (sameL_sn _ _ _ _ hs (show sameT y y = true from same_refl y)) t q h).1
        | succ m =>
          have h9 := h
          rw [choiceLoopQ] at h9
          cases hz : xAt l j0 == [124] with
          | true => exact not_atom H hk1 (s := [124]) (by decide) (by decide) (eq_of_beq hz)
          | false =>
            rw [ifQ_f (by rw [isT_x H (by decide)]; exact hz)] at h9
            exact (hend _ _ 0 j0 (sameL_sn _ _ _ _ hs (show sameT y y = true from same_refl y)) t q h9).1
      obtain ⟨y', j2, e1, e2, e3⟩ := alt_sim H hk1 hX hE g (by omega) (j + 1) (by omega) y _ h2 hna
      have hp := (prog_all g).alt l (j + 1) y' j2 e1
      rw [e2] at h
      obtain ⟨-, t', j3, e4, e5, e6⟩ := ih (acc ++ [y]) (acc' ++ [y']) g j2 (sameL_sn _ _ _ _ hs e3) (by simp; omega) (by omega) (by omega) t q h
      refine ⟨not_atom H hk1 (s := [124]) (by decide) (by decide) hx1, t', j3, ?_, e5, e6⟩
      unfold gDec
      rw [if_neg (by rw [hx1]; decide), if_neg (by rw [hx1]; simp; omega), gAlts_dec e1]
      exact e4
theorem match_sim (g : Nat) (hg : g ≤ F) (i : Nat) (hi : 8 * (l.length - i) + 6 ≤ g) : SimR l i (choiceQ ex (l.drop i)) (gMatch g l i) := by
  obtain ⟨g, rfl⟩ : ∃ q, g = q + 1 := ⟨g - 1, by omega⟩
  intro t q h hna
  unfold choiceQ at h
  obtain ⟨x1, q1, h1, h⟩ := bindQ_ok h
  obtain ⟨hx1, hi1, -, rfl⟩ := takeQ_ok H (by decide) h1
  obtain ⟨a, q2, h2, h⟩ := bindQ_ok h
  obtain ⟨x3, q3, h3, h⟩ := bindQ_ok h
  obtain ⟨x4, q4, h4, h⟩ := bindQ_ok h
  obtain ⟨y, q5, h5, h⟩ := bindQ_ok h
  obtain ⟨j0, rfl⟩ := suf_drop hX h2
  obtain ⟨a', j, e1, e2, e3⟩ := hE g (by omega) (i + 1) (by omega) _ _ h2 (take_not H hk1 (by decide) (by decide) h3)
  have hp := (prog_all g).expr l (i + 1) a' j e1
  rw [e2] at h3
  obtain ⟨hx3, hi3, -, rfl⟩ := takeQ_ok H (by decide) h3
  obtain ⟨hx4, hi4, -, rfl⟩ := takeQ_ok H (by decide) h4
  obtain ⟨j5, rfl⟩ := suf_drop (nice_alt hX) h5
  obtain ⟨g, rfl⟩ : ∃ q, g = q + 1 := ⟨g - 1, by omega⟩
  -- what follows the first alternative is no atom
  have hna2 : atomS (peekV (l.drop j5) 0) = false := by
    rcases Nat.lt_or_ge F 0 with h9 | h9
    · omega
    · have := choiceLoop_sim H hk1 hX hE x1.place i 7 [a, y] [a, y] F j5 (by simp [sameL, same_refl]) rfl (Nat.le_refl _) ?_ t q h
      · exact this.1
      · have h8 := (nice_alt hX).suf (l.drop (j + 1 + 1))
        rw [h5] at h8
        obtain ⟨c, hc⟩ := h8
        have h7 := congrArg List.length hc
        simp [remQ] at h7
        omega
  obtain ⟨y', j6, e4, e5, e6⟩ := alt_sim H hk1 hX hE g (by omega) (j + 1 + 1) (by omega) y _ h5 hna2
  have hp2 := (prog_all g).alt l (j + 1 + 1) y' j6 e4
  rw [e5] at h
  obtain ⟨-, t', j7, e7, e8, e9⟩ := choiceLoop_sim H hk1 hX hE x1.place i 7 [a, y] [a', y'] g j6 (by simp [sameL, e3, e6]) rfl (by omega) (by omega) t q h
  refine ⟨t', j7, ?_, e8, e9⟩
  rw [gMatch, e1]
  simp only [show (ofS : List UInt8) = [111, 102] from rfl, hx3, hx4, ne_eq, not_true_eq_false, if_false]
  rw [gAlts_dec e4]
  exact e7
end
/-- Whole expressions. -/
theorem expr_sim {l : List Tok} (H : KwOk l) (hk1 : ∀ t ∈ l, 1 ≤ t.kind) {N : Nat} (hN : l.length < N) : ∀ (n g i : Nat), 8 * (l.length - i) + 7 ≤ g → SimR l i (exprQ N n (l.drop i)) (gExpr g l i)
  | 0, g, i, hi => fun t q h => by cases h
  | n + 1, g, i, hi => by
    obtain ⟨g, rfl⟩ : ∃ q, g = q + 1 := ⟨g - 1, by omega⟩
    have hX := nice_expr N n
    have hE : ∀ g', g' < g → ∀ i, 8 * (l.length - i) + 7 ≤ g' → SimR l i (exprQ N n (l.drop i)) (gExpr g' l i) := fun g' _ i hi => expr_sim H hk1 hN n g' i hi
    intro t q h hna
    rw [exprQ] at h
    rw [gExpr]
    cases x1 : xAt l i == [92] with
    | true =>
      rw [ifQ_t (by rw [isT_x H (by decide)]; exact x1)] at h
      rw [if_pos rfl]
      exact lam_sim H hE g (Nat.le_refl _) i (by omega) t q h hna
    | false =>
      rw [ifQ_f (by rw [isT_x H (by decide)]; exact x1)] at h
      rw [if_neg (by simp)]
      cases x2 : xAt l i == [108, 101, 116] with
      | true =>
        rw [ifQ_t (by rw [isT_x H (by decide)]; exact x2)] at h
        rw [if_pos (by rw [show (xAt l i == letS) = true from x2]; rfl)]
        exact let_sim H hk1 hX hE 4 i (.inl ⟨rfl, eq_of_beq x2⟩) g (Nat.le_refl _) (by omega) t q h hna
      | false =>
        rw [ifQ_f (by rw [isT_x H (by decide)]; exact x2)] at h
        cases x3 : xAt l i == [108, 101, 116, 114, 101, 99] with
        | true =>
          rw [ifQ_t (by rw [isT_x H (by decide)]; exact x3)] at h
          rw [if_pos (by rw [show (xAt l i == letrecS) = true from x3, Bool.or_true])]
          exact let_sim H hk1 hX hE 5 i (.inr ⟨rfl, eq_of_beq x3⟩) g (Nat.le_refl _) (by omega) t q h hna
        | false =>
          rw [ifQ_f (by rw [isT_x H (by decide)]; exact x3)] at h
          rw [if_neg (by rw [show (xAt l i == letS) = false from x2, show (xAt l i == letrecS) = false from x3]; simp)]
          cases x4 : xAt l i == [99, 97, 115, 101] with
          | true =>
            rw [ifQ_t (by rw [isT_x H (by decide)]; exact x4)] at h
            rw [if_pos (by exact x4)]
            exact match_sim H hk1 hX hE g (Nat.le_refl _) i (by omega) t q h hna
          | false =>
            rw [ifQ_f (by rw [isT_x H (by decide)]; exact x4)] at h
            rw [if_neg (by rw [show (xAt l i == caseS) = false from x4]; simp)]
            exact ops_sim H hk1 hX hE hN g (Nat.le_refl _) i (by omega) t q h hna
end Lx
end Go.Proofs.YteabbkhlgnoliaaGreatDoor
namespace Go.Proofs.YteabbkhlgnoliaaGreatDoor
namespace Lx
set_option maxRecDepth 100000
theorem run_take_ld {u : List UInt8} (h : 0 < run ldR u) : ∃ c r, u.take (run ldR u) = c :: r ∧ ldR (c.toNat : Int) = true := by
  cases u with
  | nil => simp [run] at h
  | cons c r =>
    have hc := run_take_all ldR (c :: r)
    obtain ⟨n, hn⟩ : ∃ n, run ldR (c :: r) = n + 1 := ⟨run ldR (c :: r) - 1, by omega⟩
    rw [hn] at hc ⊢
    exact ⟨c, r.take n, by simp, hc c (by simp)⟩
theorem good_kw {t : Tok} (h : Good t) : 1 ≤ t.kind ∧ (t.kind < 4 → t.text ∉ kwsL) := by
  obtain ⟨u, h⟩ := h
  unfold tokK at h
  split at h
  · rename_i hr
    split at h
    · rename_i k n h1
      simp only [Except.ok.injEq, Prod.mk.injEq] at h
      obtain ⟨hk, -, ht⟩ := h
      obtain ⟨c, r, hc, hld⟩ := run_take_ld hr
      have hw : k < 4 → wordS (u.take (run ldR u)) = false := by
        intro hk4
        unfold runK at h1
        split at h1
        · rename_i hd
          rw [hc] at hd ⊢
          cases hw : wordS (c :: r) with
          | false => rfl
          | true =>
            exfalso
            have : digR (c.toNat : Int) = true := by
              cases hdc : digR (c.toNat : Int) with
              | true => rfl
              | false => simp [run, hdc] at hd
            unfold wordS at hw
            simp only [Bool.or_eq_true, beq_iff_eq, List.cons.injEq] at hw
            rcases hw with h | h | h | h | h <;> (rw [h.1] at this; revert this; decide)
        · split at h1
          · cases h1
          · split at h1
            · cases h1; omega
            · rename_i hw
              simpa using hw
      refine ⟨?_, fun hk4 hm => ?_⟩
      · unfold runK numK at h1
        rw [← hk]
        split at h1
        · split at h1
          · cases h1
          · split at h1
            · cases h1
            · cases h1; decide
        · split at h1
          · cases h1
          · split at h1
            · cases h1; decide
            · split at h1
              · cases h1; decide
              · cases h1; decide
      · have hw := hw (by omega)
        rw [ht] at hw
        rw [ht] at hc
        rw [hc] at hm hw
        unfold kwsL at hm
        simp only [List.mem_cons, List.not_mem_nil, or_false, List.cons.injEq] at hm
        unfold wordS at hw
        simp only [Bool.or_eq_false_iff, beq_eq_false_iff_ne, ne_eq, List.cons.injEq] at hw
        obtain ⟨w1, w2, w3, w4, w5⟩ := hw
        rcases hm with h | h | h | h | h | h | h | h | h | h | h | h | h | h | h | h | h | h | h | h
        all_goals first | exact w1 h | exact w2 h | exact w3 h | exact w4 h | exact w5 h | (rw [h.1] at hld; revert hld; decide)
    · cases h
  · split at h
    · simp only [Except.ok.injEq, Prod.mk.injEq] at h
      exact ⟨by rw [← h.1]; decide, fun h4 => by rw [← h.1] at h4; omega⟩
    · cases h
theorem show_read2 {t : Tr} (hm : mayV t = true) (_hs : sizeT t ≤ 4000) (hsl : (showT t).length ≤ 4096) : ∃ us u, allK (showT t) = .ok us ∧ wholeQ us = .ok u ∧ sameT t u = true := by
  simp only [mayV, Bool.and_eq_true, decide_eq_true_eq] at hm
  obtain ⟨us, h1, h2⟩ := lxs_tree t hm.2
  obtain ⟨hg, hln, _⟩ := allK_GL h1
  have hle : us.length = (tkT t).length := by
    have := congrArg List.length h2
    simpa using this
  have hds := depth_le_size t
  have hlv := ((rd_tree (depthT t) t (Nat.le_refl _) hm.2).1 hm.1).1 20000 19999 (by omega) (by omega)
  have hq : wholeQ (tkT t) = .ok (bareT t) := by
    have h3 := hlv.c0 (level_pos t) [] stops_nil
    rw [List.append_nil] at h3
    exact ok_whole h3
  have hgc : GL (tkT t) := fun x hx => by
    have hm2 : er x ∈ us.map er := by rw [h2]; exact List.mem_map_of_mem hx
    obtain ⟨y, hy, he⟩ := List.mem_map.1 hm2
    obtain ⟨⟨l, hgl⟩, _⟩ := hg y hy
    refine ⟨⟨l, ?_⟩, by rw [pl0_tree t x hx]; decide⟩
    rw [hgl, er_kind he, er_n he, er_text he]
  obtain ⟨u, h4, h5⟩ := whole_sim (b := false) hgc (by omega) hq (show Rel false (tkT t) us from by unfold Rel xq; simpa using h2)
  exact ⟨us, u, h1, h4, same_trans _ _ _ (same_bareT t) h5⟩
theorem parsed_ok {s : List UInt8} {t : Tr} (hs : s.length ≤ 1000) (hp : parseV s 200 = .ok t) (hu : (showT t).length ≤ 4096) : ∃ v, parseG (showT t) 200 = .ok v ∧ sameT t v = true := by
  obtain ⟨_, _, ts, hk, hw, hd, hi⟩ := parseV_ok hp
  have hm := (ok_may hp).1
  have hsz : sizeT t ≤ 4000 := by
    have h2 := hi.sz
    have h3 := (allK_GL hk).2.1
    omega
  obtain ⟨us, u, h1, h2, h3⟩ := show_read2 hm hsz hu
  obtain ⟨hg, hln, _⟩ := allK_GL h1
  have hH : KwOk us := fun x hx => (good_kw (hg x hx).1).2
  have hK : ∀ x ∈ us, 1 ≤ x.kind := fun x hx => (good_kw (hg x hx).1).1
  have hq : exprQ 20000 20000 us = .ok (u, []) := by
    unfold wholeQ allQ at h2
    cases he : exprQ 20000 20000 us with
    | error q => rw [he] at h2; cases h2
    | ok x =>
      obtain ⟨a, q⟩ := x
      rw [he] at h2
      cases q with
      | nil => cases h2; rfl
      | cons b r => cases h2
  obtain ⟨v, j, e1, e2, e3⟩ := expr_sim hH hK (N := 20000) (by omega) 20000 (8 * us.length + 8) 0 (by omega) u [] (by simpa using hq) (by simp [peekV, atomS])
  have hj : us.length ≤ j := by
    have := congrArg List.length e2
    simp at this
    omega
  have h4 := same_trans _ _ _ h3 e3
  refine ⟨v, ?_, h4⟩
  unfold parseG
  rw [if_neg (by omega), if_neg (by omega), h1]
  simp only [e1]
  rw [if_neg (by omega), if_neg (by have := same_depth t v h4; omega)]
end Lx
end Go.Proofs.YteabbkhlgnoliaaGreatDoor
namespace Go.Proofs.YteabbkhlgnoliaaGreatDoor
namespace Lx
set_option maxRecDepth 100000
mutual
theorem may_moved : ∀ t t' : Tr, sameT t t' = true → mayT t = true → PlT (fun p => 0 ≤ p) t' → mayT t' = true
  | .node k s n a l, .node k' s' n' a' l', h, hm, hp => by
    rw [sameT] at h
    simp only [Bool.and_eq_true, decide_eq_true_eq] at h
    obtain ⟨rfl, rfl, rfl, hl⟩ := h
    obtain ⟨h1, h2, h3, h4⟩ := may_inv hm
    rw [PlT] at hp
    exact mayT_of h1 (by rw [← sameL_len l l' hl]; exact h2) hp.1 (may_movedL k n l l' 0 hl h4 hp.2)
theorem may_movedL : ∀ (k n : Int) (l l' : List Tr) (i : Nat), sameL l l' = true → mayL k n i l = true → PlL (fun p => 0 ≤ p) l' → mayL k n i l' = true
  | k, n, [], [], i, _, _, _ => rfl
  | _, _, [], _ :: _, _, h, _, _ => by simp [sameL] at h
  | _, _, _ :: _, [], _, h, _, _ => by simp [sameL] at h
  | k, n, t :: r, t' :: r', i, h, hm, hp => by
    rw [sameL, Bool.and_eq_true] at h
    rw [mayL, Bool.and_eq_true, Bool.and_eq_true] at hm ⊢
    rw [PlL] at hp
    have hk : t'.kind = t.kind := by
      obtain ⟨k1, s1, n1, a1, l1⟩ := t
      obtain ⟨k2, s2, n2, a2, l2⟩ := t'
      have h1 := h.1
      rw [sameT] at h1
      simp only [Bool.and_eq_true, decide_eq_true_eq] at h1
      exact h1.1.symm
    rw [hk]
    exact ⟨hm.1, may_moved t t' h.1 hm.2.1 hp.1, may_movedL k n r r' (i + 1) h.2 hm.2.2 hp.2⟩
end
abbrev P0 : Tr → Prop := PlT (fun p => 0 ≤ p)
theorem p0_node {k n a : Int} {s : ByteArray} {l : List Tr} (ha : 0 ≤ a) (hl : ∀ t ∈ l, P0 t) : P0 (.node k s n a l) := by
  show PlT _ _
  rw [PlT]
  exact ⟨ha, (PlL.iff l).2 hl⟩
theorem p0_place {t : Tr} (h : P0 t) : 0 ≤ t.place := by
  obtain ⟨k, s, n, a, l⟩ := t
  have h : PlT _ _ := h
  rw [PlT] at h
  exact h.1
theorem p0_parts {t : Tr} (h : P0 t) : ∀ u ∈ t.parts, P0 u := by
  obtain ⟨k, s, n, a, l⟩ := t
  have h : PlT _ _ := h
  rw [PlT] at h
  exact (PlL.iff l).1 h.2
def PRg (r : GR) : Prop := ∀ t j, r = .ok (t, j) → P0 t
section
variable {l : List Tok} (hp : ∀ i, 0 ≤ plAt l i)
include hp
theorem names_p0 : ∀ (f j : Nat) (acc vs : List Tr) (j2 : Nat), (∀ t ∈ acc, P0 t) → gNames f l j acc = .ok (vs, j2) → ∀ t ∈ vs, P0 t
  | 0, j, acc, vs, j2, _, h => by cases h
  | f + 1, j, acc, vs, j2, ha, h => by
    rw [gNames] at h
    split at h
    · split at h
      · cases h
      · refine names_p0 f (j + 1) _ vs j2 (fun t ht => ?_) h
        rcases List.mem_append.1 ht with ht | ht
        · exact ha t ht
        · rw [List.mem_singleton] at ht
          rw [ht]
          exact p0_node (hp j) (by simp)
    · cases h
      exact ha
structure P0All (l : List Tok) (f : Nat) : Prop where
  expr : ∀ i, PRg (gExpr f l i)
  lam : ∀ i, PRg (gLam f l i)
  let_ : ∀ i, PRg (gLet f l i)
  alt : ∀ i, PRg (gAlt f l i)
  match_ : ∀ i, PRg (gMatch f l i)
  alts : ∀ i j acc, (∀ t ∈ acc, P0 t) → PRg (gAlts f l i j acc)
  ops : ∀ i lev, PRg (gOps f l i lev)
  opsL : ∀ lev n a j, P0 a → PRg (gOpsL f l lev n a j)
  app : ∀ i, PRg (gApp f l i)
  appL : ∀ con a j, P0 a → PRg (gAppL f l con a j)
  atom : ∀ i, PRg (gAtom f l i)
theorem p0_all : ∀ f, P0All l f
  | 0 => by
    refine ⟨?_, ?_, ?_, ?_, ?_, ?_, ?_, ?_, ?_, ?_, ?_⟩
    all_goals
      intros
      intro t j h
      first
        | (rw [gExpr] at h; cases h)
        | (rw [gLam] at h; cases h)
        | (rw [gLet] at h; cases h)
        | (rw [gAlt] at h; cases h)
        | (rw [gMatch] at h; cases h)
        | (rw [gAlts] at h; cases h)
        | (rw [gOps] at h; cases h)
        | (rw [gOpsL] at h; cases h)
        | (rw [gApp] at h; cases h)
        | (rw [gAppL] at h; cases h)
        | (rw [gAtom] at h; cases h)
  | f + 1 => by
    have ih := p0_all f
    refine ⟨?_, ?_, ?_, ?_, ?_, ?_, ?_, ?_, ?_, ?_, ?_⟩
    · intro i
      rw [gExpr]
      split
      · exact ih.lam i
      · split
        · exact ih.let_ i
        · split
          · exact ih.match_ i
          · exact ih.ops i 0
    · intro i t j h
      rw [gLam] at h
      repeat' split at h
      all_goals first | (cases h; done) | skip
      rename_i b j' hb
      cases h
      exact p0_node (hp i) (by simpa using ih.expr (i + 3) b j hb)
    · intro i t j h
      rw [gLet] at h
      split at h
      · cases h
      · split at h
        · cases h
        · split at h
          · cases h
          · rename_i a j1 ha
            split at h
            · cases h
            · split at h
              · cases h
              · rename_i b j2 hb
                have h1 := ih.expr (i + 3) a j1 ha
                have h2 := ih.expr (j1 + 1) b j2 hb
                cases h
                exact p0_node (hp i) (by simp [h1, h2])
    · intro i t j h
      rw [gAlt] at h
      split at h
      · cases h
      · split at h
        · cases h
        · rename_i vs j1 hv
          split at h
          · cases h
          · split at h
            · cases h
            · rename_i b j2 hb
              have h1 := names_p0 hp _ _ _ _ _ (by simp) hv
              have h2 := ih.expr (j1 + 1) b j2 hb
              cases h
              refine p0_node (hp i) (fun u hu => ?_)
              rcases List.mem_append.1 hu with hu | hu
              · exact h1 u hu
              · rw [List.mem_singleton] at hu; rw [hu]; exact h2
    · intro i t j h
      rw [gMatch] at h
      split at h
      · cases h
      · rename_i a j1 ha
        have h1 := ih.expr (i + 1) a j1 ha
        split at h
        · cases h
        · split at h
          · cases h
          · exact ih.alts i (j1 + 2) [a] (by simpa using h1) t j h
    · intro i j acc hacc t j9 h
      have hsn : ∀ b j2, gAlt f l j = .ok (b, j2) → ∀ u ∈ acc ++ [b], P0 u := fun b j2 hb u hu => by
        rcases List.mem_append.1 hu with hu | hu
        · exact hacc u hu
        · rw [List.mem_singleton] at hu; rw [hu]; exact ih.alt j b j2 hb
      rw [gAlts] at h
      split at h
      · cases h
      · rename_i b j2 hb
        split at h
        · cases h
          exact p0_node (hp i) (hsn b _ hb)
        · split at h
          · cases h
          · exact ih.alts i (j2 + 1) _ (hsn b j2 hb) t j9 h
    · intro i lev t j h
      rw [gOps] at h
      split at h
      · exact ih.app i t j h
      · split at h
        · cases h
        · rename_i a j1 ha
          exact ih.opsL lev 0 a j1 (ih.ops i (lev + 1) a j1 ha) t j h
    · intro lev n a j ha t j9 h
      rw [gOpsL] at h
      split at h
      · split at h
        · cases h
        · rename_i b j2 hb
          have h2 := ih.ops (j + 1) (lev + 1) b j2 hb
          exact ih.opsL lev (n + 1) _ j2 (p0_node (p0_place ha) (by simp [ha, h2])) t j9 h
      · cases h
        exact ha
    · intro i t j h
      rw [gApp] at h
      split at h
      · cases h
      · rename_i a j1 ha
        exact ih.appL _ a j1 (ih.atom i a j1 ha) t j h
    · intro con a j ha t j9 h
      rw [gAppL] at h
      split at h
      · split at h
        · cases h
        · split at h
          · cases h
          · rename_i b j2 hb
            have h2 := ih.atom j b j2 hb
            refine ih.appL con _ j2 ?_ t j9 h
            cases con with
            | true =>
              refine p0_node (p0_place ha) (fun u hu => ?_)
              rcases List.mem_append.1 hu with hu | hu
              · exact p0_parts ha u hu
              · rw [List.mem_singleton] at hu; rw [hu]; exact h2
            | false => exact p0_node (p0_place ha) (by simp [ha, h2])
      · cases h
        exact ha
    · intro i t j h
      rw [gAtom] at h
      repeat' split at h
      all_goals first | (cases h; done) | skip
      · rename_i a j1 ha _
        cases h
        exact ih.expr (i + 1) _ _ ha
      · cases h; exact p0_node (hp i) (by simp)
      · cases h; exact p0_node (hp i) (by simp)
      · cases h; exact p0_node (hp i) (by simp)
end
end Lx
end Go.Proofs.YteabbkhlgnoliaaGreatDoor
