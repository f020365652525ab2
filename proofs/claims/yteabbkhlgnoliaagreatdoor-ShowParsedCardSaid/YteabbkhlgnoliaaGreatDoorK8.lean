/-
  Texts that lie one behind the other: Sim JoinP Wrap LawFits RoundT.
-/
import Derived.Test.YteabbkhlgnoliaaGreatDoorK6
import Derived.Test.YteabbkhlgnoliaaGreatDoorK3
namespace Go.Proofs.YteabbkhlgnoliaaGreatDoor
namespace Lx
set_option maxRecDepth 100000
abbrev Er := Int × List UInt8 × Int
def er (t : Tok) : Er := (t.kind, t.text, t.n)
/-- Each number within signs. -/
def xpn : List Er → List Er
  | [] => []
  | x :: r => if x.1 = 3 then (5, [40], 0) :: x :: (5, [41], 0) :: xpn r else x :: xpn r
def xq (b : Bool) (l : List Er) : List Er := if b then xpn l else l
def Rel (b : Bool) (l m : List Tok) : Prop := m.map er = xq b (l.map er)
theorem rel_nil {b : Bool} {m : List Tok} (h : Rel b [] m) : m = [] := by
  unfold Rel xq at h
  cases b <;> simpa [xpn] using h
theorem rel_cons {b : Bool} {x : Tok} {r m : List Tok} (h : Rel b (x :: r) m) (hx : b = true → x.kind ≠ 3) : ∃ x' r', m = x' :: r' ∧ er x' = er x ∧ Rel b r r' := by
  cases m with
  | nil =>
    unfold Rel xq at h
    cases b with
    | false => simp at h
    | true => simp [xpn, er, hx rfl] at h
  | cons x' r' =>
    refine ⟨x', r', rfl, ?_⟩
    unfold Rel xq at h ⊢
    cases b with
    | false => simpa using h
    | true =>
      have h3 : ¬ (er x).1 = 3 := hx rfl
      simp only [if_true, List.map_cons, xpn, if_neg h3, List.cons.injEq] at h
      simp only [if_true]
      exact h
theorem rel_int {x : Tok} {r m : List Tok} (h : Rel true (x :: r) m) (hx : x.kind = 3) : ∃ p x' p' r', m = p :: x' :: p' :: r' ∧ er p = (5, [40], 0) ∧ er x' = er x ∧ er p' = (5, [41], 0) ∧ Rel true r r' := by
  have h3 : (er x).1 = 3 := hx
  unfold Rel xq at h
  simp only [if_true, List.map_cons, xpn, if_pos h3] at h
  match m, h with
  | p :: x' :: p' :: r', h =>
    simp only [List.map_cons, List.cons.injEq] at h
    exact ⟨p, x', p', r', rfl, h.1, h.2.1, h.2.2.1, by unfold Rel xq; simpa using h.2.2.2⟩
  | [], h => simp at h
  | [_], h => simp at h
  | [_, _], h => simp at h
/-- Where the one reads, under P of the next token, the other one reads the like. -/
def SimF {α β : Type} (b : Bool) (P : Tok → Prop) (R : α → β → Prop) (f : Rg α) (f' : Rg β) : Prop :=
  ∀ l t q m, GL l → P (peekV l 0) → f l = .ok (t, q) → Rel b l m → ∃ t' q', f' m = .ok (t', q') ∧ Rel b q q' ∧ R t t' ∧ GL q
abbrev PT : Tok → Prop := fun _ => True
def SimT (t t' : Tr) : Prop := sameT t t' = true
def SimK (x x' : Tok) : Prop := er x' = er x
theorem SimF.weak {α β : Type} {b : Bool} {P Q : Tok → Prop} {R : α → β → Prop} {f : Rg α} {f' : Rg β} (h : SimF b P R f f') (hQ : ∀ x, Q x → P x) : SimF b Q R f f' := fun l t q m hl hq hf hr => h l t q m hl (hQ _ hq) hf hr
theorem sf_ret {α β : Type} {b : Bool} {P : Tok → Prop} {R : α → β → Prop} {x : α} {y : β} (h : R x y) : SimF b P R (retQ x) (retQ y) := fun l t q m hl _ hf hr => by
  obtain ⟨rfl, rfl⟩ := ret_ok hf
  exact ⟨y, m, rfl, hr, h, hl⟩
theorem sf_stop {α β : Type} {b : Bool} {P : Tok → Prop} {R : α → β → Prop} {f' : Rg β} : SimF b P R (stopQ : Rg α) f' := fun l t q m _ _ hf _ => by cases hf
theorem sf_bind {α β γ δ : Type} {b : Bool} {P : Tok → Prop} {R : α → β → Prop} {S : γ → δ → Prop} {f : Rg α} {f' : Rg β} {g : α → Rg γ} {g' : β → Rg δ} (hf : SimF b P R f f') (hg : ∀ a a', R a a' → SimF b PT S (g a) (g' a')) : SimF b P S (bindQ f g) (bindQ f' g') := fun l t q m hl hp h hr => by
  obtain ⟨a, q1, h1, h2⟩ := bind_ok h
  obtain ⟨a', q1', h3, h4, h5, h6⟩ := hf l a q1 m hl hp h1 hr
  obtain ⟨t', q', h7, h8⟩ := hg a a' h5 q1 t q q1' h6 trivial h2 h4
  exact ⟨t', q', by unfold bindQ; rw [h3]; exact h7, h8⟩
def Resp (b : Bool) (P : Tok → Prop) (c : Tok → Bool) : Prop := ∀ l m, GL l → P (peekV l 0) → Rel b l m → c (peekV m 0) = c (peekV l 0)
theorem sf_if {α β : Type} {b : Bool} {P : Tok → Prop} {R : α → β → Prop} {c : Tok → Bool} {f g : Rg α} {f' g' : Rg β} (hc : Resp b P c) (hf : SimF b (fun x => P x ∧ c x = true) R f f') (hg : SimF b (fun x => P x ∧ c x = false) R g g') : SimF b P R (ifQ c f g) (ifQ c f' g') := fun l t q m hl hp h hr => by
  rcases if_ok h with ⟨h0, h⟩ | ⟨h0, h⟩
  · rw [ifQ_t ((hc l m hl hp hr).trans h0)]; exact hf l t q m hl ⟨hp, h0⟩ h hr
  · rw [ifQ_f ((hc l m hl hp hr).trans h0)]; exact hg l t q m hl ⟨hp, h0⟩ h hr
theorem sf_here {α β : Type} {b : Bool} {P : Tok → Prop} {R : α → β → Prop} {f : Rg α} {f' : Rg β} (hf : SimF b P R f f') : SimF b P (fun x y => R x.2 y.2) (hereQ f) (hereQ f') := fun l t q m hl hp h hr => by
  obtain ⟨_, h2⟩ := here_ok h
  obtain ⟨t', q', h3, h4⟩ := hf l t.2 q m hl hp h2 hr
  exact ⟨((peekV m 0).place, t'), q', by unfold hereQ; rw [h3], h4⟩
/-- A condition on kind and text that tells no number from a sign (. -/
theorem resp_of {b : Bool} {P : Tok → Prop} {c : Tok → Bool} (h1 : ∀ x x' : Tok, er x' = er x → c x' = c x) (h2 : ∀ x p : Tok, b = true → Good x → P x → x.kind = 3 → er p = (5, [40], 0) → c p = c x) : Resp b P c := fun l m hl hp hr => by
  cases l with
  | nil => rw [rel_nil hr]
  | cons x r =>
    by_cases hx : b = true → x.kind ≠ 3
    · obtain ⟨x', r', rfl, e, _⟩ := rel_cons hr hx
      exact h1 x x' e
    · have hb : b = true := by cases b with | true => rfl | false => exact absurd (fun h => by cases h) hx
      have h3 : x.kind = 3 := by
        by_cases h : x.kind = 3
        · exact h
        · exact absurd (fun _ => h) hx
      subst hb
      obtain ⟨p, x', p', r', rfl, e, _⟩ := rel_int hr h3
      exact h2 x p rfl hl.head.1 hp h3 e
/-- A text that is no number's. -/
def NoNum (s : List UInt8) : Prop := ∃ c ∈ s, digR (c.toNat : Int) = false
theorem int_text {t : Tok} (h : Good t) (hk : t.kind = 3) (s : List UInt8) (hs : NoNum s) : (t.text == s) = false := by
  obtain ⟨h1, h2, h3⟩ := good_ld h (by omega)
  rw [hk] at h1
  have hall : ∀ c ∈ t.text, digR (c.toNat : Int) = true := by
    revert h1
    unfold runK numK
    repeat' split
    all_goals simp
    rename_i h5 h6
    intro _
    exact dig_of digR t.text (by have := run_le digR t.text; omega)
  cases ht : t.text == s with
  | false => rfl
  | true =>
    obtain ⟨c, hc, h4⟩ := hs
    rw [eq_of_beq ht] at hall
    rw [hall c hc] at h4; cases h4
theorem er_text {x x' : Tok} (h : er x' = er x) : x'.text = x.text := congrArg (fun y : Er => y.2.1) h
theorem er_kind {x x' : Tok} (h : er x' = er x) : x'.kind = x.kind := congrArg (fun y : Er => y.1) h
theorem er_n {x x' : Tok} (h : er x' = er x) : x'.n = x.n := congrArg (fun y : Er => y.2.2) h
theorem resp_text {b : Bool} {P : Tok → Prop} {s : List UInt8} (hs : NoNum s) (h40 : ([40] == s) = false) : Resp b P (isT s) :=
  resp_of (fun x x' e => by unfold isT; rw [er_text e]) fun x p _ hg _ h3 e => by
    unfold isT
    rw [int_text hg h3 s hs, show p.text = [40] from congrArg (fun y : Er => y.2.1) e]; exact h40
theorem resp_kind {b : Bool} {P : Tok → Prop} {k : Int} (h3 : k ≠ 3) (h5 : k ≠ 5) : Resp b P (isK k) :=
  resp_of (fun x x' e => by unfold isK; rw [er_kind e]) fun x p _ hg _ hx e => by
    unfold isK
    rw [show p.kind = 5 from congrArg (fun y : Er => y.1) e, hx, decide_eq_false (fun h => h5 h.symm), decide_eq_false (fun h => h3 h.symm)]
theorem resp_atom {b : Bool} {P : Tok → Prop} : Resp b P atomS :=
  resp_of (fun x x' e => by unfold atomS; rw [er_kind e, er_text e]) fun x p _ hg _ hx e => by
    have h1 : p.text = [40] := congrArg (fun y : Er => y.2.1) e
    simp [atomS, h1, hx]
theorem resp_any {b : Bool} {P : Tok → Prop} {ss : List (List UInt8)} (hs : ∀ s ∈ ss, NoNum s ∧ ([40] == s) = false) : Resp b P (isAny ss) :=
  resp_of (fun x x' e => by unfold isAny; rw [er_text e]) fun x p _ hg _ hx e => by
    have h1 : p.text = [40] := congrArg (fun y : Er => y.2.1) e
    unfold isAny
    rw [h1]
    induction ss with
    | nil => rfl
    | cons s r ih =>
      simp only [List.any_cons]
      rw [ih fun s h => hs s (List.mem_cons_of_mem _ h), int_text hg hx s (hs s (by simp)).1, (hs s (by simp)).2]
/-- The next token, where it is no number. -/
theorem sf_next {b : Bool} {P : Tok → Prop} (hP : ∀ x, Good x → P x → x.kind ≠ 3) : SimF b P SimK nextQ nextQ := fun l t q m hl hp h hr => by
  obtain rfl := next_ok h
  obtain ⟨x', r', rfl, e, h2⟩ := rel_cons hr (fun _ => hP t hl.head.1 hp)
  exact ⟨x', r', rfl, h2, e, hl.tail⟩
theorem sf_take {b : Bool} {P : Tok → Prop} (s : List UInt8) (hs : NoNum s) (h40 : ([40] == s) = false) : SimF b P SimK (takeQ s) (takeQ s) :=
  sf_if (resp_text hs h40) (sf_next fun x hg hx h3 => by
    have h1 : (x.text == s) = true := hx.2
    rw [int_text hg h3 s hs] at h1; cases h1) sf_stop
theorem sf_takeK {b : Bool} {P : Tok → Prop} (k : Int) (h3 : k ≠ 3) (h5 : k ≠ 5) : SimF b P SimK (takeKQ k) (takeKQ k) :=
  sf_if (resp_kind h3 h5) (sf_next fun _x _hg hx h => h3 ((of_decide_eq_true hx.2).symm.trans h)) sf_stop
theorem sameL_snoc {l l' : List Tr} {u u' : Tr} (h : sameL l l' = true) (hu : sameT u u' = true) : sameL (l ++ [u]) (l' ++ [u']) = true := by
  induction l generalizing l' with
  | nil =>
    cases l' with
    | nil => simp [sameL, hu]
    | cons a r => simp [sameL] at h
  | cons a r ih =>
    cases l' with
    | nil => simp [sameL] at h
    | cons a' r' =>
      rw [sameL, Bool.and_eq_true] at h
      simp only [List.cons_append, sameL, h.1, ih h.2, Bool.and_self]
theorem same_node {k n a a' : Int} {s s' : ByteArray} {l l' : List Tr} (hs : s' = s) (h : sameL l l' = true) : SimT (.node k s n a l) (.node k s' n a' l') := by
  unfold SimT
  rw [sameT, h, hs]; simp
theorem leaf_sim {x x' : Tok} (h : er x' = er x) : SimT (leafV x) (leafV x') := by
  unfold leafV
  rw [er_kind h]
  split
  · exact same_node (by rw [er_text h]) rfl
  · split
    · exact same_node (by rw [er_text h]) rfl
    · rw [er_n h]; exact same_node rfl rfl
theorem nn (s : List UInt8) (h : (s.any fun c => !digR (c.toNat : Int)) = true) : NoNum s := by
  obtain ⟨c, hc, h1⟩ := List.any_eq_true.1 h
  exact ⟨c, hc, by simpa using h1⟩
/-- A number by itself, with a sign ) behind. -/
theorem expr_int (N n : Nat) (x p : Tok) (r : List Tok) (hx : x.kind = 3) (hg : Good x) (hp : p.text = [41]) (hk : p.kind = 5) : exprQ (N + 1) (n + 1) (x :: p :: r) = .ok (leafV x, p :: r) := by
  have hT : ∀ s, NoNum s → isT s x = false := fun s hs => int_text hg hx s hs
  have hpA : atomS p = false := by simp [atomS, hp, hk]
  have hpS : ∀ ss : List (List UInt8), ([41] : List UInt8) ∉ ss → isAny ss p = false := fun ss h => by
    cases ha : isAny ss p with
    | false => rfl
    | true => have := isAny_mem ha; rw [hp] at this; exact absurd this h
  have a1 : ∀ ex, atomQ ex (x :: p :: r) = .ok (leafV x, p :: r) := fun ex => by
    have h1 : atomQ ex (x :: p :: r) = _ := ifQ_f (hT [40] (nn _ (by decide)))
    have h2 : ifQ atomS (bindQ nextQ fun t => retQ (leafV t)) stopQ (x :: p :: r) = _ := ifQ_t (by show atomS x = true; simp [atomS, hx])
    rw [h1, h2]; rfl
  have a2 : ∀ ex, appQ (N + 1) ex (x :: p :: r) = .ok (leafV x, p :: r) := fun ex => by
    have h1 : appQ (N + 1) ex (x :: p :: r) = _ := ifQ_f (by show decide (x.kind = 2) = false; rw [hx]; rfl)
    rw [h1]
    unfold bindQ hereQ
    rw [a1 ex]
    show appLoopQ ex _ (N + 1) (leafV x) (p :: r) = _
    have h2 : appLoopQ ex (peekV (x :: p :: r) 0).place (N + 1) (leafV x) (p :: r) = _ := ifQ_f hpA
    rw [h2]; rfl
  have a3 : ∀ (sd : Rg Tr) (ss : List (List UInt8)), sd (x :: p :: r) = .ok (leafV x, p :: r) → ([41] : List UInt8) ∉ ss → rowQ (N + 1) sd ss (x :: p :: r) = .ok (leafV x, p :: r) := fun sd ss h hs => by
    unfold rowQ bindQ hereQ
    rw [h]
    show rowLoopQ sd ss _ (N + 1) (leafV x) (p :: r) = _
    have h2 : rowLoopQ sd ss (peekV (x :: p :: r) 0).place (N + 1) (leafV x) (p :: r) = _ := ifQ_f (hpS ss hs)
    rw [h2]; rfl
  have a4 : ∀ ex, sumQ (N + 1) ex (x :: p :: r) = .ok (leafV x, p :: r) := fun ex => a3 _ _ (a3 _ _ (a2 ex) (by decide)) (by decide)
  have e1 : exprQ (N + 1) (n + 1) (x :: p :: r) = _ := ifQ_f (hT [92] (nn _ (by decide)))
  have e2 : ifQ (isT [108, 101, 116]) (letQ 4 (exprQ (N + 1) n)) (ifQ (isT [108, 101, 116, 114, 101, 99]) (letQ 5 (exprQ (N + 1) n)) (ifQ (isT [99, 97, 115, 101]) (choiceQ (exprQ (N + 1) n)) (cmpQ (sumQ (N + 1) (exprQ (N + 1) n))))) (x :: p :: r) = _ := ifQ_f (hT _ (nn _ (by decide)))
  have e3 : ifQ (isT [108, 101, 116, 114, 101, 99]) (letQ 5 (exprQ (N + 1) n)) (ifQ (isT [99, 97, 115, 101]) (choiceQ (exprQ (N + 1) n)) (cmpQ (sumQ (N + 1) (exprQ (N + 1) n)))) (x :: p :: r) = _ := ifQ_f (hT _ (nn _ (by decide)))
  have e4 : ifQ (isT [99, 97, 115, 101]) (choiceQ (exprQ (N + 1) n)) (cmpQ (sumQ (N + 1) (exprQ (N + 1) n))) (x :: p :: r) = _ := ifQ_f (hT _ (nn _ (by decide)))
  rw [e1, e2, e3, e4]
  unfold cmpQ bindQ hereQ
  rw [a4]
  show ifQ (isAny [[60], [61, 61]]) _ (retQ (leafV x)) (p :: r) = _
  have h2 : ifQ (isAny [[60], [61, 61]]) (opQ (sumQ (N + 1) (exprQ (N + 1) n)) (peekV (x :: p :: r) 0).place (leafV x)) (retQ (leafV x)) (p :: r) = _ := ifQ_f (hpS _ (by decide))
  rw [h2]; rfl
/-- The like of expr. -/
def SX (b : Bool) (ex ex' : Rg Tr) : Prop := SimF b PT SimT ex ex' ∧ (b = true → ∀ x p r, x.kind = 3 → Good x → p.text = [41] → p.kind = 5 → ex' (x :: p :: r) = .ok (leafV x, p :: r))
section
variable {b : Bool} {ex ex' : Rg Tr} {N : Nat}
theorem good_er {x x' : Tok} (h : er x' = er x) (hg : Good x) : Good x' := by
  obtain ⟨l, hl⟩ := hg
  exact ⟨l, by rw [er_kind h, er_n h, er_text h]; exact hl⟩
theorem bind_run {α β : Type} {f : Rg α} {g : α → Rg β} {l q : List Tok} {a : α} (h : f l = .ok (a, q)) : bindQ f g l = g a q := by unfold bindQ; rw [h]
theorem sf_within (hx : SX b ex ex') : SimF b (fun x => x.text = [40]) SimT (withinQ ex) (withinQ ex') := fun l t q m hl hp h hr => by
  replace h := bind_ok h
  obtain ⟨p, l1, h1, h⟩ := h
  obtain ⟨rfl, e1⟩ := take_ok h1
  have hk : p.kind ≠ 3 := fun h3 => by
    have := int_text hl.head.1 h3 [40] (nn _ (by decide))
    rw [e1] at this; cases this
  obtain ⟨p', m1, rfl, e2, hr1⟩ := rel_cons hr (fun _ => hk)
  have hw : takeQ [40] (p' :: m1) = .ok (p', m1) := by
    have h3 : takeQ [40] (p' :: m1) = nextQ (p' :: m1) := ifQ_t (by show (p'.text == [40]) = true; rw [er_text e2, e1]; rfl)
    rw [h3]; rfl
  have hb : SimF b PT SimT (bindQ ex fun t => bindQ (takeQ [41]) fun _ => retQ t) (bindQ ex' fun t => bindQ (takeQ [41]) fun _ => retQ t) := sf_bind hx.1 fun t t' ht => sf_bind (sf_take _ (nn _ (by decide)) (by decide)) fun _ _ _ => sf_ret ht
  obtain ⟨t', q', h4, h5⟩ := hb l1 t q m1 hl.tail trivial h hr1
  refine ⟨t', q', ?_, h5⟩
  unfold withinQ bindQ
  rw [hw]; exact h4
theorem sf_atom {P : Tok → Prop} (hx : SX b ex ex') : SimF b P SimT (atomQ ex) (atomQ ex') := fun l t q m hl hp h hr => by
  cases l with
  | nil => rw [eat_atom] at h; cases h
  | cons x r =>
    by_cases h3 : x.kind = 3 ∧ b = true
    · obtain ⟨h3, hb⟩ := h3
      subst hb
      obtain ⟨p, x', p', m1, rfl, e1, e2, e3, hr1⟩ := rel_int hr h3
      have hg' := good_er e2 hl.head.1
      have hk' : x'.kind = 3 := (er_kind e2).trans h3
      have e3t : p'.text = [41] := congrArg (fun y : Er => y.2.1) e3
      have e3k : p'.kind = 5 := congrArg (fun y : Er => y.1) e3
      have e1t : p.text = [40] := congrArg (fun y : Er => y.2.1) e1
      have hl0 : atomQ ex (x :: r) = .ok (leafV x, r) := by
        have h1 : atomQ ex (x :: r) = _ := ifQ_f (int_text hl.head.1 h3 [40] (nn _ (by decide)))
        have h2 : ifQ atomS (bindQ nextQ fun t => retQ (leafV t)) stopQ (x :: r) = _ := ifQ_t (by show atomS x = true; simp [atomS, h3])
        rw [h1, h2]; rfl
      rw [hl0] at h
      simp only [Except.ok.injEq, Prod.mk.injEq] at h
      obtain ⟨rfl, rfl⟩ := h
      refine ⟨leafV x', m1, ?_, hr1, leaf_sim e2, hl.tail⟩
      have h1 : atomQ ex' (p :: x' :: p' :: m1) = _ := ifQ_t (by show (p.text == [40]) = true; rw [e1t]; rfl)
      rw [h1]
      have h2 : takeQ [40] (p :: x' :: p' :: m1) = nextQ (p :: x' :: p' :: m1) := ifQ_t (by show (p.text == [40]) = true; rw [e1t]; rfl)
      have h4 : takeQ [41] (p' :: m1) = nextQ (p' :: m1) := ifQ_t (by show (p'.text == [41]) = true; rw [e3t]; rfl)
      have w1 : takeQ [40] (p :: x' :: p' :: m1) = .ok (p, x' :: p' :: m1) := h2
      have w2 : takeQ [41] (p' :: m1) = .ok (p', m1) := h4
      unfold withinQ
      rw [bind_run w1, bind_run (hx.2 rfl x' p' m1 hk' hg' e3t e3k), bind_run w2]; rfl
    · have hx3 : b = true → x.kind ≠ 3 := fun hb h => h3 ⟨h, hb⟩
      obtain ⟨x', m1, rfl, e, hr1⟩ := rel_cons hr hx3
      have hre : Rel b (x :: r) (x' :: m1) := hr
      rcases if_ok h with ⟨h0, h⟩ | ⟨h0, h⟩
      · obtain ⟨t', q', h5, h6⟩ := sf_within hx (x :: r) t q (x' :: m1) hl (eq_of_beq h0) h hre
        have h1 : atomQ ex' (x' :: m1) = _ := ifQ_t (by show (x'.text == [40]) = true; rw [er_text e]; exact h0)
        exact ⟨t', q', by rw [h1]; exact h5, h6⟩
      · rcases if_ok h with ⟨h1, h⟩ | ⟨h1, h⟩
        · obtain ⟨a, l1, h2, h⟩ := bind_ok h
          obtain ⟨rfl, rfl⟩ := ret_ok h
          cases next_ok h2
          have h4 : atomQ ex' (x' :: m1) = _ := ifQ_f (by show (x'.text == [40]) = false; rw [er_text e]; exact h0)
          have h5 : ifQ atomS (bindQ nextQ fun t => retQ (leafV t)) stopQ (x' :: m1) = _ := ifQ_t (by show atomS x' = true; unfold atomS; rw [er_kind e, er_text e]; exact h1)
          exact ⟨leafV x', m1, by rw [h4, h5]; rfl, hr1, leaf_sim e, hl.tail⟩
        · cases h
theorem sf_appLoop (hx : SX b ex ex') (at_ at2 : Int) : ∀ (n : Nat) (t t' : Tr), SimT t t' → SimF b PT SimT (appLoopQ ex at_ n t) (appLoopQ ex' at2 n t')
  | 0, t, t', h => sf_ret h
  | n + 1, t, t', h => sf_if resp_atom (sf_bind (sf_atom hx) fun u u' hu => sf_appLoop hx at_ at2 n _ _ (same_node rfl (by simp only [sameL, Bool.and_true, Bool.and_eq_true]; exact ⟨h, hu⟩))) (sf_ret h)
theorem sf_conLoop (hx : SX b ex ex') (nm : ByteArray) (pc pc2 : Int) : ∀ (n : Nat) (pl pl' : List Tr), sameL pl pl' = true → SimF b PT SimT (conLoopQ ex nm pc n pl) (conLoopQ ex' nm pc2 n pl')
  | 0, _pl, _pl', h => sf_ret (same_node rfl h)
  | n + 1, _pl, _pl', h => sf_if resp_atom (sf_bind (sf_atom hx) fun _u _u' hu => sf_conLoop hx nm pc pc2 n _ _ (sameL_snoc h hu)) (sf_ret (same_node rfl h))
theorem sf_con (hx : SX b ex ex') : SimF b (fun x => isK 2 x = true) SimT (conQ ex) (conQ ex') :=
  sf_bind (sf_next fun x _ h h3 => by have := of_decide_eq_true h; omega) fun x x' e => by
    have e' : er x' = er x := e
    rw [er_text e']; exact sf_conLoop hx _ _ _ 8 [] [] rfl
theorem sf_app (hx : SX b ex ex') : SimF b PT SimT (appQ N ex) (appQ N ex') :=
  sf_if (resp_kind (by decide) (by decide)) ((sf_con hx).weak fun x h => h.2) (sf_bind (sf_here (sf_atom hx)) fun x x' h => sf_appLoop hx _ _ N _ _ h)
theorem sf_op {sd sd' : Rg Tr} (hs : SimF b PT SimT sd sd') {ss : List (List UInt8)} (hss : ∀ s ∈ ss, NoNum s ∧ ([40] == s) = false) (at_ at2 : Int) {t t' : Tr} (ht : SimT t t') : SimF b (fun x => isAny ss x = true) SimT (opQ sd at_ t) (opQ sd' at2 t') :=
  sf_bind (sf_next fun x hg h h3 => by
    have := int_text hg h3 x.text (hss _ (isAny_mem h)).1
    simp at this) fun x x' e => sf_bind hs fun u u' hu => sf_ret (by
    have e' : er x' = er x := e
    exact same_node (by rw [er_text e']) (by simp only [sameL, Bool.and_true, Bool.and_eq_true]; exact ⟨ht, hu⟩))
theorem sf_rowLoop {sd sd' : Rg Tr} (hs : SimF b PT SimT sd sd') {ss : List (List UInt8)} (hss : ∀ s ∈ ss, NoNum s ∧ ([40] == s) = false) (at_ at2 : Int) : ∀ (n : Nat) (t t' : Tr), SimT t t' → SimF b PT SimT (rowLoopQ sd ss at_ n t) (rowLoopQ sd' ss at2 n t')
  | 0, _t, _t', h => sf_ret h
  | n + 1, _t, _t', h => sf_if (resp_any hss) (sf_bind ((sf_op hs hss at_ at2 h).weak fun _x h => h.2) fun v v' hv => sf_rowLoop hs hss at_ at2 n v v' hv) (sf_ret h)
theorem sf_row {sd sd' : Rg Tr} (hs : SimF b PT SimT sd sd') {ss : List (List UInt8)} (hss : ∀ s ∈ ss, NoNum s ∧ ([40] == s) = false) : SimF b PT SimT (rowQ N sd ss) (rowQ N sd' ss) :=
  sf_bind (sf_here hs) fun _x _x' h => sf_rowLoop hs hss _ _ N _ _ h
theorem nn_two (a c : List UInt8) (h : ((a.any fun c => !digR (c.toNat : Int)) && (c.any fun c => !digR (c.toNat : Int)) && !([40] == a) && !([40] == c)) = true) : ∀ s ∈ [a, c], NoNum s ∧ ([40] == s) = false := by
  simp only [Bool.and_eq_true, Bool.not_eq_true'] at h
  intro s hs
  simp only [List.mem_cons, List.not_mem_nil, or_false] at hs
  rcases hs with rfl | rfl
  · exact ⟨nn _ h.1.1.1, h.1.2⟩
  · exact ⟨nn _ h.1.1.2, h.2⟩
theorem sf_sum (hx : SX b ex ex') : SimF b PT SimT (sumQ N ex) (sumQ N ex') := sf_row (sf_row (sf_app hx) (nn_two _ _ (by decide))) (nn_two _ _ (by decide))
theorem sf_cmp {sd sd' : Rg Tr} (hs : SimF b PT SimT sd sd') : SimF b PT SimT (cmpQ sd) (cmpQ sd') :=
  sf_bind (sf_here hs) fun x x' h => sf_if (resp_any (nn_two _ _ (by decide))) ((sf_op hs (ss := [[60], [61, 61]]) (nn_two _ _ (by decide)) _ _ h).weak fun x h => h.2) (sf_ret h)
theorem sf_lam (hx : SX b ex ex') {P : Tok → Prop} : SimF b P SimT (lamQ ex) (lamQ ex') :=
  sf_bind (sf_take _ (nn _ (by decide)) (by decide)) fun x1 y1 _ => sf_bind (sf_takeK 1 (by decide) (by decide)) fun x2 y2 e2 => sf_bind (sf_take _ (nn _ (by decide)) (by decide)) fun _ _ _ => sf_bind hx.1 fun t t' ht => sf_ret (by
    have e' : er y2 = er x2 := e2
    exact same_node (by rw [er_text e']) (by simp only [sameL, Bool.and_true]; exact ht))
theorem sf_let (k : Int) (hx : SX b ex ex') : SimF b (fun x => x.kind ≠ 3) SimT (letQ k ex) (letQ k ex') :=
  sf_bind (sf_next fun x _ h => h) fun x1 y1 _ => sf_bind (sf_takeK 1 (by decide) (by decide)) fun x2 y2 e2 => sf_bind (sf_take _ (nn _ (by decide)) (by decide)) fun _ _ _ => sf_bind hx.1 fun t t' ht => sf_bind (sf_take _ (nn _ (by decide)) (by decide)) fun _ _ _ => sf_bind hx.1 fun u u' hu => sf_ret (by
    have e' : er y2 = er x2 := e2
    exact same_node (by rw [er_text e']) (by simp only [sameL, Bool.and_true, Bool.and_eq_true]; exact ⟨ht, hu⟩))
theorem sf_altEnd (hx : SX b ex ex') (nm : ByteArray) (pc pc2 : Int) (pl pl' : List Tr) (h : sameL pl pl' = true) {P : Tok → Prop} : SimF b P SimT (altEndQ ex nm pc pl) (altEndQ ex' nm pc2 pl') :=
  sf_bind (sf_take _ (nn _ (by decide)) (by decide)) fun _ _ _ => sf_bind hx.1 fun u u' hu => sf_ret (by rw [sameL_len _ _ h]; exact same_node rfl (sameL_snoc h hu))
theorem sf_altLoop (hx : SX b ex ex') (nm : ByteArray) (pc pc2 : Int) : ∀ (n : Nat) (pl pl' : List Tr), sameL pl pl' = true → SimF b PT SimT (altLoopQ ex nm pc n pl) (altLoopQ ex' nm pc2 n pl')
  | 0, pl, pl', h => sf_altEnd hx nm pc pc2 pl pl' h
  | n + 1, pl, pl', h => sf_if (resp_kind (by decide) (by decide)) (sf_bind (sf_atom hx) fun u u' hu => sf_altLoop hx nm pc pc2 n _ _ (sameL_snoc h hu)) (sf_altEnd hx nm pc pc2 pl pl' h)
theorem sf_alt (hx : SX b ex ex') : SimF b PT SimT (altQ ex) (altQ ex') := sf_bind (sf_takeK 2 (by decide) (by decide)) fun x x' e => by
  have e' : er x' = er x := e
  rw [er_text e']; exact sf_altLoop hx _ _ _ 8 [] [] rfl
theorem sf_choiceEnd (pc pc2 : Int) (pl pl' : List Tr) (h : sameL pl pl' = true) {P : Tok → Prop} : SimF b P SimT (choiceEndQ pc pl) (choiceEndQ pc2 pl') := sf_bind (sf_take _ (nn _ (by decide)) (by decide)) fun _ _ _ => sf_ret (same_node rfl h)
theorem sf_choiceLoop {al al' : Rg Tr} (ha : SimF b PT SimT al al') (pc pc2 : Int) : ∀ (n : Nat) (pl pl' : List Tr), sameL pl pl' = true → SimF b PT SimT (choiceLoopQ al pc n pl) (choiceLoopQ al' pc2 n pl')
  | 0, pl, pl', h => sf_choiceEnd pc pc2 pl pl' h
  | n + 1, pl, pl', h => sf_if (resp_text (nn _ (by decide)) (by decide)) (sf_bind (sf_take _ (nn _ (by decide)) (by decide)) fun _ _ _ => sf_bind ha fun u u' hu => sf_choiceLoop ha pc pc2 n _ _ (sameL_snoc h hu)) (sf_choiceEnd pc pc2 pl pl' h)
theorem sf_choice (hx : SX b ex ex') {P : Tok → Prop} : SimF b P SimT (choiceQ ex) (choiceQ ex') :=
  sf_bind (sf_take _ (nn _ (by decide)) (by decide)) fun x1 y1 _ => sf_bind hx.1 fun t t' ht => sf_bind (sf_take _ (nn _ (by decide)) (by decide)) fun _ _ _ => sf_bind (sf_take _ (nn _ (by decide)) (by decide)) fun _ _ _ => sf_bind (sf_alt hx) fun u u' hu =>
    sf_choiceLoop (sf_alt hx) _ _ 7 _ _ (by simp only [sameL, Bool.and_true, Bool.and_eq_true]; exact ⟨ht, hu⟩)
end
theorem sf_expr (b : Bool) (N : Nat) : ∀ n, SimF b PT SimT (exprQ (N + 1) n) (exprQ (N + 1) (n + 1))
  | 0 => sf_stop
  | n + 1 => by
    have hx : SX b (exprQ (N + 1) n) (exprQ (N + 1) (n + 1)) := ⟨sf_expr b N n, fun _ x p r h1 h2 h3 h4 => expr_int N n x p r h1 h2 h3 h4⟩
    have hT : ∀ s, NoNum s → SimF b (fun x => isT s x = true) SimT (letQ 4 (exprQ (N + 1) n)) (letQ 4 (exprQ (N + 1) (n + 1))) ∧ SimF b (fun x => isT s x = true) SimT (letQ 5 (exprQ (N + 1) n)) (letQ 5 (exprQ (N + 1) (n + 1))) := fun s hs => by
      have key : ∀ k, SimF b (fun x => isT s x = true) SimT (letQ k (exprQ (N + 1) n)) (letQ k (exprQ (N + 1) (n + 1))) := fun k l t q m hl hp h hr => by
        cases l with
        | nil =>
          obtain ⟨_, _, h1, _⟩ := bind_ok h
          cases h1
        | cons x r =>
          refine sf_let k hx (x :: r) t q m hl (fun h3 => ?_) h hr
          have h9 : (x.text == s) = true := hp
          rw [int_text hl.head.1 h3 s hs] at h9; cases h9
      exact ⟨key 4, key 5⟩
    exact sf_if (resp_text (nn _ (by decide)) (by decide)) (sf_lam hx) (sf_if (resp_text (nn _ (by decide)) (by decide)) ((hT _ (nn _ (by decide))).1.weak fun x h => h.2)
      (sf_if (resp_text (nn _ (by decide)) (by decide)) ((hT _ (nn _ (by decide))).2.weak fun x h => h.2) (sf_if (resp_text (nn _ (by decide)) (by decide)) (sf_choice hx) ((sf_cmp (sf_sum hx)).weak fun _ _ => trivial))))
/-- Fuel beyond the number of tokens is of no moment. -/
theorem expr_fuel {N n k : Nat} {l : List Tok} {x : Tr × List Tok} (hn : l.length < n) (hk : l.length < k) (hN : l.length < N) (h : exprQ N n l = .ok x) : exprQ N k l = .ok x := by
  have h1 := expr_Q 0 N (l.length + 1) n (by omega) (by omega) l (by omega)
  have h2 := expr_Q 0 N (l.length + 1) k (by omega) (by omega) l (by omega)
  rw [h1, h] at h2
  cases hq : exprQ N k l with
  | error q => rw [hq] at h2; cases h2
  | ok y => rw [hq] at h2; simp only [mpQ, Except.ok.injEq] at h2; rw [h2]
theorem whole_sim {b : Bool} {l m : List Tok} {t : Tr} (hl : GL l) (hm : m.length < 20000) (h : wholeQ l = .ok t) (hr : Rel b l m) : ∃ t', wholeQ m = .ok t' ∧ sameT t t' = true := by
  unfold wholeQ at h
  cases hq : allQ l with
  | error q => rw [hq] at h; cases h
  | ok x =>
    obtain ⟨u, q⟩ := x
    rw [hq] at h
    cases q with
    | cons a r => cases h
    | nil =>
      simp only [Except.ok.injEq] at h
      subst h
      obtain ⟨t', q', h1, h2, h3, _⟩ := sf_expr b 19999 20000 l u [] m hl trivial hq hr
      have h4 := rel_nil h2
      subst h4
      have h5 : allQ m = .ok (t', []) := expr_fuel (N := 20000) (n := 20001) (k := 20000) (by omega) (by omega) (by omega) h1
      exact ⟨t', by unfold wholeQ; rw [h5], h3⟩
end Lx
end Go.Proofs.YteabbkhlgnoliaaGreatDoor
namespace Go.Proofs.YteabbkhlgnoliaaGreatDoor
namespace Lx
set_option maxRecDepth 100000
theorem run_cutP (P : Int → Bool) (hP : P 41 = false) (t : List UInt8) : ∀ l : List UInt8, run P (l ++ 41 :: t) = run P l
  | [] => by simp [run, hP]
  | c :: l => by
    have := run_cutP P hP t l
    simp [run, this]
theorem prefix_cutP (t : List UInt8) : ∀ (g l : List UInt8), (41 : UInt8) ∉ g → Lib.hasPrefix (l ++ 41 :: t) g = Lib.hasPrefix l g
  | [], _, _ => rfl
  | a :: g, [], h => by
    have ha : a ≠ 41 := by intro e; subst e; exact h (by simp)
    simp [Lib.hasPrefix, List.isPrefixOf, ha]
  | a :: g, c :: l, h => by
    have := prefix_cutP t g l (fun hm => h (by simp [hm]))
    simp only [Lib.hasPrefix] at this ⊢
    simp [List.isPrefixOf, this]
theorem par_tail : ∀ g ∈ signsS, (41 : UInt8) ∉ g.tail := by decide
theorem sign_cutP (l t : List UInt8) (hl : l ≠ []) : signOf (l ++ 41 :: t) = signOf l :=
  find_congr _ _ _ (fun g hg => by
    have h1 := par_tail g hg
    cases l with
    | nil => exact absurd rfl hl
    | cons x l =>
      cases g with
      | nil => rfl
      | cons a g =>
        have := prefix_cutP t g l h1
        simp only [Lib.hasPrefix] at this ⊢
        simp [List.isPrefixOf, this])
theorem tok_cutP (l t : List UInt8) (hl : l ≠ []) : tokK (l ++ 41 :: t) = tokK l := by
  have hr := run_cutP ldR rfl t l
  have hle := run_le ldR l
  unfold tokK
  rw [hr, sign_cutP l t hl, List.take_append_of_le_length hle]
theorem scan_joinP (t : List UInt8) (F : Nat) (hF : t.length + 1 < F) : ∀ (f : Nat) (l : List UInt8) (k : Nat), l ≠ [] → run blkR l = 0 → l.length + t.length + 1 < f →
    scan f (l ++ 41 :: t) k = follow (scan f l k) (scan F (41 :: t) (k + l.length)) := by
  intro f
  induction f with
  | zero => intro l k _ _ h; omega
  | succ f ih =>
    intro l k hl hb hf
    have hne : l ++ 41 :: t ≠ [] := by simp
    cases ht : tokK l with
    | error e => rw [scan_bad hl ht, scan_bad hne (by rw [tok_cutP _ _ hl]; exact ht)]; rfl
    | ok r =>
      obtain ⟨kd, n, x⟩ := r
      obtain ⟨h1, h2, _⟩ := tok_text ht
      have ht' : tokK (l ++ 41 :: t) = .ok (kd, n, x) := by rw [tok_cutP _ _ hl]; exact ht
      have hd : (l ++ 41 :: t).drop x.length = l.drop x.length ++ 41 :: t := List.drop_append_of_le_length h2
      have hle := run_le blkR (l.drop x.length)
      have hll : (l.drop x.length).length = l.length - x.length := List.length_drop
      simp only [scan, if_neg hl, if_neg hne, ht, ht', hd]
      by_cases hc : run blkR (l.drop x.length) < (l.drop x.length).length
      · rw [(blk_all (41 :: t)).2 hc, List.drop_append_of_le_length hle]
        have h3 := ih ((l.drop x.length).drop (run blkR (l.drop x.length))) (k + x.length + run blkR (l.drop x.length))
          (by intro e; have := congrArg List.length e; rw [List.length_drop] at this; simp only [List.length_nil] at this; omega) (run_drop_run _ _) (by rw [List.length_drop]; omega)
        rw [h3]
        rw [show k + x.length + run blkR (l.drop x.length) + ((l.drop x.length).drop (run blkR (l.drop x.length))).length = k + l.length from by rw [List.length_drop]; omega]
        cases scan f ((l.drop x.length).drop (run blkR (l.drop x.length))) (k + x.length + run blkR (l.drop x.length)) with
        | error e => rfl
        | ok r => cases scan F (41 :: t) (k + l.length) <;> simp [follow, glue]
      · have he : run blkR (l.drop x.length) = (l.drop x.length).length := by omega
        have hb2 : run blkR (41 :: t) = 0 := rfl
        rw [(blk_all (41 :: t)).1 he, hb2]
        have hdd : (l.drop x.length ++ 41 :: t).drop ((l.drop x.length).length + 0) = 41 :: t := by
          rw [List.drop_length_add_append]
          rfl
        have hdn : (l.drop x.length).drop (run blkR (l.drop x.length)) = [] := List.drop_eq_nil_of_le (by omega)
        rw [hdd, hdn, scan_end, scan_fuel f F _ _ (by simp; omega) (by simp; omega)]
        rw [show k + x.length + ((l.drop x.length).length + 0) = k + l.length from by omega]
        cases scan F (41 :: t) (k + l.length) <;> simp [follow, glue]
theorem allK_joinP (s t : List UInt8) : allK (s ++ 41 :: t) = follow (allK s) (shift s.length (allK (41 :: t))) := by
  have hle := run_le blkR s
  have hsh : scan ((41 :: t).length + 1) (41 :: t) s.length = shift s.length (allK (41 :: t)) := by
    have := scan_shift s.length ((41 :: t).length + 1) (41 :: t) 0
    rw [Nat.zero_add] at this
    rw [this]
    rfl
  unfold allK at hsh ⊢
  by_cases hc : run blkR s < s.length
  · rw [(blk_all (41 :: t)).2 hc, List.drop_append_of_le_length hle]
    have hlen : (s ++ 41 :: t).length = s.length + t.length + 1 := by simp; omega
    have hdl : (s.drop (run blkR s)).length = s.length - run blkR s := List.length_drop
    rw [scan_joinP t ((41 :: t).length + 1) (by simp) ((s ++ 41 :: t).length + 1) (s.drop (run blkR s)) (run blkR s)
      (by intro e; have := congrArg List.length e; rw [List.length_drop] at this; simp only [List.length_nil] at this; omega) (run_drop_run _ _) (by omega)]
    rw [scan_fuel ((s ++ 41 :: t).length + 1) (s.length + 1) _ _ (by omega) (by omega)]
    rw [show run blkR s + (s.drop (run blkR s)).length = s.length from by omega, hsh]
  · have he : run blkR s = s.length := by omega
    have hb2 : run blkR (41 :: t) = 0 := rfl
    rw [(blk_all (41 :: t)).1 he, hb2]
    have hdd : (s ++ 41 :: t).drop (s.length + 0) = 41 :: t := by
      rw [List.drop_length_add_append]
      rfl
    have hdn : s.drop (run blkR s) = [] := List.drop_eq_nil_of_le (by omega)
    rw [hdd, hdn, scan_end]
    have hlen : (s ++ 41 :: t).length = s.length + t.length + 1 := by simp; omega
    rw [scan_fuel ((s ++ 41 :: t).length + 1) ((41 :: t).length + 1) _ _ (by simp; omega) (by simp)]
    have hsh' : scan ((41 :: t).length + 1) (41 :: t) s.length = shift s.length (scan ((41 :: t).length + 1) (List.drop 0 (41 :: t)) 0) := hsh
    refine (show scan ((41 :: t).length + 1) (41 :: t) (s.length + 0) = _ from hsh').trans ?_
    simp [follow, glue_nil]
/-- A sign ( ahead. -/
theorem allK_open (s : List UInt8) : allK (40 :: s) = follow (.ok [⟨5, [40], 0, 0⟩]) (shift 1 (allK s)) := by
  have hle := run_le blkR s
  have ht : tokK (40 :: s) = .ok (5, 0, [40]) := by
    have h1 : run ldR (40 :: s) = 0 := rfl
    have h2 : signOf (40 :: s) = some [40] := rfl
    unfold tokK
    rw [h1, h2]; rfl
  have h0 : run blkR (40 :: s) = 0 := rfl
  unfold allK
  rw [h0]
  show scan ((40 :: s).length + 1) (40 :: s) 0 = _
  have hs := scan_good (f := (40 :: s).length) (k := 0) [] (by simp : (40 :: s) ≠ []) ht
  rw [glue_nil] at hs
  rw [hs]
  have hd : ((40 :: s).drop ([40] : List UInt8).length) = s := rfl
  rw [hd]
  have hsh := scan_shift 1 (s.length + 1) (s.drop (run blkR s)) (run blkR s)
  rw [show 0 + ([40] : List UInt8).length + run blkR s = run blkR s + 1 from by simp; omega]
  rw [scan_fuel ((40 :: s).length) (s.length + 1) _ _ (by rw [List.length_drop]; simp; omega) (by rw [List.length_drop]; omega), hsh]
  rfl
theorem allK_shut : allK [41] = .ok [⟨5, [41], 0, 0⟩] := rfl
end Lx
end Go.Proofs.YteabbkhlgnoliaaGreatDoor
namespace Go.Proofs.YteabbkhlgnoliaaGreatDoor
namespace Lx
set_option maxRecDepth 100000
mutual
theorem same_depth : ∀ t t' : Tr, sameT t t' = true → depthT t = depthT t'
  | .node k s n a l, .node k' s' n' a' l', h => by
    rw [sameT] at h
    simp only [Bool.and_eq_true] at h
    rw [depthT, depthT, same_depthL l l' h.2.2.2]
theorem same_depthL : ∀ l l' : List Tr, sameL l l' = true → depthL l = depthL l'
  | [], [], _ => rfl
  | [], _ :: _, h => by simp [sameL] at h
  | _ :: _, [], h => by simp [sameL] at h
  | t :: r, t' :: r', h => by
    rw [sameL, Bool.and_eq_true] at h
    rw [depthL, depthL, same_depth t t' h.1, same_depthL r r' h.2]
end
mutual
theorem same_trans : ∀ a b c : Tr, sameT a b = true → sameT b c = true → sameT a c = true
  | .node k s n p l, .node k' s' n' p' l', .node k'' s'' n'' p'' l'', h1, h2 => by
    rw [sameT] at h1 h2 ⊢
    simp only [Bool.and_eq_true, decide_eq_true_eq] at h1 h2 ⊢
    exact ⟨h1.1.trans h2.1, h1.2.1.trans h2.2.1, h1.2.2.1.trans h2.2.2.1, same_transL l l' l'' h1.2.2.2 h2.2.2.2⟩
theorem same_transL : ∀ a b c : List Tr, sameL a b = true → sameL b c = true → sameL a c = true
  | [], [], [], _, _ => rfl
  | [], [], _ :: _, _, h => by simp [sameL] at h
  | [], _ :: _, _, h, _ => by simp [sameL] at h
  | _ :: _, [], _, h, _ => by simp [sameL] at h
  | _ :: _, _ :: _, [], _, h => by simp [sameL] at h
  | t :: r, t' :: r', t'' :: r'', h1, h2 => by
    rw [sameL, Bool.and_eq_true] at h1 h2 ⊢
    exact ⟨same_trans t t' t'' h1.1 h2.1, same_transL r r' r'' h1.2 h2.2⟩
end
/-- With the next token no tree goes on. -/
def Stops (q : List Tok) : Prop := atomS (peekV q 0) = false ∧ ∀ ss ∈ [[[42], [47]], [[43], [45]], [[60], [61, 61]]], isAny ss (peekV q 0) = false
theorem stops_nil : Stops [] := ⟨atomS_end 0, by decide⟩
theorem stops_par {p : Tok} {r : List Tok} (hp : p.text = [41]) (hk : p.kind = 5) : Stops (p :: r) := by
  refine ⟨by simp [peekV, atomS, hp, hk], fun ss hs => ?_⟩
  cases ha : isAny ss p with
  | false => exact ha
  | true =>
    have h1 := isAny_mem ha
    rw [hp] at h1
    simp only [List.mem_cons, List.not_mem_nil, or_false] at hs
    rcases hs with rfl | rfl | rfl
    · exact absurd h1 (by decide)
    · exact absurd h1 (by decide)
    · exact absurd h1 (by decide)
theorem expr_of_atom (N n : Nat) (p : Tok) (r : List Tok) (t : Tr) (q : List Tok) (hp : p.text = [40]) (hk : p.kind = 5) (hq : Stops q) (ha : atomQ (exprQ (N + 1) n) (p :: r) = .ok (t, q)) : exprQ (N + 1) (n + 1) (p :: r) = .ok (t, q) := by
  have hT : ∀ s, ([40] == s) = false → isT s p = false := fun s hs => by unfold isT; rw [hp]; exact hs
  have a2 : appQ (N + 1) (exprQ (N + 1) n) (p :: r) = .ok (t, q) := by
    have h1 : appQ (N + 1) (exprQ (N + 1) n) (p :: r) = _ := ifQ_f (by show decide (p.kind = 2) = false; rw [hk]; rfl)
    rw [h1]
    unfold bindQ hereQ
    rw [ha]
    have h2 : appLoopQ (exprQ (N + 1) n) (peekV (p :: r) 0).place (N + 1) t q = _ := ifQ_f hq.1
    show appLoopQ (exprQ (N + 1) n) (peekV (p :: r) 0).place (N + 1) t q = _
    rw [h2]; rfl
  have a3 : ∀ (sd : Rg Tr) (ss : List (List UInt8)), sd (p :: r) = .ok (t, q) → isAny ss (peekV q 0) = false → rowQ (N + 1) sd ss (p :: r) = .ok (t, q) := fun sd ss h hs => by
    unfold rowQ bindQ hereQ
    rw [h]
    have h2 : rowLoopQ sd ss (peekV (p :: r) 0).place (N + 1) t q = _ := ifQ_f hs
    show rowLoopQ sd ss (peekV (p :: r) 0).place (N + 1) t q = _
    rw [h2]; rfl
  have a4 : sumQ (N + 1) (exprQ (N + 1) n) (p :: r) = .ok (t, q) := a3 _ _ (a3 _ _ a2 (hq.2 _ (by simp))) (hq.2 _ (by simp))
  have e1 : exprQ (N + 1) (n + 1) (p :: r) = _ := ifQ_f (hT [92] (by decide))
  have e2 : ifQ (isT [108, 101, 116]) (letQ 4 (exprQ (N + 1) n)) (ifQ (isT [108, 101, 116, 114, 101, 99]) (letQ 5 (exprQ (N + 1) n)) (ifQ (isT [99, 97, 115, 101]) (choiceQ (exprQ (N + 1) n)) (cmpQ (sumQ (N + 1) (exprQ (N + 1) n))))) (p :: r) = _ := ifQ_f (hT _ (by decide))
  have e3 : ifQ (isT [108, 101, 116, 114, 101, 99]) (letQ 5 (exprQ (N + 1) n)) (ifQ (isT [99, 97, 115, 101]) (choiceQ (exprQ (N + 1) n)) (cmpQ (sumQ (N + 1) (exprQ (N + 1) n)))) (p :: r) = _ := ifQ_f (hT _ (by decide))
  have e4 : ifQ (isT [99, 97, 115, 101]) (choiceQ (exprQ (N + 1) n)) (cmpQ (sumQ (N + 1) (exprQ (N + 1) n))) (p :: r) = _ := ifQ_f (hT _ (by decide))
  rw [e1, e2, e3, e4]
  unfold cmpQ bindQ hereQ
  rw [a4]
  have h2 : ifQ (isAny [[60], [61, 61]]) (opQ (sumQ (N + 1) (exprQ (N + 1) n)) (peekV (p :: r) 0).place t) (retQ t) q = _ := ifQ_f (hq.2 _ (by simp))
  show ifQ (isAny [[60], [61, 61]]) (opQ (sumQ (N + 1) (exprQ (N + 1) n)) (peekV (p :: r) 0).place t) (retQ t) q = _
  rw [h2]; rfl
theorem within_run {ex : Rg Tr} {lp rp : Tok} {l q : List Tok} {t : Tr} (h1 : lp.text = [40]) (h2 : rp.text = [41]) (h : ex l = .ok (t, rp :: q)) : atomQ ex (lp :: l) = .ok (t, q) := by
  have e1 : atomQ ex (lp :: l) = _ := ifQ_t (by show (lp.text == [40]) = true; rw [h1]; rfl)
  have w1 : takeQ [40] (lp :: l) = .ok (lp, l) := by
    have : takeQ [40] (lp :: l) = nextQ (lp :: l) := ifQ_t (by show (lp.text == [40]) = true; rw [h1]; rfl)
    rw [this]; rfl
  have w2 : takeQ [41] (rp :: q) = .ok (rp, q) := by
    have : takeQ [41] (rp :: q) = nextQ (rp :: q) := ifQ_t (by show (rp.text == [41]) = true; rw [h2]; rfl)
    rw [this]; rfl
  rw [e1]
  unfold withinQ
  rw [bind_run w1, bind_run h, bind_run w2]; rfl
theorem whole_ok {l : List Tok} {t : Tr} (h : wholeQ l = .ok t) : allQ l = .ok (t, []) := by
  unfold wholeQ at h
  cases hq : allQ l with
  | error q => rw [hq] at h; cases h
  | ok x =>
    obtain ⟨u, q⟩ := x
    rw [hq] at h
    cases q with
    | nil => simp only [Except.ok.injEq] at h; rw [h]
    | cons a r => cases h
theorem ok_whole {l : List Tok} {t : Tr} (h : allQ l = .ok (t, [])) : wholeQ l = .ok t := by unfold wholeQ; rw [h]
/-- A text within signs is read as itself. -/
theorem whole_wrap {l : List Tok} {t : Tr} {lp rp : Tok} (h : wholeQ l = .ok t) (hl : l.length < 19000) (h1 : lp.text = [40]) (hk1 : lp.kind = 5) (h2 : rp.text = [41]) (hk2 : rp.kind = 5) : wholeQ (lp :: (l ++ [rp])) = .ok t := by
  have ha := whole_ok h
  rcases nice_all.par l [rp] ⟨rp, [], rfl, h2, hk2⟩ with h3 | ⟨h3, _⟩
  · rw [ha] at h3
    have h4 : exprQ 20000 20000 (l ++ [rp]) = .ok (t, [rp]) := h3
    have h5 := within_run (ex := exprQ 20000 20000) h1 h2 h4
    have h6 := expr_of_atom 19999 20000 lp (l ++ [rp]) t [] h1 hk1 stops_nil h5
    refine ok_whole (expr_fuel (N := 20000) (n := 20001) (k := 20000) ?_ ?_ ?_ h6)
    all_goals simp; omega
  · rw [ha] at h3; cases h3
/-- Does a sign ) stand ahead of its (? -/
def pairedV : Int → List Tok → Bool
  | _, [] => false
  | n, t :: q => if n + bal1 t < 0 then true else pairedV (n + bal1 t) q
theorem paired_of : ∀ (a : List Tok) (n : Int) (r : List Tok), 0 ≤ n → n + bal a < 0 → pairedV n (a ++ r) = true
  | [], n, r, h0, h => by simp [bal] at h; omega
  | t :: a, n, r, h0, h => by
    simp only [List.cons_append, pairedV]
    split
    · rfl
    · exact paired_of a _ r (by omega) (by simp only [bal] at h; omega)
theorem expr_paren_inv {N n : Nat} {p : Tok} {r : List Tok} {t : Tr} {q : List Tok} (hp : p.text = [40]) (hk : p.kind = 5) (h : exprQ N (n + 1) (p :: r) = .ok (t, q)) : ∃ u q1, atomQ (exprQ N n) (p :: r) = .ok (u, q1) := by
  have hT : ∀ s, ([40] == s) = false → isT s (peekV (p :: r) 0) = true → False := fun s hs ht => by
    have h9 : (p.text == s) = true := ht
    rw [hp, hs] at h9; cases h9
  rcases if_ok h with ⟨h0, _⟩ | ⟨_, h⟩
  · exact (hT _ (by decide) h0).elim
  · rcases if_ok h with ⟨h0, _⟩ | ⟨_, h⟩
    · exact (hT _ (by decide) h0).elim
    · rcases if_ok h with ⟨h0, _⟩ | ⟨_, h⟩
      · exact (hT _ (by decide) h0).elim
      · rcases if_ok h with ⟨h0, _⟩ | ⟨_, h⟩
        · exact (hT _ (by decide) h0).elim
        · obtain ⟨x1, l1, h1, _⟩ := bind_ok h
          obtain ⟨_, h2⟩ := here_ok h1
          obtain ⟨x2, l2, h3, _⟩ := bind_ok h2
          obtain ⟨_, h4⟩ := here_ok h3
          obtain ⟨x3, l3, h5, _⟩ := bind_ok h4
          obtain ⟨_, h6⟩ := here_ok h5
          rcases if_ok h6 with ⟨h0, _⟩ | ⟨_, h7⟩
          · have h9 : p.kind = 2 := of_decide_eq_true h0
            omega
          · obtain ⟨x4, l4, h8, _⟩ := bind_ok h7
            obtain ⟨_, h9⟩ := here_ok h8
            exact ⟨x4.2, l4, h9⟩
/-- What is read within signs is read without them, or its own signs are not paired. -/
theorem whole_unwrap {l : List Tok} {t : Tr} {lp rp : Tok} (hg : GL l) (hl : l.length < 19000) (h1 : lp.text = [40]) (hk1 : lp.kind = 5) (h2 : rp.text = [41]) (hk2 : rp.kind = 5) (h : wholeQ (lp :: (l ++ [rp])) = .ok t) : (∃ u, wholeQ l = .ok u) ∨ pairedV 0 l = true := by
  have ha : exprQ 20000 20000 (lp :: (l ++ [rp])) = .ok (t, []) := whole_ok h
  obtain ⟨u, q1, h3⟩ := expr_paren_inv (n := 19999) h1 hk1 ha
  rcases if_ok h3 with ⟨_, h4⟩ | ⟨h0, _⟩
  · obtain ⟨p1, l1, h5, h6⟩ := bind_ok h4
    obtain ⟨v, l2, h7, h8⟩ := bind_ok h6
    obtain ⟨p2, l3, h9, _⟩ := bind_ok h8
    obtain ⟨e1, _⟩ := take_ok h5
    obtain ⟨e2, e3⟩ := take_ok h9
    simp only [List.cons.injEq] at e1
    obtain ⟨rfl, rfl⟩ := e1
    subst e2
    rcases (nice_expr 20000 19999).par l [rp] ⟨rp, [], rfl, h2, hk2⟩ with h10 | ⟨h10, c, hc, h11⟩
    · rw [h7] at h10
      cases hq : exprQ 20000 19999 l with
      | error q => rw [hq] at h10; cases h10
      | ok x =>
        obtain ⟨u', q⟩ := x
        rw [hq] at h10
        simp only [appB, Except.ok.injEq, Prod.mk.injEq] at h10
        obtain ⟨rfl, h12⟩ := h10
        cases q with
        | nil => exact .inl ⟨v, ok_whole (expr_fuel (N := 20000) (n := 19999) (k := 20000) (by omega) (by omega) (by omega) hq)⟩
        | cons a q =>
          simp only [List.cons_append, List.cons.injEq] at h12
          obtain ⟨rfl, _⟩ := h12
          right
          obtain ⟨c, rfl, hc⟩ := iv_expr 20000 19999 l v (p2 :: q) hg hq
          have hb : bal1 p2 = -1 := by unfold bal1; rw [e3]; rfl
          have := paired_of (c ++ [p2]) 0 q (by omega) (by rw [bal_app, hc.bl, bal, bal, hb]; decide)
          simpa using this
    · rw [h7] at h11
      simp only [remQ] at h11
      have := congrArg List.length h11
      simp only [List.length_cons, List.length_nil, List.length_append] at this
      have h13 : 0 < c.length := List.length_pos_iff.2 hc
      omega
  · have h9 : (lp.text == [40]) = false := h0
    rw [h1] at h9; cases h9
end Lx
end Go.Proofs.YteabbkhlgnoliaaGreatDoor
namespace Go.Proofs.YteabbkhlgnoliaaGreatDoor
open Go.RowKit
namespace Lx
set_option maxRecDepth 100000
mutual
theorem one_self : ∀ t : Tr, oneT t t = true
  | .node k s n a l => by rw [oneT]; simp [one_selfL l]
theorem one_selfL : ∀ l : List Tr, oneL l l = true
  | [] => by rw [oneL]
  | t :: r => by rw [oneL, one_self t, one_selfL r]; rfl
end
theorem wholeQ_suf {l q : List Tok} (h : wholeQ l = .error q) : ∃ c, l = c ++ q := by
  obtain ⟨c, hc⟩ := nice_all.suf l
  refine ⟨c, ?_⟩
  unfold wholeQ at h
  cases hq : allQ l with
  | error p => rw [hq] at h hc; simp only [Except.error.injEq] at h; rw [← h]; exact hc
  | ok x =>
    obtain ⟨t, r⟩ := x
    rw [hq] at h hc
    cases r with
    | nil => cases h
    | cons a r => simp only [Except.error.injEq] at h; rw [← h]; exact hc
theorem parseV_err {s : List UInt8} {deep p k : Int} (hd : 1 ≤ deep ∧ deep ≤ 200) (hs : s.length ≤ 4096) (h : parseV s deep = .error (p, k)) : 0 ≤ p ∧ p ≤ s.length ∧ k ≠ 0 := by
  cases hk : allK s with
  | error px =>
    obtain ⟨p', x⟩ := px
    rw [parseV_lex hd hs hk] at h
    simp only [Except.error.injEq, Prod.mk.injEq] at h
    obtain ⟨rfl, rfl⟩ := h
    obtain ⟨j, hj, hl⟩ := allK_place hk
    have := err_code hk
    omega
  | ok ts =>
    rw [parseV_tok hd hs hk] at h
    cases hq : wholeQ ts with
    | error q =>
      rw [hq] at h
      simp only [Except.error.injEq, Prod.mk.injEq] at h
      obtain ⟨rfl, rfl⟩ := h
      obtain ⟨c, rfl⟩ := wholeQ_suf hq
      cases q with
      | nil => simp [peekV]
      | cons a r =>
        have := (allK_GL hk).2.2 a (by simp)
        simp only [peekV]
        omega
    | ok t =>
      rw [hq] at h
      simp only at h
      split at h
      · simp only [Except.error.injEq, Prod.mk.injEq] at h
        omega
      · cases h
theorem iv_may {c : List Tok} {t : Tr} (h : Iv false c t) : mayV t = true := by
  unfold mayV
  rw [h.may, decide_eq_true h.kind]; rfl
theorem parseV_deep {s : List UInt8} {deep d : Int} {t : Tr} (h : parseV s deep = .ok t) (hd : 1 ≤ d ∧ d ≤ 200) : parseV s d = if d < (depthT t : Int) then .error (0, 31) else .ok t := by
  obtain ⟨_, h2, ts, h3, h4, _, _⟩ := parseV_ok h
  rw [parseV_tok hd h2 h3, h4]
end Lx
end Go.Proofs.YteabbkhlgnoliaaGreatDoor
namespace Go.Proofs.YteabbkhlgnoliaaGreatDoor
namespace Lx
set_option maxRecDepth 100000
theorem rel_moved (d : Nat) (ts : List Tok) : Rel false ts (ts.map (moved d)) := by
  unfold Rel xq
  simp [List.map_map, Function.comp_def, er, moved]
theorem rel_back {l m : List Tok} (h : Rel false l m) : Rel false m l := by
  unfold Rel xq at h ⊢
  simpa using h.symm
theorem GL_moved (d : Nat) {ts : List Tok} (h : GL ts) : GL (ts.map (moved d)) := fun t ht => by
  obtain ⟨u, hu, rfl⟩ := List.mem_map.1 ht
  obtain ⟨⟨l, hl⟩, h2⟩ := h u hu
  exact ⟨⟨l, hl⟩, by show 0 ≤ u.place + d; omega⟩
theorem paired_moved (d : Nat) : ∀ (ts : List Tok) (n : Int), pairedV n (ts.map (moved d)) = pairedV n ts
  | [], n => rfl
  | t :: q, n => by
    have hb : bal1 (moved d t) = bal1 t := rfl
    simp only [List.map_cons, pairedV, hb, paired_moved d q]
theorem tokens_open {l : List UInt8} {ts : List Tok} (h : allK l = .ok ts) : ∃ lp : Tok, lp.text = [40] ∧ lp.kind = 5 ∧ allK (40 :: l) = .ok (lp :: ts.map (moved 1)) := by
  refine ⟨⟨5, [40], 0, 0⟩, rfl, rfl, ?_⟩
  rw [allK_open, h]; rfl
theorem tokens_shut {l : List UInt8} {ts : List Tok} (h : allK l = .ok ts) : ∃ rp : Tok, rp.text = [41] ∧ rp.kind = 5 ∧ allK (l ++ [41]) = .ok (ts ++ [rp]) := by
  refine ⟨moved l.length ⟨5, [41], 0, 0⟩, rfl, rfl, ?_⟩
  rw [allK_joinP, h, allK_shut]; rfl
theorem whole_er {l m : List Tok} {t : Tr} (hl : GL l) (hm : l.length < 19000) (h : wholeQ l = .ok t) (hr : Rel false l m) : ∃ t', wholeQ m = .ok t' ∧ sameT t t' = true := by
  refine whole_sim hl ?_ h hr
  have := congrArg List.length hr
  simp only [xq, List.length_map] at this
  simp at this
  omega
/-- A text that was read, within signs. -/
theorem wrap_text {l : List UInt8} {ts : List Tok} {t : Tr} (hs : l.length ≤ 4000) (h : allK l = .ok ts) (hw : wholeQ ts = .ok t) : ∃ ms t', allK (40 :: (l ++ [41])) = .ok ms ∧ wholeQ ms = .ok t' ∧ sameT t t' = true := by
  obtain ⟨rp, r1, r2, h1⟩ := tokens_shut h
  obtain ⟨lp, l1, l2, h2⟩ := tokens_open h1
  obtain ⟨hg, hln, _⟩ := allK_GL h
  obtain ⟨t', h3, h4⟩ := whole_er hg (by omega) hw (rel_moved 1 ts)
  refine ⟨_, t', h2, ?_, h4⟩
  rw [List.map_append]
  exact whole_wrap (rp := moved 1 rp) h3 (by rw [List.length_map]; omega) l1 l2 r1 r2
theorem unwrap_text {l : List UInt8} {ts ms : List Tok} {t : Tr} (hs : l.length ≤ 4000) (h : allK l = .ok ts) (hm : allK (40 :: (l ++ [41])) = .ok ms) (hw : wholeQ ms = .ok t) : (∃ u, wholeQ ts = .ok u) ∨ pairedV 0 ts = true := by
  obtain ⟨rp, r1, r2, h1⟩ := tokens_shut h
  obtain ⟨lp, l1, l2, h2⟩ := tokens_open h1
  obtain ⟨hg, hln, _⟩ := allK_GL h
  rw [h2] at hm
  simp only [Except.ok.injEq] at hm
  subst hm
  rw [List.map_append] at hw
  rcases whole_unwrap (rp := moved 1 rp) (GL_moved 1 hg) (by rw [List.length_map]; omega) l1 l2 r1 r2 hw with ⟨u, hu⟩ | hp
  · obtain ⟨u', h3, _⟩ := whole_er (GL_moved 1 hg) (by rw [List.length_map]; omega) hu (rel_back (rel_moved 1 ts))
    exact .inl ⟨u', h3⟩
  · rw [paired_moved] at hp
    exact .inr hp
theorem two_shut : allK [41, 32, 41] = .ok [⟨5, [41], 0, 0⟩, ⟨5, [41], 0, 2⟩] := by rfl
/-- A text that was read, within two pairs of signs, and blanks. -/
theorem wrap_two {l : List UInt8} {ts : List Tok} {t : Tr} (hs : l.length ≤ 4000) (h : allK l = .ok ts) (hw : wholeQ ts = .ok t) : ∃ ms t', allK (32 :: 40 :: 40 :: (l ++ [32, 41, 32, 41])) = .ok ms ∧ wholeQ ms = .ok t' ∧ sameT t t' = true := by
  obtain ⟨hg, hln, _⟩ := allK_GL h
  have h1 : allK (l ++ 32 :: [41, 32, 41]) = .ok (ts ++ [moved (l.length + 1) ⟨5, [41], 0, 0⟩, moved (l.length + 1) ⟨5, [41], 0, 2⟩]) := by
    rw [allK_join, h, two_shut]; rfl
  obtain ⟨lp, l1, l2, h2⟩ := tokens_open h1
  obtain ⟨lq, q1, q2, h3⟩ := tokens_open h2
  have h4 := allK_ahead [32] (40 :: 40 :: (l ++ 32 :: [41, 32, 41])) rfl
  rw [h3] at h4
  simp only [shift, List.map_cons, List.map_append, List.map_map, List.map_nil] at h4
  obtain ⟨t1, w1, s1⟩ := whole_er hg (by omega) hw (show Rel false ts (ts.map (moved ([32] : List UInt8).length ∘ moved 1 ∘ moved 1)) from by unfold Rel xq; simp [List.map_map, Function.comp_def, er, moved])
  obtain ⟨rp, hrp⟩ : ∃ rp, rp = moved ([32] : List UInt8).length (moved 1 (moved 1 (moved (l.length + 1) ⟨5, [41], 0, 0⟩))) := ⟨_, rfl⟩
  have w2 := whole_wrap (lp := moved ([32] : List UInt8).length (moved 1 lp)) (rp := rp) w1 (by rw [List.length_map]; omega) l1 l2 (by rw [hrp]; rfl) (by rw [hrp]; rfl)
  have w3 := whole_wrap (lp := moved ([32] : List UInt8).length lq) (rp := moved ([32] : List UInt8).length (moved 1 (moved 1 (moved (l.length + 1) ⟨5, [41], 0, 2⟩)))) w2 (by simp; omega) q1 q2 rfl rfl
  refine ⟨_, t1, h4, ?_, s1⟩
  rw [hrp] at w3
  simpa [Function.comp_def] using w3
/-- What ParseRound says of a text whose tokens are ts. -/
theorem round_ok {s : List UInt8} {ts : List Tok} {t : Tr} (hs : s.length ≤ 1500) (h : allK s = .ok ts) (hp : parseV s 200 = .ok t) :
    (∃ t1, parseV (textS ts) 200 = .ok t1 ∧ sameT t t1 = true) ∧ (∃ t2, parseV (40 :: (s ++ [41])) 200 = .ok t2 ∧ sameT t t2 = true) ∧ (∃ t3, parseV (32 :: 40 :: 40 :: (s ++ [32, 41, 32, 41])) 200 = .ok t3 ∧ sameT t t3 = true) := by
  obtain ⟨_, _, ts', h1, hw, hd, _⟩ := parseV_ok hp
  rw [h] at h1
  simp only [Except.ok.injEq] at h1
  subst h1
  obtain ⟨hg, hln, _⟩ := allK_GL h
  have htb : (textS ts).length ≤ 2 * s.length := by
    have := textS_bound _ _ _ _ h
    rw [List.length_drop] at this
    omega
  have fin : ∀ (u : List UInt8) (ms : List Tok) (t' : Tr), u.length ≤ 4096 → allK u = .ok ms → wholeQ ms = .ok t' → sameT t t' = true → ∃ t1, parseV u 200 = .ok t1 ∧ sameT t t1 = true := fun u ms t' hu h1 h2 h3 => by
    refine ⟨t', ?_, h3⟩
    rw [parseV_tok (by omega) hu h1, h2]
    simp only
    rw [if_neg (by have := same_depth t t' h3; omega)]
  refine ⟨?_, ?_, ?_⟩
  · obtain ⟨us, h2, h3⟩ := allK_again h
    have hr : Rel false ts us := by
      unfold Rel xq
      have : us.map er = ts.map er := h3
      simpa using this
    obtain ⟨t', h4, h5⟩ := whole_er hg (by omega) hw hr
    exact fin _ us t' (by omega) h2 h4 h5
  · obtain ⟨ms, t', h2, h3, h4⟩ := wrap_text (by omega) h hw
    exact fin _ ms t' (by simp; omega) h2 h3 h4
  · obtain ⟨ms, t', h2, h3, h4⟩ := wrap_two (by omega) h hw
    exact fin _ ms t' (by simp; omega) h2 h3 h4
theorem round_bad {s : List UInt8} {ts : List Tok} {p e : Int} (hs : s.length ≤ 1500) (h : allK s = .ok ts) (hp : parseV s 200 = .error (p, e)) :
    (∃ p', parseV (textS ts) 200 = .error (p', e)) ∧ (∀ u, parseV (40 :: (s ++ [41])) 200 = .ok u → pairedV 0 ts = true) := by
  obtain ⟨hg, hln, _⟩ := allK_GL h
  have htb : (textS ts).length ≤ 2 * s.length := by
    have := textS_bound _ _ _ _ h
    rw [List.length_drop] at this
    omega
  obtain ⟨us, h2, h3⟩ := allK_again h
  have hr : Rel false ts us := by
    unfold Rel xq
    have : us.map er = ts.map er := h3
    simpa using this
  rw [parseV_tok (by omega) (by omega) h] at hp
  constructor
  · rw [parseV_tok (by omega) (by omega) h2]
    cases hq : wholeQ ts with
    | error q =>
      rw [hq] at hp
      simp only [Except.error.injEq, Prod.mk.injEq] at hp
      cases hu : wholeQ us with
      | error q' => exact ⟨(peekV q' (textS ts).length).place, by rw [← hp.2]⟩
      | ok t' =>
        obtain ⟨t, h4, _⟩ := whole_er (allK_GL h2).1 (by have := (allK_GL h2).2.1; omega) hu (rel_back hr)
        rw [hq] at h4; cases h4
    | ok t =>
      obtain ⟨t', h4, h5⟩ := whole_er hg (by omega) hq hr
      rw [hq] at hp
      simp only at hp
      rw [h4]
      simp only
      rw [← same_depth t t' h5]
      split at hp
      · rename_i hd
        rw [if_pos hd]
        simp only [Except.error.injEq, Prod.mk.injEq] at hp
        exact ⟨0, by rw [← hp.2]⟩
      · cases hp
  · intro u hu
    obtain ⟨_, _, ms, h4, h5, h6, _⟩ := parseV_ok hu
    rcases unwrap_text (by omega) h h4 h5 with ⟨t, ht⟩ | hpr
    · exfalso
      rw [ht] at hp
      simp only at hp
      obtain ⟨ms', t', h7, h8, h9⟩ := wrap_text (by omega) h ht
      rw [h4] at h7
      simp only [Except.ok.injEq] at h7
      subst h7
      rw [h5] at h8
      simp only [Except.ok.injEq] at h8
      subst h8
      rw [if_neg (by have := same_depth t u h9; omega)] at hp
      cases hp
    · exact hpr
end Lx
end Go.Proofs.YteabbkhlgnoliaaGreatDoor
