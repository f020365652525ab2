/-
  Texts that lie one behind the other: Cov TokensT Named.
-/
import Derived.Test.YtfjphadhnaknnaaGreatDoorKD
import Derived.Test.YtfjphadhnaknnaaGreatDoorK3
namespace Go.Proofs.YtfjphadhnaknnaaGreatDoor
namespace Lx
set_option maxRecDepth 100000
/-- From a place on the tokens cover a text, with one blank between, or none. -/
def cov (s : List UInt8) : Nat → List Tok → Prop
  | p, [] => p = s.length
  | p, t :: r => (t.place = p ∨ (t.place = p + 1 ∧ s[p]? = some 32)) ∧ cov s (t.place.toNat + t.text.length) r
/-- A text has these tokens, but for places; they cover it. -/
def Lxt (l : List UInt8) (ts : List Tok) : Prop := ∃ t us, allK l = .ok (t :: us) ∧ (t :: us).map er = ts.map er ∧ t.place = 0 ∧ cov l 0 (t :: us)
theorem lxt_one {l : List UInt8} {k n : Int} (h : allK l = .ok [⟨k, l, n, 0⟩]) : Lxt l [⟨k, l, n, 0⟩] := ⟨_, [], h, rfl, rfl, .inl rfl, by simp [cov]⟩
theorem cov_shift (a b : List UInt8) : ∀ (vs : List Tok) (p : Nat), (∀ v ∈ vs, 0 ≤ v.place) → cov b p vs → cov (a ++ b) (p + a.length) (vs.map (moved a.length))
  | [], p, _, h => by
    simp only [cov] at h
    simp only [List.map_nil, cov, List.length_append]; omega
  | v :: vs, p, hp, h => by
    have h0 := hp v (by simp)
    obtain ⟨h1, h2⟩ := h
    have ih := cov_shift a b vs _ (fun u hu => hp u (by simp [hu])) h2
    have e1 : (moved a.length v).place = v.place + a.length := rfl
    have e2 : (moved a.length v).text = v.text := rfl
    refine ⟨?_, ?_⟩
    · rw [e1]
      rcases h1 with h1 | ⟨h1, h3⟩
      · left; rw [h1]; omega
      · right
        refine ⟨by rw [h1]; omega, ?_⟩
        rw [List.getElem?_append_right (by omega), Nat.add_sub_cancel]; exact h3
    · rw [e1, e2, show (v.place + (a.length : Int)).toNat + v.text.length = v.place.toNat + v.text.length + a.length from by omega]
      exact ih
theorem cov_app (a c : List UInt8) (ws : List Tok) (h : cov (a ++ c) a.length ws) : ∀ (us : List Tok) (p : Nat), cov a p us → (∀ u ∈ us, ∀ q : Nat, u.place = q + 1 → q < a.length) → cov (a ++ c) p (us ++ ws)
  | [], p, h1, _ => by
    simp only [cov] at h1
    rw [h1]; exact h
  | u :: us, p, h1, hq => by
    obtain ⟨h2, h3⟩ := h1
    refine ⟨?_, cov_app a c ws h us _ h3 fun v hv => hq v (by simp [hv])⟩
    rcases h2 with h2 | ⟨h2, h4⟩
    · exact .inl h2
    · right
      have := hq u (by simp) p h2
      exact ⟨h2, by rw [List.getElem?_append_left this]; exact h4⟩
theorem lxt_pl {l : List UInt8} {us : List Tok} (h : allK l = .ok us) : (∀ u ∈ us, 0 ≤ u.place) ∧ ∀ u ∈ us, ∀ q : Nat, u.place = q + 1 → q < l.length := by
  obtain ⟨_, _, h3⟩ := allK_GL h
  exact ⟨fun u hu => (h3 u hu).1, fun u hu q hq => by have := (h3 u hu).2; omega⟩
theorem lxt_join {a b : List UInt8} {x y : List Tok} (ha : Lxt a x) (hb : Lxt b y) : Lxt (a ++ 32 :: b) (x ++ y) := by
  obtain ⟨t, us, h1, h2, h3, h4⟩ := ha
  obtain ⟨v, vs, k1, k2, k3, k4⟩ := hb
  refine ⟨t, us ++ (v :: vs).map (moved (a.length + 1)), by rw [allK_join, h1, k1]; rfl, ?_, h3, ?_⟩
  · rw [← List.cons_append, List.map_append, er_moved, h2, k2, List.map_append]
  · have hs := cov_shift (a ++ [32]) b (v :: vs) 0 (lxt_pl k1).1 k4
    have e : (a ++ [32]).length = a.length + 1 := by simp
    have e2 : a ++ [32] ++ b = a ++ 32 :: b := by simp
    rw [e, e2, Nat.zero_add] at hs
    refine cov_app a (32 :: b) _ ?_ (t :: us) 0 h4 (lxt_pl h1).2
    obtain ⟨_, hs2⟩ := hs
    refine ⟨.inr ⟨?_, by simp⟩, hs2⟩
    show v.place + ((a.length + 1 : Nat) : Int) = _
    rw [k3]; omega
theorem lxt_sgn {a : List UInt8} {x : List Tok} {c d : UInt8} (ha : Lxt a x) (h1 : ∀ us, allK a = .ok us → allK (c :: (a ++ [d])) = .ok (sg [c] :: (us ++ [moved a.length (sg [d])]).map (moved 1))) : Lxt (c :: (a ++ [d])) (sg [c] :: (x ++ [sg [d]])) := by
  obtain ⟨t, us, k1, k2, k3, k4⟩ := ha
  refine ⟨sg [c], _, h1 _ k1, ?_, rfl, ?_⟩
  · rw [List.map_cons, er_moved, List.map_append, k2]; simp [er, moved]
  · have hs := cov_shift [c] (a ++ [d]) ((t :: us) ++ [moved a.length (sg [d])]) 0 (fun u hu => by
      rcases List.mem_append.1 hu with h | h
      · exact (lxt_pl k1).1 u h
      · simp only [List.mem_singleton] at h
        subst h
        show (0 : Int) ≤ 0 + (a.length : Int)
        omega) (cov_app a [d] [moved a.length (sg [d])] ⟨.inl (by show (0 : Int) + (a.length : Int) = _; omega), by
        show _ = (a ++ [d]).length
        simp [moved, sg]⟩ (t :: us) 0 k4 (lxt_pl k1).2)
    exact ⟨.inl rfl, by simpa [sg] using hs⟩
theorem lxt_par {a : List UInt8} {x : List Tok} (ha : Lxt a x) : Lxt (40 :: (a ++ [41])) (sg [40] :: (x ++ [sg [41]])) :=
  lxt_sgn ha fun us h1 => by
    have h3 : allK (a ++ [41]) = .ok (us ++ [moved a.length (sg [41])]) := by rw [allK_joinP, h1, allK_shut]; rfl
    rw [allK_open, h3]; rfl
theorem lxt_lam {a : List UInt8} {x : List Tok} (ha : Lxt a x) : Lxt (92 :: a ++ [46]) (sg [92] :: (x ++ [sg [46]])) :=
  lxt_sgn ha fun us h1 => by
    have h3 : allK (a ++ [46]) = .ok (us ++ [moved a.length (sg [46])]) := by rw [allK_joinD, h1, allK_dot]; rfl
    rw [allK_lam, h3]; rfl
/-- Words and their tokens. -/
def LxtL : List (List UInt8) → List (List Tok) → Prop
  | [], [] => True
  | a :: r, x :: q => Lxt a x ∧ LxtL r q
  | _, _ => False
theorem lxt_words : ∀ (ws : List (List UInt8)) (xs : List (List Tok)), ws ≠ [] → LxtL ws xs → Lxt (joinS ws) xs.flatten
  | [], _, h, _ => absurd rfl h
  | _ :: _, [], _, h => h.elim
  | [a], [x], _, h => by simpa [joinS] using h.1
  | [a], x :: y :: q, _, h => h.2.elim
  | a :: b :: r, [x], _, h => h.2.elim
  | a :: b :: r, x :: y :: q, _, h => by
    have := lxt_words (b :: r) (y :: q) (by simp) h.2
    rw [List.flatten_cons]
    exact lxt_join h.1 this
theorem lxtL_app : ∀ {a b : List (List UInt8)} {x y : List (List Tok)}, LxtL a x → LxtL b y → LxtL (a ++ b) (x ++ y)
  | [], _, [], _, _, h => h
  | [], _, _ :: _, _, h, _ => h.elim
  | _ :: _, _, [], _, h, _ => h.elim
  | _ :: _, _, _ :: _, _, h1, h2 => ⟨h1.1, lxtL_app h1.2 h2⟩
theorem lxt_of {l : List UInt8} {k n : Int} (hl : l ≠ []) (h : tokK l = .ok (k, n, l)) : Lxt l [⟨k, l, n, 0⟩] := by
  cases l with
  | nil => exact absurd rfl hl
  | cons c r => exact lxt_one (tok_cons h)
theorem lxt_name {l : List UInt8} (h : nameV l = true) : Lxt l [⟨1, l, 0, 0⟩] := by
  simp only [nameV, Bool.and_eq_true, decide_eq_true_eq, Bool.not_eq_true'] at h
  obtain ⟨h1, h2, h3, h4⟩ := h
  have hne := run_pos_ne h1
  have hpos := List.length_pos_iff.2 hne
  refine lxt_of hne ?_
  unfold tokK
  rw [if_pos (by omega), h2, List.take_length]
  unfold runK
  rw [if_neg (by rw [run0_dig h1]; omega), if_neg (by omega), if_neg (by rw [h4]; simp), if_pos h1]
theorem lxt_con {l : List UInt8} (h : conV l = true) : Lxt l [⟨2, l, 0, 0⟩] := by
  simp only [conV, Bool.and_eq_true, decide_eq_true_eq] at h
  obtain ⟨h1, h2, h3⟩ := h
  have hne := run_pos_ne h1
  have hpos := List.length_pos_iff.2 hne
  obtain ⟨e1, e2⟩ := run0_up h1
  have hw : wordS l = false := by
    cases hw : wordS l with
    | false => rfl
    | true =>
      simp only [wordS, Bool.or_eq_true, beq_iff_eq] at hw
      rcases hw with rfl | rfl | rfl | rfl | rfl <;> revert h1 <;> decide
  refine lxt_of hne ?_
  unfold tokK
  rw [if_pos (by omega), h2, List.take_length]
  unfold runK
  rw [if_neg (by rw [e1]; omega), if_neg (by omega), if_neg (by rw [hw]; simp), if_neg (by rw [e2]; omega)]
theorem lxt_op {l : List UInt8} (h : opV l = true) : Lxt l [sg l] := by
  simp only [opV, Bool.or_eq_true, beq_iff_eq] at h
  rcases h with rfl | rfl | rfl | rfl | rfl | rfl <;> exact lxt_one rfl
theorem lxt_int {n : Int} (h0 : 0 ≤ n) (h1 : n < 1000000000000000000) : Lxt (Lib.itoa n) [⟨3, Lib.itoa n, n, 0⟩] := by
  obtain ⟨u, rfl⟩ : ∃ u : Nat, n = u := ⟨n.toNat, by omega⟩
  have he : Lib.itoa (u : Int) = Lib.decDigits u := by unfold Lib.itoa; rw [if_neg (by omega)]; simp
  rw [he]
  obtain ⟨h2, h3, h4⟩ := dec_num u
  have hr : run digR (Lib.decDigits u) = (Lib.decDigits u).length := run_all digR _ h3
  have hr2 : run ldR (Lib.decDigits u) = (Lib.decDigits u).length := run_all ldR _ (fun c hc => by simp [ldR, h3 c hc])
  have hpos := List.length_pos_iff.2 h4
  have hlen := dec_len u (by omega)
  refine lxt_of h4 ?_
  unfold tokK
  rw [if_pos (by omega), hr2, List.take_length]
  unfold runK numK
  rw [if_pos (by omega), hr, if_neg (by omega), if_neg ?_, h2]
  rintro (h | ⟨h, h5⟩)
  · omega
  · by_cases hu : 0 < u
    · exact dec_head u hu h5
    · have : u = 0 := by omega
      subst this
      rw [Lib.decDigits, dif_pos (by omega)] at h
      simp at h
def LxY : List (Int × List UInt8) → List (Int × List Tok) → Prop
  | [], [] => True
  | x :: r, y :: q => (x.1 = y.1 ∧ Lxt x.2 y.2) ∧ LxY r q
  | _, _ => False
theorem lxt_at (lv : Int) {x : Int × List UInt8} {y : Int × List Tok} (h : x.1 = y.1 ∧ Lxt x.2 y.2) : Lxt (parS lv x) (parK lv y) := by
  unfold parS parK
  rw [h.1]
  split
  · exact h.2
  · exact lxt_par h.2
theorem lyL_par (lv : Int) : ∀ {X : List (Int × List UInt8)} {Y : List (Int × List Tok)}, LxY X Y → LxtL (X.map (parS lv)) (Y.map (parK lv))
  | [], [], _ => trivial
  | [], _ :: _, h => h.elim
  | _ :: _, [], h => h.elim
  | _ :: _, _ :: _, h => ⟨lxt_at lv h.1, lyL_par lv h.2⟩
theorem lyX_take : ∀ (n : Nat) {X : List (Int × List UInt8)} {Y : List (Int × List Tok)}, LxY X Y → LxY (X.take n) (Y.take n)
  | 0, _, _, _ => by simp [LxY]
  | n + 1, [], [], _ => trivial
  | n + 1, [], _ :: _, h => h.elim
  | n + 1, _ :: _, [], h => h.elim
  | n + 1, _ :: _, _ :: _, h => ⟨h.1, lyX_take n h.2⟩
theorem lyX_get : ∀ (n : Nat) {X : List (Int × List UInt8)} {Y : List (Int × List Tok)}, LxY X Y → n < X.length → (atD X n).1 = (atK Y n).1 ∧ Lxt (atD X n).2 (atK Y n).2
  | _, [], _, _, hn => by simp at hn
  | _, _ :: _, [], h, _ => h.elim
  | 0, _ :: _, _ :: _, h, _ => h.1
  | n + 1, _ :: r, _ :: q, h, hn => by
    have := lyX_get n h.2 (by simpa using hn)
    simpa [atD, atK] using this
theorem lxt_bar : Lxt [124] [sg [124]] := (lxt_one rfl)
theorem lyL_alt {s : List UInt8} (hs : Lxt s [sg s]) : ∀ {X : List (Int × List UInt8)} {Y : List (Int × List Tok)}, LxY X Y → LxtL (altW s X) (altK s Y)
  | [], [], _ => trivial
  | [], _ :: _, h => h.elim
  | _ :: _, [], h => h.elim
  | _ :: _, _ :: _, h => ⟨hs, lxt_at 0 h.1, lyL_alt lxt_bar h.2⟩
mutual
theorem lxt_tree : ∀ t : Tr, mayT t = true → Lxt (showT t) (tkT t)
  | .node k s n a l, h => by
    obtain ⟨hnm, hpt, ha, hml⟩ := may_inv h
    have hX := lxt_list l (decide (k = 3)) (mayL_memT k n l 0 hml)
    have hXl := showL_len (decide (k = 3)) l
    rw [showT, tkT]
    generalize showL (decide (k = 3)) l = X at hX hXl
    generalize tkL (decide (k = 3)) l = Y at hX
    rcases (by
      by_cases h : k = 1 ∨ k = 2 ∨ k = 3 ∨ k = 4 ∨ k = 5 ∨ k = 6 ∨ k = 7 ∨ k = 8 ∨ k = 9 ∨ k = 10
      · exact h
      · exfalso
        simp only [not_or] at h
        obtain ⟨e1, e2, e3, e4, e5, e6, e7, e8, e9, e10⟩ := h
        simp [partsV, e1, e2, e3, e4, e5, e6, e7, e8, e9, e10] at hpt : k = 1 ∨ k = 2 ∨ k = 3 ∨ k = 4 ∨ k = 5 ∨ k = 6 ∨ k = 7 ∨ k = 8 ∨ k = 9 ∨ k = 10) with rfl | rfl | rfl | rfl | rfl | rfl | rfl | rfl | rfl | rfl
    all_goals (refine lxt_words _ _ (by simp [wordsN]) ?_)
    · exact ⟨lxt_name (by simpa [nameOkV] using hnm), trivial⟩
    · simp [partsV] at hpt
      exact ⟨lxt_lam (lxt_name (by simpa [nameOkV] using hnm)), lxt_at 0 (lyX_get 0 hX (by omega)), trivial⟩
    · simp [partsV] at hpt
      exact ⟨lxt_at 4 (lyX_get 0 hX (by omega)), lxt_at 5 (lyX_get 1 hX (by omega)), trivial⟩
    · simp [partsV] at hpt
      exact ⟨(lxt_one rfl), lxt_name (by simpa [nameOkV] using hnm), (lxt_one rfl), lxt_at 0 (lyX_get 0 hX (by omega)), (lxt_one rfl), lxt_at 0 (lyX_get 1 hX (by omega)), trivial⟩
    · simp [partsV] at hpt
      exact ⟨(lxt_one rfl), lxt_name (by simpa [nameOkV] using hnm), (lxt_one rfl), lxt_at 0 (lyX_get 0 hX (by omega)), (lxt_one rfl), lxt_at 0 (lyX_get 1 hX (by omega)), trivial⟩
    · exact ⟨lxt_con (by simpa [nameOkV] using hnm), lyL_par 5 hX⟩
    · simp [partsV] at hpt
      have h1 : LxtL [[99, 97, 115, 101], parS 0 (atD X 0), [111, 102]] [[wd [99, 97, 115, 101]], parK 0 (atK Y 0), [wd [111, 102]]] := ⟨(lxt_one rfl), lxt_at 0 (lyX_get 0 hX (by omega)), (lxt_one rfl), trivial⟩
      have h2 : LxY (X.drop 1) (Y.drop 1) := by
        cases X with
        | nil => simp at hXl; omega
        | cons x r =>
          cases Y with
          | nil => exact hX.elim
          | cons y q => exact hX.2
      exact lxtL_app (lxtL_app h1 (lyL_alt (lxt_one rfl) h2)) ⟨(lxt_one rfl), trivial⟩
    · simp [partsV] at hpt
      have h1 : LxtL (s.data.toList :: (X.take n.toNat).map (parS 5)) ([⟨2, s.data.toList, 0, 0⟩] :: (Y.take n.toNat).map (parK 5)) := ⟨lxt_con (by simpa [nameOkV] using hnm), lyL_par 5 (lyX_take n.toNat hX)⟩
      exact lxtL_app h1 ⟨(lxt_one rfl), lxt_at 0 (lyX_get n.toNat hX (by omega)), trivial⟩
    · simp [partsV] at hpt
      exact ⟨lxt_int (by omega) (by omega), trivial⟩
    · simp [partsV] at hpt
      exact ⟨lxt_at _ (lyX_get 0 hX (by omega)), lxt_op (by simpa [nameOkV] using hnm), lxt_at _ (lyX_get 1 hX (by omega)), trivial⟩
theorem lxt_list : ∀ (l : List Tr) (b : Bool), (∀ t ∈ l, mayT t = true) → LxY (showL b l) (tkL b l)
  | [], _, _ => trivial
  | t :: r, b, h => by
    rw [showL, tkL]
    exact ⟨⟨rfl, lxt_tree t (h t (by simp))⟩, lxt_list r false fun u hu => h u (by simp [hu])⟩
end
end Lx
end Go.Proofs.YtfjphadhnaknnaaGreatDoor
namespace Go.Proofs.YtfjphadhnaknnaaGreatDoor
namespace Lx
set_option maxRecDepth 100000
mutual
/-- Has a tree, or a part of it, a name? -/
def namedT (nm : ByteArray) : Tr → Bool
  | .node _ s _ _ l => decide (s = nm) || namedL nm l
def namedL (nm : ByteArray) : List Tr → Bool
  | [] => false
  | t :: r => namedT nm t || namedL nm r
end
theorem namedL_mem {nm : ByteArray} : ∀ {l : List Tr} {t : Tr}, t ∈ l → namedT nm t = true → namedL nm l = true
  | [], _, h, _ => by simp at h
  | u :: r, t, h, h2 => by
    rw [namedL, Bool.or_eq_true]
    rcases List.mem_cons.1 h with rfl | h
    · exact .inl h2
    · exact .inr (namedL_mem h h2)
def AllP (P : Tok → Prop) (l : List Tok) : Prop := ∀ x ∈ l, P x
section
variable {P : Tok → Prop} (hs : ∀ s, P (sg s)) (hw : ∀ s, P (wd s))
include hs
theorem ap_par (lv : Int) {y : Int × List Tok} (h : AllP P y.2) : AllP P (parK lv y) := by
  unfold parK
  split
  · exact h
  · intro x hx
    simp only [List.mem_cons, List.mem_append, List.not_mem_nil, or_false] at hx
    rcases hx with rfl | hx | rfl
    · exact hs _
    · exact h x hx
    · exact hs _
def ApX (P : Tok → Prop) (Y : List (Int × List Tok)) : Prop := ∀ y ∈ Y, AllP P y.2
theorem ap_at {Y : List (Int × List Tok)} (h : ApX P Y) (lv : Int) (i : Nat) : AllP P (parK lv (atK Y i)) := by
  refine ap_par hs lv ?_
  unfold atK List.getD
  cases he : Y[i]? with
  | none => intro x hx; cases hx
  | some y => exact h y (List.mem_of_getElem? he)
theorem ap_map (lv : Int) {Y : List (Int × List Tok)} (h : ApX P Y) : AllP P (Y.map (parK lv)).flatten := fun x hx => by
  obtain ⟨l, hl, hx⟩ := List.mem_flatten.1 hx
  obtain ⟨y, hy, rfl⟩ := List.mem_map.1 hl
  exact ap_par hs lv (h y hy) x hx
theorem ap_alt : ∀ (s : List UInt8) {Y : List (Int × List Tok)}, ApX P Y → AllP P (altK s Y).flatten
  | s, [], _ => fun x hx => by simp [altK] at hx
  | s, y :: r, h => fun x hx => by
    rw [altK, List.flatten_cons, List.flatten_cons] at hx
    simp only [List.mem_append, List.mem_cons, List.not_mem_nil, or_false] at hx
    rcases hx with rfl | hx | hx
    · exact hs _
    · exact ap_par hs 0 (h y (by simp)) x hx
    · exact ap_alt [124] (fun u hu => h u (by simp [hu])) x hx
include hw
theorem ap_words (k : Int) (s : List UInt8) (n : Int) {Y : List (Int × List Tok)} (h1 : P ⟨1, s, 0, 0⟩) (h2 : P ⟨2, s, 0, 0⟩) (h3 : P ⟨3, Lib.itoa n, n, 0⟩) (h : ApX P Y) : AllP P (wordsK k s n Y).flatten := fun x hx => by
  have hp := fun lv i => ap_at hs h lv i x
  unfold wordsK at hx
  generalize (if levelS s = 1 then 2 else levelS s) = q at hx
  split at hx
  · simp at hx; rw [hx]; exact h1
  split at hx
  · simp at hx; rw [hx]; exact h3
  split at hx
  · simp at hx
    rcases hx with rfl | rfl | rfl | hx
    · exact hs _
    · exact h1
    · exact hs _
    · exact hp _ _ hx
  split at hx
  · simp at hx
    rcases hx with rfl | rfl | rfl | hx | rfl | hx
    · exact hw _
    · exact h1
    · exact hs _
    · exact hp _ _ hx
    · exact hw _
    · exact hp _ _ hx
  split at hx
  · simp at hx
    rcases hx with rfl | rfl | rfl | hx | rfl | hx
    · exact hw _
    · exact h1
    · exact hs _
    · exact hp _ _ hx
    · exact hw _
    · exact hp _ _ hx
  split at hx
  · rw [List.flatten_append, List.flatten_append] at hx
    rcases List.mem_append.1 hx with hx | hx
    · rcases List.mem_append.1 hx with hx | hx
      · simp at hx
        rcases hx with rfl | hx | rfl
        · exact hw _
        · exact hp _ _ hx
        · exact hw _
      · exact ap_alt hs _ (fun u hu => h u (List.mem_of_mem_drop hu)) x hx
    · simp at hx; rw [hx]; exact hs _
  split at hx
  · rw [List.flatten_append] at hx
    rcases List.mem_append.1 hx with hx | hx
    · rw [List.flatten_cons] at hx
      rcases List.mem_append.1 hx with hx | hx
      · simp at hx; rw [hx]; exact h2
      · exact ap_map hs 5 (fun u hu => h u (List.mem_of_mem_take hu)) x hx
    · simp at hx
      rcases hx with rfl | hx
      · exact hs _
      · exact hp _ _ hx
  split at hx
  · simp at hx
    rcases hx with hx | rfl | hx
    · exact hp _ _ hx
    · exact hs _
    · exact hp _ _ hx
  split at hx
  · rw [List.flatten_cons] at hx
    rcases List.mem_append.1 hx with hx | hx
    · simp at hx; rw [hx]; exact h2
    · exact ap_map hs 5 h x hx
  split at hx
  · simp at hx
    rcases hx with hx | hx
    · exact hp _ _ hx
    · exact hp _ _ hx
  · simp at hx
end
def Nmd (t : Tr) (x : Tok) : Prop := (x.kind = 1 ∨ x.kind = 2) → namedT ⟨x.text.toArray⟩ t = true
theorem mk_listT (s : ByteArray) : (⟨s.data.toList.toArray⟩ : ByteArray) = s := by cases s; simp
theorem nmd_list : ∀ (l : List Tr) (b : Bool), ∀ y ∈ tkL b l, ∃ t ∈ l, y.2 = tkT t
  | [], _, y, hy => by cases hy
  | t :: r, b, y, hy => by
    rw [tkL] at hy
    rcases List.mem_cons.1 hy with rfl | hy
    · exact ⟨t, by simp, rfl⟩
    · obtain ⟨u, hu, e⟩ := nmd_list r false y hy
      exact ⟨u, by simp [hu], e⟩
mutual
theorem nmd_tree : ∀ t : Tr, AllP (Nmd t) (tkT t)
  | .node k s n a l => by
    rw [tkT]
    have hself : namedT ⟨s.data.toList.toArray⟩ (.node k s n a l) = true := by rw [namedT, mk_listT]; simp
    refine ap_words (fun s h => by simp [sg] at h) (fun s h => by simp [wd] at h) k s.data.toList n (fun _ => hself) (fun _ => hself) (fun h => by simp at h) fun y hy x hx h => ?_
    rw [namedT, Bool.or_eq_true]
    right
    obtain ⟨t, ht, e⟩ := nmd_list l (decide (k = 3)) y hy
    rw [e] at hx
    exact namedL_mem ht (nmd_in l t ht x hx h)
theorem nmd_in : ∀ (l : List Tr) (t : Tr), t ∈ l → AllP (Nmd t) (tkT t)
  | [], t, h => by simp at h
  | u :: r, t, h => by
    by_cases e : t = u
    · rw [e]; exact nmd_tree u
    · exact nmd_in r t (by simpa [e] using h)
end
/-- What ShowTokens asks of a text's tokens. -/
theorem tokens_ok {t : Tr} (hm : mayV t = true) : ∃ v vs, allK (showT t) = .ok (v :: vs) ∧ v.place = 0 ∧ cov (showT t) 0 (v :: vs) ∧ ∀ x ∈ v :: vs, Nmd t x := by
  simp only [mayV, Bool.and_eq_true] at hm
  obtain ⟨v, vs, h1, h2, h3, h4⟩ := lxt_tree t hm.2
  refine ⟨v, vs, h1, h3, h4, fun x hx => ?_⟩
  have h5 : er x ∈ (tkT t).map er := by rw [← h2]; exact List.mem_map_of_mem hx
  obtain ⟨y, hy, he⟩ := List.mem_map.1 h5
  have h6 := nmd_tree t y hy
  unfold Nmd at h6 ⊢
  rw [← er_kind he, ← er_text he]
  exact h6
end Lx
end Go.Proofs.YtfjphadhnaknnaaGreatDoor
namespace Go.Proofs.YtfjphadhnaknnaaGreatDoor
open Go.RowKit Go.Sort
namespace Lx
set_option maxRecDepth 100000
theorem namedL_take (nm : ByteArray) (l : List Tr) (i : Nat) (h : i < l.length) : namedL nm (l.take (i + 1)) = (namedL nm (l.take i) || namedT nm (l[i]'h)) := by
  have key : ∀ (a : List Tr) (t : Tr), namedL nm (a ++ [t]) = (namedL nm a || namedT nm t) := by
    intro a t
    induction a with
    | nil => simp [namedL]
    | cons u r ih => simp only [List.cons_append, namedL, ih, Bool.or_assoc]
  rw [List.take_succ_eq_append_getElem h]
  exact key _ _
set_option maxHeartbeats 2000000 in
theorem named_any (nm : ByteArray) (d : Nat) : ∀ (t : Tr) (A : Option Addr) (c : Nat) (w : World), depthT t ≤ d → sizeT t ≤ 100000 → TIn w Any t A →
    Calls Tryz.prog 22 #[tv t A c, .string nm] w fun e w' => e = .returned (.bool (namedT nm t)) ∧ Below w.heap.size w w' := by
  induction d with
  | zero => intro t A c w h; have := depth_pos t; omega
  | succ d ih =>
    intro t A c w hd hs hI
    obtain ⟨k, s, n, a, l⟩ := t
    have hdL : depthL l ≤ d := by rw [depthT] at hd; omega
    have hsL : sizeL l ≤ 100000 := by rw [sizeT] at hs; omega
    have hlen := sizeL_len l
    have HI := Lib.hid hI
    have HE : Hid (namedT nm (.node k s n a l) = (decide (s = nm) || namedL nm l)) := Lib.hid (by rw [namedT])
    clear hI hd hs
    show Calls Tryz.prog 22 #[.agg #[.int .i64 k, .string s, .int .i64 n, .int .i64 a, .slice A l.length (capF l.length c)], .string nm] w _
    generalize capF l.length c = c
    obtain ⟨m, hm⟩ : ∃ m, m = l.length := ⟨_, rfl⟩
    rw [← hm]
    have hm1 : m ≤ l.length := by omega
    have hm2 : l.length ≤ m := by omega
    clear hm
    by_cases hq : s = nm
    · subst hq
      go_enter Tryz.func22, Tryz.ntmps22
      go_wp2_with fail
      go_ret
      exact ⟨by rw [HE.out]; simp, (Below.refl _ w).alloc (Nat.le_refl _) _⟩
    · have hn1 : (s.toList == nm.toList) = false := by
        rw [beq_eq_false_iff_ne]
        intro h
        have e1 : ∀ Z : ByteArray, Z.toList = Z.data.toList := fun Z => by obtain ⟨d⟩ := Z; obtain ⟨l⟩ := d; exact ByteArray.toList_mk l
        rw [e1, e1] at h
        apply hq
        rw [← mk_listT s, h, mk_listT]
      have hn2 : ¬ s.toList = nm.toList := by simpa using hn1
      have HQ := Lib.hid hq
      clear hq
      go_enter Tryz.func22, Tryz.ntmps22
      go_wp2_with fail
      go_loopw [5] (fun x wr => ∃ i : Nat, i ≤ m ∧ x = .int .i64 i ∧ Hid (namedL nm (l.take i) = false) ∧ Below (w.heap.size + 1) (w.alloc (.cells #[.int .i64 k, .string s, .int .i64 n, .int .i64 a, .slice A m c] 24)) wr) (fun x _ => m - (intOf x).toNat)
      case atStart => exact ⟨0, by omega, rfl, Lib.hid (by simp [namedL]), Below.refl _ _⟩
      case round =>
        obtain ⟨i, hi, rfl, HN, hbx⟩ := hrel
        have hbw : Below w.heap.size w wr := ((Below.refl _ w).alloc (Nat.le_refl _) _).trans (hbx.mono (by omega))
        have hbs := hbx.size
        simp at hbs
        have c4 := ((Lies.new w 24 #[.int .i64 k, .string s, .int .i64 n, .int .i64 a, .slice A m c]).below hbx (by omega)).cell 4
        simp at c4
        by_cases hlt : i < m
        · have hia : i < l.length := by omega
          obtain ⟨g, o, A', c', ⟨hA, _⟩, d0, d1, d2, d3, d4, hIn⟩ := TIn.part (TIn.below _ HI.out hbw (Nat.le_refl _)) i hia
          subst hA
          have hm3 := depthL_mem l (l[i]'hia) (List.getElem_mem hia)
          have hm4 := sizeL_mem l (l[i]'hia) (List.getElem_mem hia)
          have HS := Lib.hid (namedL_take nm l i hia)
          have HM := Lib.hid (fun (h : namedT nm (l[i]'hia) = true) => namedL_mem (List.getElem_mem hia) h)
          simp only [Tr.parts] at d0 d1 d2 d3 d4 hIn
          obtain ⟨tr, hu⟩ : ∃ tr, tr = l[i]'hia := ⟨_, rfl⟩
          rw [← hu] at d0 d1 d2 d3 d4 hIn hm3 hm4 HS HM
          clear hu
          obtain ⟨tk, ts, tn, ta, tl⟩ := tr
          simp only [Tr.kind, Tr.name, Tr.n, Tr.place] at d0 d1 d2 d3 d4
          have HC := Lib.hid (ih (.node tk ts tn ta tl) A' c' wr (by omega) (by omega) hIn)
          have HC := Lib.hid (show Calls Tryz.prog 22 #[.agg #[.int .i64 tk, .string ts, .int .i64 tn, .int .i64 ta, .slice A' tl.length (capF tl.length c')], .string nm] wr _ from HC.out)
          obtain ⟨bb, hbb⟩ : ∃ bb, bb = namedT nm (.node tk ts tn ta tl) := ⟨_, rfl⟩
          rw [← hbb] at HC HS HM
          clear hbb
          go_wp2_with fail
          refine HC.out.mono ?_
          rintro e w2 ⟨rfl, hb2⟩
          cases bb with
          | true =>
            have h9 := HM.out (by first | rfl | trivial)
            have HE9 : Hid (namedT nm (.node k s n a l) = true) := Lib.hid (by rw [HE.out, h9]; simp)
            clear h9
            go_wp2_with fail
            go_ret
            exact ⟨by rw [HE9.out]; rfl, hbw.trans (hb2.mono hbw.size)⟩
          | false =>
            go_wp2_with fail
            go_roundw
            case rel => exact ⟨i + 1, by omega, by go_num, Lib.hid (by rw [HS.out, HN.out]; rfl), hbx.trans (hb2.mono (by simpa using hbx.size))⟩
            case measure => simp [intOf]; omega
        · obtain rfl : i = m := by omega
          have h9 := HN.out
          rw [List.take_of_length_le (by omega)] at h9
          have HE9 : Hid (namedT nm (.node k s n a l) = false) := Lib.hid (by rw [HE.out, h9, decide_eq_false HQ.out]; rfl)
          clear h9
          go_wp2_with fail
          go_ret
          exact ⟨by rw [HE9.out]; rfl, hbw⟩
end Lx
end Go.Proofs.YtfjphadhnaknnaaGreatDoor
