/-
  Texts that lie one behind the other: JoinD Tk TkT ReadT ReadA BackT BackS.
-/
import Derived.Test.YteabbkhlgnoliaaGreatDoorK6
import Derived.Test.YteabbkhlgnoliaaGreatDoorKA
import Derived.Test.YteabbkhlgnoliaaGreatDoorK8
import Derived.Test.YteabbkhlgnoliaaGreatDoorK3
import Derived.Test.YteabbkhlgnoliaaGreatDoorKB
namespace Go.Proofs.YteabbkhlgnoliaaGreatDoor
namespace Lx
set_option maxRecDepth 100000
theorem run_cutD (P : Int → Bool) (hP : P 46 = false) (t : List UInt8) : ∀ l : List UInt8, run P (l ++ 46 :: t) = run P l
  | [] => by simp [run, hP]
  | c :: l => by
    have := run_cutD P hP t l
    simp [run, this]
theorem prefix_cutD (t : List UInt8) : ∀ (g l : List UInt8), (46 : UInt8) ∉ g → Lib.hasPrefix (l ++ 46 :: t) g = Lib.hasPrefix l g
  | [], _, _ => rfl
  | a :: g, [], h => by
    have ha : a ≠ 46 := by intro e; subst e; exact h (by simp)
    simp [Lib.hasPrefix, List.isPrefixOf, ha]
  | a :: g, c :: l, h => by
    have := prefix_cutD t g l (fun hm => h (by simp [hm]))
    simp only [Lib.hasPrefix] at this ⊢
    simp [List.isPrefixOf, this]
theorem dot_tail : ∀ g ∈ signsS, (46 : UInt8) ∉ g.tail := by decide
theorem sign_cutD (l t : List UInt8) (hl : l ≠ []) : signOf (l ++ 46 :: t) = signOf l :=
  find_congr _ _ _ (fun g hg => by
    have h1 := dot_tail g hg
    cases l with
    | nil => exact absurd rfl hl
    | cons x l =>
      cases g with
      | nil => rfl
      | cons a g =>
        have := prefix_cutD t g l h1
        simp only [Lib.hasPrefix] at this ⊢
        simp [List.isPrefixOf, this])
theorem tok_cutD (l t : List UInt8) (hl : l ≠ []) : tokK (l ++ 46 :: t) = tokK l := by
  have hr := run_cutD ldR rfl t l
  have hle := run_le ldR l
  unfold tokK
  rw [hr, sign_cutD l t hl, List.take_append_of_le_length hle]
theorem scan_joinD (t : List UInt8) (F : Nat) (hF : t.length + 1 < F) : ∀ (f : Nat) (l : List UInt8) (k : Nat), l ≠ [] → run blkR l = 0 → l.length + t.length + 1 < f →
    scan f (l ++ 46 :: t) k = follow (scan f l k) (scan F (46 :: t) (k + l.length)) := by
  intro f
  induction f with
  | zero => intro l k _ _ h; omega
  | succ f ih =>
    intro l k hl hb hf
    have hne : l ++ 46 :: t ≠ [] := by simp
    cases ht : tokK l with
    | error e => rw [scan_bad hl ht, scan_bad hne (by rw [tok_cutD _ _ hl]; exact ht)]; rfl
    | ok r =>
      obtain ⟨kd, n, x⟩ := r
      obtain ⟨h1, h2, _⟩ := tok_text ht
      have ht' : tokK (l ++ 46 :: t) = .ok (kd, n, x) := by rw [tok_cutD _ _ hl]; exact ht
      have hd : (l ++ 46 :: t).drop x.length = l.drop x.length ++ 46 :: t := List.drop_append_of_le_length h2
      have hle := run_le blkR (l.drop x.length)
      have hll : (l.drop x.length).length = l.length - x.length := List.length_drop
      simp only [scan, if_neg hl, if_neg hne, ht, ht', hd]
      by_cases hc : run blkR (l.drop x.length) < (l.drop x.length).length
      · rw [(blk_all (46 :: t)).2 hc, List.drop_append_of_le_length hle]
        have h3 := ih ((l.drop x.length).drop (run blkR (l.drop x.length))) (k + x.length + run blkR (l.drop x.length))
          (by intro e; have := congrArg List.length e; rw [List.length_drop] at this; simp only [List.length_nil] at this; omega) (run_drop_run _ _) (by rw [List.length_drop]; omega)
        rw [h3]
        rw [show k + x.length + run blkR (l.drop x.length) + ((l.drop x.length).drop (run blkR (l.drop x.length))).length = k + l.length from by rw [List.length_drop]; omega]
        cases scan f ((l.drop x.length).drop (run blkR (l.drop x.length))) (k + x.length + run blkR (l.drop x.length)) with
        | error e => rfl
        | ok r => cases scan F (46 :: t) (k + l.length) <;> simp [follow, glue]
      · have he : run blkR (l.drop x.length) = (l.drop x.length).length := by omega
        have hb2 : run blkR (46 :: t) = 0 := rfl
        rw [(blk_all (46 :: t)).1 he, hb2]
        have hdd : (l.drop x.length ++ 46 :: t).drop ((l.drop x.length).length + 0) = 46 :: t := by
          rw [List.drop_length_add_append]
          rfl
        have hdn : (l.drop x.length).drop (run blkR (l.drop x.length)) = [] := List.drop_eq_nil_of_le (by omega)
        rw [hdd, hdn, scan_end, scan_fuel f F _ _ (by simp; omega) (by simp; omega)]
        rw [show k + x.length + ((l.drop x.length).length + 0) = k + l.length from by omega]
        cases scan F (46 :: t) (k + l.length) <;> simp [follow, glue]
theorem allK_joinD (s t : List UInt8) : allK (s ++ 46 :: t) = follow (allK s) (shift s.length (allK (46 :: t))) := by
  have hle := run_le blkR s
  have hsh : scan ((46 :: t).length + 1) (46 :: t) s.length = shift s.length (allK (46 :: t)) := by
    have := scan_shift s.length ((46 :: t).length + 1) (46 :: t) 0
    rw [Nat.zero_add] at this
    rw [this]
    rfl
  unfold allK at hsh ⊢
  by_cases hc : run blkR s < s.length
  · rw [(blk_all (46 :: t)).2 hc, List.drop_append_of_le_length hle]
    have hlen : (s ++ 46 :: t).length = s.length + t.length + 1 := by simp; omega
    have hdl : (s.drop (run blkR s)).length = s.length - run blkR s := List.length_drop
    rw [scan_joinD t ((46 :: t).length + 1) (by simp) ((s ++ 46 :: t).length + 1) (s.drop (run blkR s)) (run blkR s)
      (by intro e; have := congrArg List.length e; rw [List.length_drop] at this; simp only [List.length_nil] at this; omega) (run_drop_run _ _) (by omega)]
    rw [scan_fuel ((s ++ 46 :: t).length + 1) (s.length + 1) _ _ (by omega) (by omega)]
    rw [show run blkR s + (s.drop (run blkR s)).length = s.length from by omega, hsh]
  · have he : run blkR s = s.length := by omega
    have hb2 : run blkR (46 :: t) = 0 := rfl
    rw [(blk_all (46 :: t)).1 he, hb2]
    have hdd : (s ++ 46 :: t).drop (s.length + 0) = 46 :: t := by
      rw [List.drop_length_add_append]
      rfl
    have hdn : s.drop (run blkR s) = [] := List.drop_eq_nil_of_le (by omega)
    rw [hdd, hdn, scan_end]
    have hlen : (s ++ 46 :: t).length = s.length + t.length + 1 := by simp; omega
    rw [scan_fuel ((s ++ 46 :: t).length + 1) ((46 :: t).length + 1) _ _ (by simp; omega) (by simp)]
    have hsh' : scan ((46 :: t).length + 1) (46 :: t) s.length = shift s.length (scan ((46 :: t).length + 1) (List.drop 0 (46 :: t)) 0) := hsh
    refine (show scan ((46 :: t).length + 1) (46 :: t) (s.length + 0) = _ from hsh').trans ?_
    simp [follow, glue_nil]
/-- A sign \\ ahead. -/
theorem allK_lam (s : List UInt8) : allK (92 :: s) = follow (.ok [⟨5, [92], 0, 0⟩]) (shift 1 (allK s)) := by
  have hle := run_le blkR s
  have ht : tokK (92 :: s) = .ok (5, 0, [92]) := by
    have h1 : run ldR (92 :: s) = 0 := rfl
    have h2 : signOf (92 :: s) = some [92] := rfl
    unfold tokK
    rw [h1, h2]; rfl
  have h0 : run blkR (92 :: s) = 0 := rfl
  unfold allK
  rw [h0]
  show scan ((92 :: s).length + 1) (92 :: s) 0 = _
  have hs := scan_good (f := (92 :: s).length) (k := 0) [] (by simp : (92 :: s) ≠ []) ht
  rw [glue_nil] at hs
  rw [hs]
  have hd : ((92 :: s).drop ([92] : List UInt8).length) = s := rfl
  rw [hd]
  have hsh := scan_shift 1 (s.length + 1) (s.drop (run blkR s)) (run blkR s)
  rw [show 0 + ([92] : List UInt8).length + run blkR s = run blkR s + 1 from by simp; omega]
  rw [scan_fuel ((92 :: s).length) (s.length + 1) _ _ (by rw [List.length_drop]; simp; omega) (by rw [List.length_drop]; omega), hsh]
  rfl
theorem allK_dot : allK [46] = .ok [⟨5, [46], 0, 0⟩] := rfl
end Lx
end Go.Proofs.YteabbkhlgnoliaaGreatDoor
namespace Go.Proofs.YteabbkhlgnoliaaGreatDoor
namespace Lx
set_option maxRecDepth 100000
def sg (s : List UInt8) : Tok := ⟨5, s, 0, 0⟩
def wd (s : List UInt8) : Tok := ⟨4, s, 0, 0⟩
/-- Tokens at a level. -/
def parK (lv : Int) (x : Int × List Tok) : List Tok := if lv ≤ x.1 then x.2 else sg [40] :: (x.2 ++ [sg [41]])
def altK : List UInt8 → List (Int × List Tok) → List (List Tok)
  | _, [] => []
  | s, x :: r => [sg s] :: parK 0 x :: altK [124] r
def atK (l : List (Int × List Tok)) (i : Nat) : Int × List Tok := l.getD i (0, [])
def wordsK (k : Int) (s : List UInt8) (n : Int) (l : List (Int × List Tok)) : List (List Tok) :=
  if k = 1 then [[⟨1, s, 0, 0⟩]] else if k = 9 then [[⟨3, Lib.itoa n, n, 0⟩]]
  else if k = 2 then [[sg [92], ⟨1, s, 0, 0⟩, sg [46]], parK 0 (atK l 0)]
  else if k = 4 then [[wd [108, 101, 116]], [⟨1, s, 0, 0⟩], [sg [61]], parK 0 (atK l 0), [wd [105, 110]], parK 0 (atK l 1)]
  else if k = 5 then [[wd [108, 101, 116, 114, 101, 99]], [⟨1, s, 0, 0⟩], [sg [61]], parK 0 (atK l 0), [wd [105, 110]], parK 0 (atK l 1)]
  else if k = 7 then [[wd [99, 97, 115, 101]], parK 0 (atK l 0), [wd [111, 102]]] ++ altK [123] (l.drop 1) ++ [[sg [125]]]
  else if k = 8 then [⟨2, s, 0, 0⟩] :: (l.take n.toNat).map (parK 5) ++ [[sg [45, 62]], parK 0 (atK l n.toNat)]
  else if k = 10 then [parK (if levelS s = 1 then 2 else levelS s) (atK l 0), [sg s], parK (levelS s + 1) (atK l 1)]
  else if k = 6 then [⟨2, s, 0, 0⟩] :: l.map (parK 5)
  else if k = 3 then [parK 4 (atK l 0), parK 5 (atK l 1)] else []
mutual
def tkT : Tr → List Tok
  | .node k s n _ l => (wordsK k s.data.toList n (tkL (decide (k = 3)) l)).flatten
def tkL : Bool → List Tr → List (Int × List Tok)
  | _, [] => []
  | b, t :: r => (if b && decide (t.kind = 6) then -1 else levelT t, tkT t) :: tkL false r
end
/-- A text has these tokens, but for places. -/
def Lxs (l : List UInt8) (ts : List Tok) : Prop := ∃ us, allK l = .ok us ∧ us.map er = ts.map er
theorem er_moved (d : Nat) (us : List Tok) : (us.map (moved d)).map er = us.map er := by
  simp [List.map_map, Function.comp_def, er, moved]
theorem lxs_join {a b : List UInt8} {x y : List Tok} (ha : Lxs a x) (hb : Lxs b y) : Lxs (a ++ 32 :: b) (x ++ y) := by
  obtain ⟨us, h1, h2⟩ := ha
  obtain ⟨vs, h3, h4⟩ := hb
  refine ⟨us ++ vs.map (moved (a.length + 1)), by rw [allK_join, h1, h3]; rfl, ?_⟩
  rw [List.map_append, er_moved, h2, h4, List.map_append]
theorem lxs_par {a : List UInt8} {x : List Tok} (ha : Lxs a x) : Lxs (40 :: (a ++ [41])) (sg [40] :: (x ++ [sg [41]])) := by
  obtain ⟨us, h1, h2⟩ := ha
  have h3 : allK (a ++ [41]) = .ok (us ++ [moved a.length (sg [41])]) := by rw [allK_joinP, h1, allK_shut]; rfl
  refine ⟨sg [40] :: (us ++ [moved a.length (sg [41])]).map (moved 1), by rw [allK_open, h3]; rfl, ?_⟩
  simp only [List.map_cons, er_moved, List.map_append, h2]; rfl
theorem lxs_lam {a : List UInt8} {x : List Tok} (ha : Lxs a x) : Lxs (92 :: a ++ [46]) (sg [92] :: (x ++ [sg [46]])) := by
  obtain ⟨us, h1, h2⟩ := ha
  have h3 : allK (a ++ [46]) = .ok (us ++ [moved a.length (sg [46])]) := by rw [allK_joinD, h1, allK_dot]; rfl
  refine ⟨sg [92] :: (us ++ [moved a.length (sg [46])]).map (moved 1), by rw [List.cons_append, allK_lam, h3]; rfl, ?_⟩
  simp only [List.map_cons, er_moved, List.map_append, h2]; rfl
/-- Words and their tokens. -/
def LxsL : List (List UInt8) → List (List Tok) → Prop
  | [], [] => True
  | a :: r, x :: q => Lxs a x ∧ LxsL r q
  | _, _ => False
theorem lxs_words : ∀ (ws : List (List UInt8)) (xs : List (List Tok)), LxsL ws xs → Lxs (joinS ws) xs.flatten
  | [], [], _ => ⟨[], allK_nil, rfl⟩
  | [], _ :: _, h => h.elim
  | _ :: _, [], h => h.elim
  | [a], [x], h => by simpa [joinS] using h.1
  | [a], x :: y :: q, h => h.2.elim
  | a :: b :: r, [x], h => h.2.elim
  | a :: b :: r, x :: y :: q, h => by
    have := lxs_words (b :: r) (y :: q) h.2
    rw [List.flatten_cons]
    exact lxs_join h.1 this
theorem lxsL_app : ∀ {a b : List (List UInt8)} {x y : List (List Tok)}, LxsL a x → LxsL b y → LxsL (a ++ b) (x ++ y)
  | [], _, [], _, _, h => h
  | [], _, _ :: _, _, h, _ => h.elim
  | _ :: _, _, [], _, h, _ => h.elim
  | _ :: _, _, _ :: _, _, h1, h2 => ⟨h1.1, lxsL_app h1.2 h2⟩
theorem tok_single {l : List UInt8} {k n : Int} (hl : l ≠ []) (h : tokK l = .ok (k, n, l)) : Lxs l [⟨k, l, n, 0⟩] := by
  cases l with
  | nil => exact absurd rfl hl
  | cons c r => exact ⟨_, tok_cons h, rfl⟩
theorem run0_dig {l : List UInt8} (h : 0 < run lowR l) : run digR l = 0 := by
  cases l with
  | nil => rfl
  | cons c r =>
    simp only [run] at h ⊢
    cases e : lowR (c.toNat : Int) with
    | false => rw [e] at h; simp at h
    | true =>
      have : digR (c.toNat : Int) = false := by
        simp only [lowR, digR, Bool.and_eq_true, decide_eq_true_eq, Bool.and_eq_false_iff, decide_eq_false_iff_not] at e ⊢
        omega
      rw [this]; simp
theorem run0_up {l : List UInt8} (h : 0 < run upR l) : run digR l = 0 ∧ run lowR l = 0 := by
  cases l with
  | nil => exact ⟨rfl, rfl⟩
  | cons c r =>
    simp only [run] at h ⊢
    cases e : upR (c.toNat : Int) with
    | false => rw [e] at h; simp at h
    | true =>
      have h1 : digR (c.toNat : Int) = false := by
        simp only [upR, digR, Bool.and_eq_true, decide_eq_true_eq, Bool.and_eq_false_iff, decide_eq_false_iff_not] at e ⊢
        omega
      have h2 : lowR (c.toNat : Int) = false := by
        simp only [upR, lowR, Bool.and_eq_true, decide_eq_true_eq, Bool.and_eq_false_iff, decide_eq_false_iff_not] at e ⊢
        omega
      rw [h1, h2]; simp
theorem run_pos_ne {P : Int → Bool} {l : List UInt8} (h : 0 < run P l) : l ≠ [] := by rintro rfl; simp [run] at h
theorem lxs_name {l : List UInt8} (h : nameV l = true) : Lxs l [⟨1, l, 0, 0⟩] := by
  simp only [nameV, Bool.and_eq_true, decide_eq_true_eq, Bool.not_eq_true'] at h
  obtain ⟨h1, h2, h3, h4⟩ := h
  have hne := run_pos_ne h1
  have hpos := List.length_pos_iff.2 hne
  refine tok_single hne ?_
  unfold tokK
  rw [if_pos (by omega), h2, List.take_length]
  unfold runK
  rw [if_neg (by rw [run0_dig h1]; omega), if_neg (by omega), if_neg (by rw [h4]; simp), if_pos h1]
theorem lxs_con {l : List UInt8} (h : conV l = true) : Lxs l [⟨2, l, 0, 0⟩] := by
  simp only [conV, Bool.and_eq_true, decide_eq_true_eq] at h
  obtain ⟨h1, h2, h3⟩ := h
  have hne := run_pos_ne h1
  have hpos := List.length_pos_iff.2 hne
  obtain ⟨e1, e2⟩ := run0_up h1
  have hw : wordS l = false := by
    cases hw : wordS l with
    | false => rfl
    | true =>
      simp only [wordS, Bool.or_eq_true, beq_iff_eq] at hw
      rcases hw with rfl | rfl | rfl | rfl | rfl <;> revert h1 <;> decide
  refine tok_single hne ?_
  unfold tokK
  rw [if_pos (by omega), h2, List.take_length]
  unfold runK
  rw [if_neg (by rw [e1]; omega), if_neg (by omega), if_neg (by rw [hw]; simp), if_neg (by rw [e2]; omega)]
theorem lxs_op {l : List UInt8} (h : opV l = true) : Lxs l [sg l] := by
  simp only [opV, Bool.or_eq_true, beq_iff_eq] at h
  rcases h with rfl | rfl | rfl | rfl | rfl | rfl <;> exact ⟨_, rfl, rfl⟩
theorem dig_bd (d : Nat) (h : d < 10) : (UInt8.ofNat (48 + d)).toNat = 48 + d := by
  simp only [UInt8.toNat_ofNat']; omega
theorem dec_num (u : Nat) : numV (Lib.decDigits u) = u ∧ (∀ c ∈ Lib.decDigits u, digR (c.toNat : Int) = true) ∧ Lib.decDigits u ≠ [] := by
  induction u using Nat.strongRecOn with
  | _ u ih =>
    by_cases h : u < 10
    · rw [Lib.decDigits, dif_pos h]
      have hb := dig_bd u h
      refine ⟨?_, ?_, by simp⟩
      · have := numV_snoc [] (UInt8.ofNat (48 + u))
        simp only [List.nil_append] at this
        rw [this, numV_nil, hb]; omega
      · intro c hc
        simp only [List.mem_singleton] at hc
        subst hc
        rw [hb]
        simp only [digR, Bool.and_eq_true, decide_eq_true_eq]; omega
    · rw [Lib.decDigits, dif_neg h]
      obtain ⟨h1, h2, h3⟩ := ih (u / 10) (by omega)
      have hb := dig_bd (u % 10) (by omega)
      refine ⟨?_, ?_, by simp⟩
      · rw [numV_snoc, h1, hb]; omega
      · intro c hc
        rcases List.mem_append.1 hc with hc | hc
        · exact h2 c hc
        · simp only [List.mem_singleton] at hc
          subst hc
          rw [hb]
          simp only [digR, Bool.and_eq_true, decide_eq_true_eq]; omega
theorem dec_head (u : Nat) (h : 0 < u) : (Lib.decDigits u).head? ≠ some 48 := by
  induction u using Nat.strongRecOn with
  | _ u ih =>
    by_cases h10 : u < 10
    · rw [Lib.decDigits, dif_pos h10]
      simp only [List.head?_cons, ne_eq, Option.some.injEq]
      intro e
      have := congrArg UInt8.toNat e
      rw [dig_bd u h10] at this
      simp at this
      omega
    · rw [Lib.decDigits, dif_neg h10]
      have h1 := ih (u / 10) (by omega) (by omega)
      have h2 := (dec_num (u / 10)).2.2
      cases hd : Lib.decDigits (u / 10) with
      | nil => exact absurd hd h2
      | cons c r => rw [hd] at h1; simpa using h1
theorem dec_len (u : Nat) (h : u < 1000000000000000000) : (Lib.decDigits u).length ≤ 18 := by
  rw [Lib.decDigits_length]
  have key : ∀ k v : Nat, v < 10 ^ (k + 1) → Lib.nDigits v ≤ k + 1 := by
    intro k
    induction k with
    | zero => intro v hv; rw [Lib.nDigits_small (by simpa using hv)]; exact Nat.le_refl _
    | succ k ih =>
      intro v hv
      by_cases h : v < 10
      · rw [Lib.nDigits_small h]; omega
      · rw [Lib.nDigits_big h]
        have := ih (v / 10) (by rw [Nat.pow_succ] at hv; omega)
        omega
  exact key 17 u (by simpa using h)
theorem lxs_int {n : Int} (h0 : 0 ≤ n) (h1 : n < 1000000000000000000) : Lxs (Lib.itoa n) [⟨3, Lib.itoa n, n, 0⟩] := by
  obtain ⟨u, rfl⟩ : ∃ u : Nat, n = u := ⟨n.toNat, by omega⟩
  have he : Lib.itoa (u : Int) = Lib.decDigits u := by unfold Lib.itoa; rw [if_neg (by omega)]; simp
  rw [he]
  obtain ⟨h2, h3, h4⟩ := dec_num u
  have hr : run digR (Lib.decDigits u) = (Lib.decDigits u).length := run_all digR _ h3
  have hr2 : run ldR (Lib.decDigits u) = (Lib.decDigits u).length := run_all ldR _ (fun c hc => by simp [ldR, h3 c hc])
  have hpos := List.length_pos_iff.2 h4
  have hlen := dec_len u (by omega)
  refine tok_single h4 ?_
  unfold tokK
  rw [if_pos (by omega), hr2, List.take_length]
  unfold runK numK
  rw [if_pos (by omega), hr, if_neg (by omega), if_neg ?_, h2]
  rintro (h | ⟨h, h5⟩)
  · omega
  · by_cases hu : 0 < u
    · exact dec_head u hu h5
    · have : u = 0 := by omega
      subst this
      rw [Lib.decDigits, dif_pos (by omega)] at h
      simp at h
end Lx
end Go.Proofs.YteabbkhlgnoliaaGreatDoor
namespace Go.Proofs.YteabbkhlgnoliaaGreatDoor
namespace Lx
set_option maxRecDepth 100000
def LxX : List (Int × List UInt8) → List (Int × List Tok) → Prop
  | [], [] => True
  | x :: r, y :: q => (x.1 = y.1 ∧ Lxs x.2 y.2) ∧ LxX r q
  | _, _ => False
theorem lxs_at (lv : Int) {x : Int × List UInt8} {y : Int × List Tok} (h : x.1 = y.1 ∧ Lxs x.2 y.2) : Lxs (parS lv x) (parK lv y) := by
  unfold parS parK
  rw [h.1]
  split
  · exact h.2
  · exact lxs_par h.2
theorem lxL_par (lv : Int) : ∀ {X : List (Int × List UInt8)} {Y : List (Int × List Tok)}, LxX X Y → LxsL (X.map (parS lv)) (Y.map (parK lv))
  | [], [], _ => trivial
  | [], _ :: _, h => h.elim
  | _ :: _, [], h => h.elim
  | _ :: _, _ :: _, h => ⟨lxs_at lv h.1, lxL_par lv h.2⟩
theorem lxX_take : ∀ (n : Nat) {X : List (Int × List UInt8)} {Y : List (Int × List Tok)}, LxX X Y → LxX (X.take n) (Y.take n)
  | 0, _, _, _ => by simp [LxX]
  | n + 1, [], [], _ => trivial
  | n + 1, [], _ :: _, h => h.elim
  | n + 1, _ :: _, [], h => h.elim
  | n + 1, _ :: _, _ :: _, h => ⟨h.1, lxX_take n h.2⟩
theorem lxX_get : ∀ (n : Nat) {X : List (Int × List UInt8)} {Y : List (Int × List Tok)}, LxX X Y → n < X.length → (atD X n).1 = (atK Y n).1 ∧ Lxs (atD X n).2 (atK Y n).2
  | _, [], _, _, hn => by simp at hn
  | _, _ :: _, [], h, _ => h.elim
  | 0, _ :: _, _ :: _, h, _ => h.1
  | n + 1, _ :: r, _ :: q, h, hn => by
    have := lxX_get n h.2 (by simpa using hn)
    simpa [atD, atK] using this
theorem lxs_bar : Lxs [124] [sg [124]] := ⟨_, rfl, rfl⟩
theorem lxL_alt {s : List UInt8} (hs : Lxs s [sg s]) : ∀ {X : List (Int × List UInt8)} {Y : List (Int × List Tok)}, LxX X Y → LxsL (altW s X) (altK s Y)
  | [], [], _ => trivial
  | [], _ :: _, h => h.elim
  | _ :: _, [], h => h.elim
  | _ :: _, _ :: _, h => ⟨hs, lxs_at 0 h.1, lxL_alt lxs_bar h.2⟩
theorem showL_len (b : Bool) (l : List Tr) : (showL b l).length = l.length := by
  cases l with
  | nil => rfl
  | cons t r =>
    have key : ∀ l : List Tr, (showL false l).length = l.length := by
      intro l; induction l with
      | nil => rfl
      | cons t r ih => rw [showL]; simp [ih]
    rw [showL]; simp [key]
mutual
theorem lxs_tree : ∀ t : Tr, mayT t = true → Lxs (showT t) (tkT t)
  | .node k s n a l, h => by
    obtain ⟨hnm, hpt, ha, hml⟩ := may_inv h
    have hX := lxs_list l (decide (k = 3)) (mayL_memT k n l 0 hml)
    have hXl := showL_len (decide (k = 3)) l
    rw [showT, tkT]
    apply lxs_words
    generalize showL (decide (k = 3)) l = X at hX hXl
    generalize tkL (decide (k = 3)) l = Y at hX
    rcases (by
      by_cases h : k = 1 ∨ k = 2 ∨ k = 3 ∨ k = 4 ∨ k = 5 ∨ k = 6 ∨ k = 7 ∨ k = 8 ∨ k = 9 ∨ k = 10
      · exact h
      · exfalso
        simp only [not_or] at h
        obtain ⟨e1, e2, e3, e4, e5, e6, e7, e8, e9, e10⟩ := h
        simp [partsV, e1, e2, e3, e4, e5, e6, e7, e8, e9, e10] at hpt : k = 1 ∨ k = 2 ∨ k = 3 ∨ k = 4 ∨ k = 5 ∨ k = 6 ∨ k = 7 ∨ k = 8 ∨ k = 9 ∨ k = 10) with rfl | rfl | rfl | rfl | rfl | rfl | rfl | rfl | rfl | rfl
    · exact ⟨lxs_name (by simpa [nameOkV] using hnm), trivial⟩
    · simp [partsV] at hpt
      exact ⟨lxs_lam (lxs_name (by simpa [nameOkV] using hnm)), lxs_at 0 (lxX_get 0 hX (by omega)), trivial⟩
    · simp [partsV] at hpt
      exact ⟨lxs_at 4 (lxX_get 0 hX (by omega)), lxs_at 5 (lxX_get 1 hX (by omega)), trivial⟩
    · simp [partsV] at hpt
      exact ⟨⟨_, rfl, rfl⟩, lxs_name (by simpa [nameOkV] using hnm), ⟨_, rfl, rfl⟩, lxs_at 0 (lxX_get 0 hX (by omega)), ⟨_, rfl, rfl⟩, lxs_at 0 (lxX_get 1 hX (by omega)), trivial⟩
    · simp [partsV] at hpt
      exact ⟨⟨_, rfl, rfl⟩, lxs_name (by simpa [nameOkV] using hnm), ⟨_, rfl, rfl⟩, lxs_at 0 (lxX_get 0 hX (by omega)), ⟨_, rfl, rfl⟩, lxs_at 0 (lxX_get 1 hX (by omega)), trivial⟩
    · exact ⟨lxs_con (by simpa [nameOkV] using hnm), lxL_par 5 hX⟩
    · simp [partsV] at hpt
      have h1 : LxsL [[99, 97, 115, 101], parS 0 (atD X 0), [111, 102]] [[wd [99, 97, 115, 101]], parK 0 (atK Y 0), [wd [111, 102]]] := ⟨⟨_, rfl, rfl⟩, lxs_at 0 (lxX_get 0 hX (by omega)), ⟨_, rfl, rfl⟩, trivial⟩
      have h2 : LxX (X.drop 1) (Y.drop 1) := by
        cases X with
        | nil => simp at hXl; omega
        | cons x r =>
          cases Y with
          | nil => exact hX.elim
          | cons y q => exact hX.2
      exact lxsL_app (lxsL_app h1 (lxL_alt ⟨_, rfl, rfl⟩ h2)) ⟨⟨_, rfl, rfl⟩, trivial⟩
    · simp [partsV] at hpt
      have h1 : LxsL (s.data.toList :: (X.take n.toNat).map (parS 5)) ([⟨2, s.data.toList, 0, 0⟩] :: (Y.take n.toNat).map (parK 5)) := ⟨lxs_con (by simpa [nameOkV] using hnm), lxL_par 5 (lxX_take n.toNat hX)⟩
      exact lxsL_app h1 ⟨⟨_, rfl, rfl⟩, lxs_at 0 (lxX_get n.toNat hX (by omega)), trivial⟩
    · simp [partsV] at hpt
      exact ⟨lxs_int (by omega) (by omega), trivial⟩
    · simp [partsV] at hpt
      exact ⟨lxs_at _ (lxX_get 0 hX (by omega)), lxs_op (by simpa [nameOkV] using hnm), lxs_at _ (lxX_get 1 hX (by omega)), trivial⟩
theorem lxs_list : ∀ (l : List Tr) (b : Bool), (∀ t ∈ l, mayT t = true) → LxX (showL b l) (tkL b l)
  | [], _, _ => trivial
  | t :: r, b, h => by
    rw [showL, tkL]
    exact ⟨⟨rfl, lxs_tree t (h t (by simp))⟩, lxs_list r false fun u hu => h u (by simp [hu])⟩
end
end Lx
end Go.Proofs.YteabbkhlgnoliaaGreatDoor
namespace Go.Proofs.YteabbkhlgnoliaaGreatDoor
namespace Lx
set_option maxRecDepth 100000
def mulS : List (List UInt8) := [[42], [47]]
def addS : List (List UInt8) := [[43], [45]]
def cmpS : List (List UInt8) := [[60], [61, 61]]
theorem stops_of {q : List Tok} (h : Stops q) : atomS (peekV q 0) = false ∧ isAny mulS (peekV q 0) = false ∧ isAny addS (peekV q 0) = false ∧ isAny cmpS (peekV q 0) = false :=
  ⟨h.1, h.2 _ (by simp [mulS]), h.2 _ (by simp [addS]), h.2 _ (by simp [cmpS])⟩
/-- What a token list is read as, by levels. -/
structure Lv (N m : Nat) (l : List Tok) (b : Tr) (lv : Int) : Prop where
  c5 : 5 ≤ lv → ∀ q, atomQ (exprQ N m) (l ++ q) = .ok (b, q)
  c4 : 4 ≤ lv → ∀ q, atomS (peekV q 0) = false → appQ N (exprQ N m) (l ++ q) = .ok (b, q)
  l4 : 4 ≤ lv → (peekV l 0).kind ≠ 2 → ∃ k, k + 1 ≤ l.length ∧ ∀ q, appQ N (exprQ N m) (l ++ q) = appLoopQ (exprQ N m) 0 (N - k) b q
  l3 : 3 ≤ lv → ∃ k, k + 1 ≤ l.length ∧ ∀ q, atomS (peekV q 0) = false → prodQ N (exprQ N m) (l ++ q) = rowLoopQ (appQ N (exprQ N m)) mulS 0 (N - k) b q
  l2 : 2 ≤ lv → ∃ k, k + 1 ≤ l.length ∧ ∀ q, atomS (peekV q 0) = false → isAny mulS (peekV q 0) = false → sumQ N (exprQ N m) (l ++ q) = rowLoopQ (prodQ N (exprQ N m)) addS 0 (N - k) b q
  c1 : 1 ≤ lv → ∀ q, Stops q → cmpQ (sumQ N (exprQ N m)) (l ++ q) = .ok (b, q)
  c0 : 0 ≤ lv → ∀ q, Stops q → exprQ N (m + 1) (l ++ q) = .ok (b, q)
def LvA (l : List Tok) (b : Tr) (lv : Int) : Prop := ∀ N m, l.length < N → l.length ≤ m → Lv N m l b lv
/-- No word that begins a function, a let or a case. -/
def NK (x : Tok) : Prop := isT [92] x = false ∧ isT [108, 101, 116] x = false ∧ isT [108, 101, 116, 114, 101, 99] x = false ∧ isT [99, 97, 115, 101] x = false
/-- What stands first. -/
def Hd (l : List Tok) (lv : Int) (con : Bool) : Prop := ∃ x r, l = x :: r ∧ x.place = 0 ∧ (1 ≤ lv → NK x) ∧ (4 ≤ lv → atomS x = true) ∧ (4 ≤ lv → con = false → x.kind ≠ 2)
theorem take_run {s : List UInt8} {t : Tok} {q : List Tok} (h : t.text = s) : takeQ s (t :: q) = .ok (t, q) := by
  have : takeQ s (t :: q) = nextQ (t :: q) := ifQ_t (by show (t.text == s) = true; rw [h]; simp)
  rw [this]; rfl
theorem takeK_run {k : Int} {t : Tok} {q : List Tok} (h : t.kind = k) : takeKQ k (t :: q) = .ok (t, q) := by
  have : takeKQ k (t :: q) = nextQ (t :: q) := ifQ_t (by show decide (t.kind = k) = true; rw [h]; simp)
  rw [this]; rfl
theorem next_run {t : Tok} {q : List Tok} : nextQ (t :: q) = .ok (t, q) := rfl
section
variable {N m : Nat} {l : List Tok} {b : Tr}
theorem row_up {sd : Rg Tr} {ss : List (List UInt8)} {q : List Tok} (hp : (peekV (l ++ q) 0).place = 0) (h : sd (l ++ q) = .ok (b, q)) : rowQ N sd ss (l ++ q) = rowLoopQ sd ss 0 N b q := by
  unfold rowQ bindQ hereQ
  rw [h, hp]
theorem row_down {sd : Rg Tr} {ss : List (List UInt8)} {q : List Tok} {n : Nat} (hn : 0 < n) (h : isAny ss (peekV q 0) = false) : rowLoopQ sd ss 0 n b q = .ok (b, q) := by
  obtain ⟨n, rfl⟩ : ∃ n', n = n' + 1 := ⟨n - 1, by omega⟩
  rw [rowLoopQ, ifQ_f h]; rfl
theorem row_step {sd : Rg Tr} {ss : List (List UInt8)} {s : List UInt8} {l2 q : List Tok} {b2 : Tr} {n : Nat} (hn : 0 < n) (hs : isAny ss (sg s) = true) (h : sd (l2 ++ q) = .ok (b2, q)) :
    rowLoopQ sd ss 0 n b (sg s :: (l2 ++ q)) = rowLoopQ sd ss 0 (n - 1) (.node 10 ⟨s.toArray⟩ 0 0 [b, b2]) q := by
  obtain ⟨n, rfl⟩ : ∃ n', n = n' + 1 := ⟨n - 1, by omega⟩
  have h1 : rowLoopQ sd ss 0 (n + 1) b (sg s :: (l2 ++ q)) = _ := ifQ_t hs
  rw [h1]
  have h2 : opQ sd 0 b (sg s :: (l2 ++ q)) = .ok (.node 10 ⟨s.toArray⟩ 0 0 [b, b2], q) := by
    unfold opQ
    rw [bind_run next_run, bind_run h]; rfl
  rw [bind_run h2]; rfl
theorem app_down {ex : Rg Tr} {q : List Tok} {n : Nat} (hn : 0 < n) (h : atomS (peekV q 0) = false) : appLoopQ ex 0 n b q = .ok (b, q) := by
  obtain ⟨n, rfl⟩ : ∃ n', n = n' + 1 := ⟨n - 1, by omega⟩
  rw [appLoopQ, ifQ_f h]; rfl
theorem hd_place {lv : Int} {con : Bool} (h : Hd l lv con) (q : List Tok) : (peekV (l ++ q) 0).place = 0 := by
  obtain ⟨x, r, rfl, hp, _⟩ := h
  exact hp
theorem hd_pos {lv : Int} {con : Bool} (h : Hd l lv con) : 0 < l.length := by obtain ⟨x, r, rfl, _⟩ := h; simp
theorem hd_atom {lv : Int} {con : Bool} (h : Hd l lv con) (hl : 4 ≤ lv) (q : List Tok) : atomS (peekV (l ++ q) 0) = true := by
  obtain ⟨x, r, rfl, _, _, ha, _⟩ := h
  exact ha hl
theorem lv0 (h : ∀ q, Stops q → exprQ N (m + 1) (l ++ q) = .ok (b, q)) : Lv N m l b 0 :=
  ⟨fun h => absurd h (by omega), fun h => absurd h (by omega), fun h => absurd h (by omega), fun h => absurd h (by omega), fun h => absurd h (by omega), fun h => absurd h (by omega), fun _ => h⟩
theorem c0_of_c1 {lv : Int} {con : Bool} (hd : Hd l lv con) (h1 : 1 ≤ lv) (h : ∀ q, Stops q → cmpQ (sumQ N (exprQ N m)) (l ++ q) = .ok (b, q)) : ∀ q, Stops q → exprQ N (m + 1) (l ++ q) = .ok (b, q) := fun q hq => by
  obtain ⟨x, r, rfl, _, hk, _⟩ := hd
  obtain ⟨k1, k2, k3, k4⟩ := hk h1
  have e1 : exprQ N (m + 1) (x :: r ++ q) = _ := ifQ_f k1
  have e2 : ifQ (isT [108, 101, 116]) (letQ 4 (exprQ N m)) (ifQ (isT [108, 101, 116, 114, 101, 99]) (letQ 5 (exprQ N m)) (ifQ (isT [99, 97, 115, 101]) (choiceQ (exprQ N m)) (cmpQ (sumQ N (exprQ N m))))) (x :: r ++ q) = _ := ifQ_f k2
  have e3 : ifQ (isT [108, 101, 116, 114, 101, 99]) (letQ 5 (exprQ N m)) (ifQ (isT [99, 97, 115, 101]) (choiceQ (exprQ N m)) (cmpQ (sumQ N (exprQ N m)))) (x :: r ++ q) = _ := ifQ_f k3
  have e4 : ifQ (isT [99, 97, 115, 101]) (choiceQ (exprQ N m)) (cmpQ (sumQ N (exprQ N m))) (x :: r ++ q) = _ := ifQ_f k4
  rw [e1, e2, e3, e4]
  exact h q hq
theorem lv1 {con : Bool} (hd : Hd l 1 con) (h : ∀ q, Stops q → cmpQ (sumQ N (exprQ N m)) (l ++ q) = .ok (b, q)) : Lv N m l b 1 :=
  ⟨fun h => absurd h (by omega), fun h => absurd h (by omega), fun h => absurd h (by omega), fun h => absurd h (by omega), fun h => absurd h (by omega), fun _ => h, fun _ => c0_of_c1 hd (by omega) h⟩
theorem c1_of_l2 {lv : Int} {con : Bool} (_hd : Hd l lv con) (hN : l.length < N) (h : ∃ k, k + 1 ≤ l.length ∧ ∀ q, atomS (peekV q 0) = false → isAny mulS (peekV q 0) = false → sumQ N (exprQ N m) (l ++ q) = rowLoopQ (prodQ N (exprQ N m)) addS 0 (N - k) b q) :
    ∀ q, Stops q → cmpQ (sumQ N (exprQ N m)) (l ++ q) = .ok (b, q) := fun q hq => by
  obtain ⟨k, hk, h⟩ := h
  obtain ⟨q1, q2, q3, q4⟩ := stops_of hq
  have h1 : sumQ N (exprQ N m) (l ++ q) = .ok (b, q) := by rw [h q q1 q2]; exact row_down (by omega) q3
  unfold cmpQ bindQ hereQ
  rw [h1]
  have h2 : ifQ (isAny [[60], [61, 61]]) (opQ (sumQ N (exprQ N m)) (peekV (l ++ q) 0).place b) (retQ b) q = _ := ifQ_f q4
  show ifQ (isAny [[60], [61, 61]]) (opQ (sumQ N (exprQ N m)) (peekV (l ++ q) 0).place b) (retQ b) q = _
  rw [h2]; rfl
theorem lv2 {con : Bool} (hd : Hd l 2 con) (hN : l.length < N) (h : ∃ k, k + 1 ≤ l.length ∧ ∀ q, atomS (peekV q 0) = false → isAny mulS (peekV q 0) = false → sumQ N (exprQ N m) (l ++ q) = rowLoopQ (prodQ N (exprQ N m)) addS 0 (N - k) b q) : Lv N m l b 2 :=
  ⟨fun h => absurd h (by omega), fun h => absurd h (by omega), fun h => absurd h (by omega), fun h => absurd h (by omega), fun _ => h, fun _ => c1_of_l2 hd hN h, fun _ => c0_of_c1 hd (by omega) (c1_of_l2 hd hN h)⟩
theorem l2_of_l3 {lv : Int} {con : Bool} (hd : Hd l lv con) (hN : l.length < N) (h : ∃ k, k + 1 ≤ l.length ∧ ∀ q, atomS (peekV q 0) = false → prodQ N (exprQ N m) (l ++ q) = rowLoopQ (appQ N (exprQ N m)) mulS 0 (N - k) b q) :
    ∃ k, k + 1 ≤ l.length ∧ ∀ q, atomS (peekV q 0) = false → isAny mulS (peekV q 0) = false → sumQ N (exprQ N m) (l ++ q) = rowLoopQ (prodQ N (exprQ N m)) addS 0 (N - k) b q := by
  obtain ⟨k, hk, h⟩ := h
  refine ⟨0, by omega, fun q q1 q2 => ?_⟩
  have h1 : prodQ N (exprQ N m) (l ++ q) = .ok (b, q) := by rw [h q q1]; exact row_down (by omega) q2
  exact row_up (hd_place hd q) h1
theorem lv3 {con : Bool} (hd : Hd l 3 con) (hN : l.length < N) (h : ∃ k, k + 1 ≤ l.length ∧ ∀ q, atomS (peekV q 0) = false → prodQ N (exprQ N m) (l ++ q) = rowLoopQ (appQ N (exprQ N m)) mulS 0 (N - k) b q) : Lv N m l b 3 :=
  have h2 := l2_of_l3 hd hN h
  ⟨fun h => absurd h (by omega), fun h => absurd h (by omega), fun h => absurd h (by omega), fun _ => h, fun _ => h2, fun _ => c1_of_l2 hd hN h2, fun _ => c0_of_c1 hd (by omega) (c1_of_l2 hd hN h2)⟩
theorem l3_of_c4 {lv : Int} {con : Bool} (hd : Hd l lv con) (h : ∀ q, atomS (peekV q 0) = false → appQ N (exprQ N m) (l ++ q) = .ok (b, q)) :
    ∃ k, k + 1 ≤ l.length ∧ ∀ q, atomS (peekV q 0) = false → prodQ N (exprQ N m) (l ++ q) = rowLoopQ (appQ N (exprQ N m)) mulS 0 (N - k) b q :=
  ⟨0, hd_pos hd, fun q q1 => row_up (hd_place hd q) (h q q1)⟩
theorem lv45 {lv : Int} {con : Bool} (hlv : 4 ≤ lv) (hd : Hd l lv con) (hN : l.length < N) (c5 : 5 ≤ lv → ∀ q, atomQ (exprQ N m) (l ++ q) = .ok (b, q)) (c4 : ∀ q, atomS (peekV q 0) = false → appQ N (exprQ N m) (l ++ q) = .ok (b, q))
    (l4 : (peekV l 0).kind ≠ 2 → ∃ k, k + 1 ≤ l.length ∧ ∀ q, appQ N (exprQ N m) (l ++ q) = appLoopQ (exprQ N m) 0 (N - k) b q) : Lv N m l b lv :=
  have h3 := l3_of_c4 hd c4
  have h2 := l2_of_l3 hd hN h3
  ⟨c5, fun _ => c4, fun _ => l4, fun _ => h3, fun _ => h2, fun _ => c1_of_l2 hd hN h2, fun _ => c0_of_c1 hd (by omega) (c1_of_l2 hd hN h2)⟩
theorem l4_of_c5 {lv : Int} {con : Bool} (hd : Hd l lv con) (hk : (peekV l 0).kind ≠ 2) (h : ∀ q, atomQ (exprQ N m) (l ++ q) = .ok (b, q)) : ∃ k, k + 1 ≤ l.length ∧ ∀ q, appQ N (exprQ N m) (l ++ q) = appLoopQ (exprQ N m) 0 (N - k) b q := by
  refine ⟨0, hd_pos hd, fun q => ?_⟩
  have hp := hd_place hd q
  obtain ⟨x, r, rfl, _⟩ := hd
  have h1 : appQ N (exprQ N m) (x :: r ++ q) = _ := ifQ_f (by show decide (x.kind = 2) = false; exact decide_eq_false hk)
  rw [h1]
  unfold bindQ hereQ
  rw [h q, hp]; rfl
theorem c4_of_l4 (hN : l.length < N) (h : ∃ k, k + 1 ≤ l.length ∧ ∀ q, appQ N (exprQ N m) (l ++ q) = appLoopQ (exprQ N m) 0 (N - k) b q) : ∀ q, atomS (peekV q 0) = false → appQ N (exprQ N m) (l ++ q) = .ok (b, q) := fun q hq => by
  obtain ⟨k, hk, h⟩ := h
  rw [h q]; exact app_down (by omega) hq
/-- An atom that is no constructor's. -/
theorem lv5 (hd : Hd l 5 false) (hN : l.length < N) (h : ∀ q, atomQ (exprQ N m) (l ++ q) = .ok (b, q)) : Lv N m l b 5 := by
  have hk : (peekV l 0).kind ≠ 2 := by
    obtain ⟨x, r, rfl, _, _, _, hk⟩ := hd
    exact hk (by omega) rfl
  have h4 := l4_of_c5 hd hk h
  exact lv45 (by omega) hd hN (fun _ => h) (c4_of_l4 hN h4) (fun _ => h4)
end
theorem hd_par (l : List Tok) : Hd (sg [40] :: (l ++ [sg [41]])) 5 false :=
  ⟨sg [40], l ++ [sg [41]], rfl, rfl, fun _ => ⟨rfl, rfl, rfl, rfl⟩, fun _ => rfl, fun _ _ => by simp [sg]⟩
/-- Within signs all is an atom. -/
theorem lv_wrap {l : List Tok} {b : Tr} {lv : Int} (h0 : 0 ≤ lv) (h : LvA l b lv) : LvA (sg [40] :: (l ++ [sg [41]])) b 5 := fun N m hN hm => by
  simp only [List.length_cons, List.length_append, List.length_nil] at hN hm
  obtain ⟨m, rfl⟩ : ∃ m', m = m' + 1 := ⟨m - 1, by omega⟩
  refine lv5 (hd_par l) (by simp; omega) fun q => ?_
  have h1 := (h N m (by omega) (by omega)).c0 h0 (sg [41] :: q) (stops_par rfl rfl)
  have := within_run (lp := sg [40]) (rp := sg [41]) rfl rfl h1
  simpa using this
/-- A part at a level. -/
theorem lv_part {l : List Tok} {b : Tr} {lv lvx p : Int} {con : Bool} (hp : p ≤ 5) (h0 : 0 ≤ lv) (hx : lvx = lv ∨ lvx < p) (h : LvA l b lv) (hd : Hd l lv con) : ∃ lv', p ≤ lv' ∧ 0 ≤ lv' ∧ LvA (parK p (lvx, l)) b lv' ∧ ∃ con', Hd (parK p (lvx, l)) lv' con' ∧ (con = false ∨ lvx < p → con' = false) := by
  unfold parK
  by_cases hq : p ≤ lvx
  · rw [if_pos hq]
    have e : lvx = lv := by omega
    subst e
    exact ⟨lvx, hq, h0, h, con, hd, fun h => by rcases h with h | h; exact h; omega⟩
  · rw [if_neg hq]
    exact ⟨5, hp, by omega, lv_wrap h0 h, false, hd_par l, fun _ => rfl⟩
end Lx
end Go.Proofs.YteabbkhlgnoliaaGreatDoor
namespace Go.Proofs.YteabbkhlgnoliaaGreatDoor
namespace Lx
set_option maxRecDepth 100000
theorem stops_tok {x : Tok} (r : List Tok) (h1 : atomS x = false) (h2 : ∀ ss ∈ [[[42], [47]], [[43], [45]], [[60], [61, 61]]], isAny ss x = false) : Stops (x :: r) := ⟨h1, h2⟩
theorem leaf_run {ex : Rg Tr} {x : Tok} {q : List Tok} (h40 : isT [40] x = false) (ha : atomS x = true) : atomQ ex (x :: q) = .ok (leafV x, q) := by
  have h1 : atomQ ex (x :: q) = _ := ifQ_f h40
  have h2 : ifQ atomS (bindQ nextQ fun t => retQ (leafV t)) stopQ (x :: q) = _ := ifQ_t ha
  rw [h1, h2]; rfl
theorem name_nk {l : List UInt8} (h : nameV l = true) : NK ⟨1, l, 0, 0⟩ ∧ isT [40] ⟨1, l, 0, 0⟩ = false := by
  simp only [nameV, Bool.and_eq_true, decide_eq_true_eq, Bool.not_eq_true', wordS, Bool.or_eq_false_iff] at h
  obtain ⟨h1, _, _, w1, w2, _, w4, _⟩ := h
  have key : ∀ s : List UInt8, run lowR s = 0 → (l == s) = false := fun s hs => by
    cases e : l == s with
    | false => rfl
    | true => rw [eq_of_beq e, hs] at h1; omega
  exact ⟨⟨key [92] rfl, w1, w2, w4⟩, key [40] rfl⟩
theorem con_nk {l : List UInt8} (h : conV l = true) : NK ⟨2, l, 0, 0⟩ ∧ isT [40] ⟨2, l, 0, 0⟩ = false := by
  simp only [conV, Bool.and_eq_true, decide_eq_true_eq] at h
  obtain ⟨h1, _⟩ := h
  have key : ∀ s : List UInt8, run upR s = 0 → (l == s) = false := fun s hs => by
    cases e : l == s with
    | false => rfl
    | true => rw [eq_of_beq e, hs] at h1; omega
  exact ⟨⟨key _ rfl, key _ rfl, key _ rfl, key _ rfl⟩, key [40] rfl⟩
theorem int_nk {n : Int} (h0 : 0 ≤ n) : NK ⟨3, Lib.itoa n, n, 0⟩ ∧ isT [40] ⟨3, Lib.itoa n, n, 0⟩ = false := by
  have key : ∀ s : List UInt8, (∃ c ∈ s, digR (c.toNat : Int) = false) → (Lib.itoa n == s) = false := fun s ⟨c, hc, hd⟩ => by
    cases e : Lib.itoa n == s with
    | false => rfl
    | true =>
      obtain ⟨u, rfl⟩ : ∃ u : Nat, n = u := ⟨n.toNat, by omega⟩
      have he : Lib.itoa (u : Int) = Lib.decDigits u := by unfold Lib.itoa; rw [if_neg (by omega)]; simp
      have := (dec_num u).2.1 c (by rw [← he, eq_of_beq e]; exact hc)
      rw [this] at hd; cases hd
  exact ⟨⟨key _ ⟨92, by decide, rfl⟩, key _ ⟨108, by decide, rfl⟩, key _ ⟨108, by decide, rfl⟩, key _ ⟨99, by decide, rfl⟩⟩, key _ ⟨40, by decide, rfl⟩⟩
/-- Atoms, one behind the other. -/
theorem con_run {ex : Rg Tr} (nm : ByteArray) : ∀ (ps : List (List Tok × Tr)) (n : Nat) (pl : List Tr) (q : List Tok), ps.length ≤ n → (∀ p ∈ ps, (∀ q, atomQ ex (p.1 ++ q) = .ok (p.2, q)) ∧ ∀ q, atomS (peekV (p.1 ++ q) 0) = true) → atomS (peekV q 0) = false →
    conLoopQ ex nm 0 n pl ((ps.map (·.1)).flatten ++ q) = .ok (.node 6 nm 0 0 (pl ++ ps.map (·.2)), q)
  | [], n, pl, q, _, _, hq => by
    simp only [List.map_nil, List.flatten_nil, List.nil_append, List.append_nil]
    cases n with
    | zero => rfl
    | succ n => rw [conLoopQ, ifQ_f hq]; rfl
  | p :: ps, n, pl, q, hn, hp, hq => by
    obtain ⟨n, rfl⟩ : ∃ n', n = n' + 1 := ⟨n - 1, by simp at hn; omega⟩
    obtain ⟨h1, h2⟩ := hp p (by simp)
    have ih := con_run nm ps n (pl ++ [p.2]) q (by simpa using hn) (fun u hu => hp u (by simp [hu])) hq
    simp only [List.map_cons, List.flatten_cons, List.append_assoc]
    rw [conLoopQ, ifQ_t (h2 _), bind_run (h1 _), ih]
    simp
/-- Variables of an alternative, and what stands behind them. -/
theorem alt_run {ex : Rg Tr} (nm : ByteArray) (y : Tr) (ly : List Tok) (q : List Tok) (hy : ex (ly ++ q) = .ok (y, q)) : ∀ (ps : List (List Tok × Tr)) (n : Nat) (pl : List Tr), ps.length ≤ n → (∀ p ∈ ps, (∀ q, atomQ ex (p.1 ++ q) = .ok (p.2, q)) ∧ ∀ q, (peekV (p.1 ++ q) 0).kind = 1) →
    altLoopQ ex nm 0 n pl ((ps.map (·.1)).flatten ++ (sg [45, 62] :: (ly ++ q))) = .ok (.node 8 nm (pl.length + ps.length) 0 (pl ++ ps.map (·.2) ++ [y]), q)
  | [], n, pl, _, _ => by
    have he : altEndQ ex nm 0 pl (sg [45, 62] :: (ly ++ q)) = .ok (.node 8 nm pl.length 0 (pl ++ [y]), q) := by
      unfold altEndQ
      rw [bind_run (take_run (s := [45, 62]) (t := sg [45, 62]) rfl), bind_run hy]; rfl
    simp only [List.map_nil, List.flatten_nil, List.nil_append, List.append_nil, List.length_nil]
    cases n with
    | zero => rw [altLoopQ, he]; simp
    | succ n =>
      rw [altLoopQ, ifQ_f (by show decide ((5 : Int) = 1) = false; rfl), he]; simp
  | p :: ps, n, pl, hn, hp => by
    obtain ⟨n, rfl⟩ : ∃ n', n = n' + 1 := ⟨n - 1, by simp at hn; omega⟩
    obtain ⟨h1, h2⟩ := hp p (by simp)
    have ih := alt_run nm y ly q hy ps n (pl ++ [p.2]) (by simpa using hn) (fun u hu => hp u (by simp [hu]))
    simp only [List.map_cons, List.flatten_cons, List.append_assoc]
    have hk : isK 1 (peekV (p.1 ++ ((ps.map (·.1)).flatten ++ (sg [45, 62] :: (ly ++ q)))) 0) = true := by show decide (_ = _) = true; rw [h2]; simp
    have e : (((pl ++ [p.2]).length : Int) + (ps.length : Int)) = (pl.length : Int) + ((p :: ps).length : Int) := by simp; omega
    rw [altLoopQ, ifQ_t hk, bind_run (h1 _), ih, e]
    simp
/-- Alternatives behind the first one, and the sign } . -/
theorem choice_run {al : Rg Tr} : ∀ (ps : List (List Tok × Tr)) (n : Nat) (pl : List Tr) (q : List Tok), ps.length ≤ n → (∀ p ∈ ps, ∀ q, Stops q → al (p.1 ++ q) = .ok (p.2, q)) →
    choiceLoopQ al 0 n pl ((ps.map fun p => sg [124] :: p.1).flatten ++ sg [125] :: q) = .ok (.node 7 ⟨#[]⟩ 0 0 (pl ++ ps.map (·.2)), q)
  | [], n, pl, q, _, _ => by
    have he : choiceEndQ 0 pl (sg [125] :: q) = .ok (.node 7 ⟨#[]⟩ 0 0 pl, q) := by
      unfold choiceEndQ
      rw [bind_run (take_run (s := [125]) (t := sg [125]) rfl)]; rfl
    simp only [List.map_nil, List.flatten_nil, List.nil_append, List.append_nil]
    cases n with
    | zero => rw [choiceLoopQ, he]
    | succ n => rw [choiceLoopQ, ifQ_f (by rfl), he]
  | p :: ps, n, pl, q, hn, hp => by
    obtain ⟨n, rfl⟩ : ∃ n', n = n' + 1 := ⟨n - 1, by simp at hn; omega⟩
    have ih := choice_run ps n (pl ++ [p.2]) q (by simpa using hn) (fun u hu => hp u (by simp [hu]))
    have hs : Stops ((ps.map fun p => sg [124] :: p.1).flatten ++ sg [125] :: q) := by
      cases ps with
      | nil => exact stops_tok _ rfl (by decide)
      | cons p' ps' => exact stops_tok _ rfl (by decide)
    simp only [List.map_cons, List.flatten_cons, List.append_assoc, List.cons_append]
    rw [choiceLoopQ, ifQ_t (by rfl), bind_run (take_run (s := [124]) (t := sg [124]) rfl), bind_run (hp p (by simp) _ hs), ih]
    simp
theorem stops_in (r : List Tok) : Stops (wd [105, 110] :: r) := stops_tok r rfl (by decide)
theorem stops_of_word (r : List Tok) : Stops (wd [111, 102] :: r) := stops_tok r rfl (by decide)
theorem stops_bar (r : List Tok) : Stops (sg [124] :: r) := stops_tok r rfl (by decide)
theorem stops_shut (r : List Tok) : Stops (sg [125] :: r) := stops_tok r rfl (by decide)
end Lx
end Go.Proofs.YteabbkhlgnoliaaGreatDoor
namespace Go.Proofs.YteabbkhlgnoliaaGreatDoor
namespace Lx
set_option maxRecDepth 100000
theorem len_mem {α : Type} : ∀ (ls : List (List α)) (x : List α), x ∈ ls → x.length ≤ ls.flatten.length
  | [], x, h => by simp at h
  | y :: r, x, h => by
    rw [List.flatten_cons, List.length_append]
    rcases List.mem_cons.1 h with rfl | h
    · omega
    · have := len_mem r x h; omega
theorem tkL_false (l : List Tr) : tkL false l = l.map fun t => (levelT t, tkT t) := by
  induction l with
  | nil => rfl
  | cons t r ih => rw [tkL, ih]; rfl
theorem level_pos (t : Tr) : 0 ≤ levelT t := by
  obtain ⟨k, s, n, a, l⟩ := t
  simp only [levelT, levelN, levelS]
  repeat' split
  all_goals decide
theorem par0 (t : Tr) : parK 0 (levelT t, tkT t) = tkT t := by unfold parK; rw [if_pos (level_pos t)]
theorem altK_flat : ∀ l : List Tr, (altK [124] (l.map fun t => (levelT t, tkT t))).flatten = (l.map fun t => sg [124] :: tkT t).flatten
  | [] => rfl
  | t :: r => by
    rw [List.map_cons, altK, List.flatten_cons, List.flatten_cons, altK_flat r, par0]; simp
theorem nil_name {s : ByteArray} (h : (s.data.toList == []) = true) : s = ⟨#[]⟩ := by
  have h1 := eq_of_beq h
  cases s with
  | mk d => cases d with | mk l => simp at h1; rw [h1]
/-- What is proved of each part. -/
def Rdt (t : Tr) : Prop := (t.kind ≠ 8 → LvA (tkT t) (bareT t) (levelT t) ∧ Hd (tkT t) (levelT t) (decide (t.kind = 6))) ∧
  (t.kind = 8 → ∀ N m q, (tkT t).length < N → (tkT t).length ≤ m → Stops q → altQ (exprQ N m) (tkT t ++ q) = .ok (bareT t, q))
theorem rd_part {t : Tr} (h : Rdt t) (hk : t.kind ≠ 8) {lvx p : Int} (hp : p ≤ 5) (hx : lvx = levelT t ∨ lvx < p) (hc : t.kind ≠ 6 ∨ lvx < p) : ∃ lv', p ≤ lv' ∧ 0 ≤ lv' ∧ LvA (parK p (lvx, tkT t)) (bareT t) lv' ∧ Hd (parK p (lvx, tkT t)) lv' false := by
  obtain ⟨h1, h2⟩ := h.1 hk
  obtain ⟨lv', a, b, c, con', d, e⟩ := lv_part hp (level_pos t) hx h1 h2
  have : con' = false := e (by rcases hc with hc | hc; exact .inl (by simpa using hc); exact .inr hc)
  subst this
  exact ⟨lv', a, b, c, d⟩
theorem rd_part' {t : Tr} (h : Rdt t) (hk : t.kind ≠ 8) {p : Int} (hp : p ≤ 5) : ∃ lv', p ≤ lv' ∧ 0 ≤ lv' ∧ LvA (parK p (levelT t, tkT t)) (bareT t) lv' ∧ ∃ con, Hd (parK p (levelT t, tkT t)) lv' con := by
  obtain ⟨h1, h2⟩ := h.1 hk
  obtain ⟨lv', a, b, c, con', d, _⟩ := lv_part hp (level_pos t) (.inl rfl) h1 h2
  exact ⟨lv', a, b, c, con', d⟩
theorem hd_app {l r : List Tok} {lv lv' : Int} {con con' : Bool} (h : Hd l lv con) (h1 : 1 ≤ lv' → 1 ≤ lv) (h4 : 4 ≤ lv' → 4 ≤ lv) (hc : con' = false → con = false) : Hd (l ++ r) lv' con' := by
  obtain ⟨x, q, rfl, hp, hk, ha, h2⟩ := h
  exact ⟨x, q ++ r, rfl, hp, fun h => hk (h1 h), fun h => ha (h4 h), fun h h' => h2 (h4 h) (hc h')⟩
theorem rd_row {L R : List Tok} {b0 b1 : Tr} {lvL lvR : Int} {con : Bool} {s : List UInt8} (hs : s ∈ [[42], [47], [43], [45], [60], [61, 61]]) (hL : LvA L b0 lvL) (hR : LvA R b1 lvR) (hd : Hd L lvL con) (hdR : 0 < R.length)
    (h1 : (if levelS s = 1 then 2 else levelS s) ≤ lvL) (h2 : levelS s + 1 ≤ lvR) : LvA (L ++ sg s :: R) (.node 10 ⟨s.toArray⟩ 0 0 [b0, b1]) (levelS s) ∧ Hd (L ++ sg s :: R) (levelS s) false := by
  have ha : atomS (sg s) = false := by
    simp only [List.mem_cons, List.not_mem_nil, or_false] at hs
    rcases hs with rfl | rfl | rfl | rfl | rfl | rfl <;> rfl
  simp only [List.mem_cons, List.not_mem_nil, or_false] at hs
  have hlv : levelS s = 3 ∧ isAny mulS (sg s) = true ∨ levelS s = 2 ∧ isAny addS (sg s) = true ∧ isAny mulS (sg s) = false ∨ levelS s = 1 ∧ isAny cmpS (sg s) = true ∧ isAny mulS (sg s) = false ∧ isAny addS (sg s) = false := by
    rcases hs with rfl | rfl | rfl | rfl | rfl | rfl
    · exact .inl ⟨rfl, rfl⟩
    · exact .inl ⟨rfl, rfl⟩
    · exact .inr (.inl ⟨rfl, rfl, rfl⟩)
    · exact .inr (.inl ⟨rfl, rfl, rfl⟩)
    · exact .inr (.inr ⟨rfl, rfl, rfl, rfl⟩)
    · exact .inr (.inr ⟨rfl, rfl, rfl, rfl⟩)
  have hll : (L ++ sg s :: R).length = L.length + R.length + 1 := by simp; omega
  have hHd : Hd (L ++ sg s :: R) (levelS s) false := by
    obtain ⟨x, q, rfl, hp, hk, hat, h2'⟩ := hd
    refine ⟨x, q ++ sg s :: R, rfl, hp, fun h => hk ?_, fun h => ?_, fun h => ?_⟩
    · rcases hlv with ⟨e, _⟩ | ⟨e, _⟩ | ⟨e, _⟩ <;> rw [e] at h1 <;> simp at h1 <;> omega
    · rcases hlv with ⟨e, _⟩ | ⟨e, _⟩ | ⟨e, _⟩ <;> rw [e] at h <;> omega
    · rcases hlv with ⟨e, _⟩ | ⟨e, _⟩ | ⟨e, _⟩ <;> rw [e] at h <;> omega
  refine ⟨fun N m hN hm => ?_, hHd⟩
  rw [hll] at hN hm
  have hLm := hL N m (by omega) (by omega)
  have hRm := hR N m (by omega) (by omega)
  have asc : ∀ q, (L ++ sg s :: R) ++ q = L ++ sg s :: (R ++ q) := fun q => by simp
  rcases hlv with ⟨e, hm1⟩ | ⟨e, hm1, hm2⟩ | ⟨e, hm1, hm2, hm3⟩
  · rw [e] at h1 h2 hHd ⊢
    simp at h1
    obtain ⟨k, hk, h⟩ := hLm.l3 (by omega)
    refine lv3 hHd (by rw [hll]; omega) ⟨k + 1, by rw [hll]; omega, fun q hq => ?_⟩
    rw [asc, h (sg s :: (R ++ q)) ha, row_step (by omega) hm1 (hRm.c4 (by omega) q hq), show N - k - 1 = N - (k + 1) from by omega]
  · rw [e] at h1 h2 hHd ⊢
    simp at h1
    obtain ⟨k, hk, h⟩ := hLm.l2 (by omega)
    obtain ⟨k', hk', h'⟩ := hRm.l3 (by omega)
    refine lv2 hHd (by rw [hll]; omega) ⟨k + 1, by rw [hll]; omega, fun q hq hq2 => ?_⟩
    have hr : prodQ N (exprQ N m) (R ++ q) = .ok (b1, q) := by rw [h' q hq]; exact row_down (by omega) hq2
    rw [asc, h (sg s :: (R ++ q)) ha hm2, row_step (by omega) hm1 hr, show N - k - 1 = N - (k + 1) from by omega]
  · rw [e] at h1 h2 hHd ⊢
    simp at h1
    obtain ⟨k, hk, h⟩ := hLm.l2 (by omega)
    obtain ⟨k', hk', h'⟩ := hRm.l2 (by omega)
    refine lv1 hHd fun q hq => ?_
    obtain ⟨q1, q2, q3, q4⟩ := stops_of hq
    have hl : sumQ N (exprQ N m) (L ++ sg s :: (R ++ q)) = .ok (b0, sg s :: (R ++ q)) := by rw [h (sg s :: (R ++ q)) ha hm2]; exact row_down (by omega) hm3
    have hr : sumQ N (exprQ N m) (R ++ q) = .ok (b1, q) := by rw [h' q q1 q2]; exact row_down (by omega) q3
    have hp := hd_place hd (sg s :: (R ++ q))
    rw [asc]
    unfold cmpQ bindQ hereQ
    rw [hl]
    have h3 : ifQ (isAny [[60], [61, 61]]) (opQ (sumQ N (exprQ N m)) (peekV (L ++ sg s :: (R ++ q)) 0).place b0) (retQ b0) (sg s :: (R ++ q)) = _ := ifQ_t hm1
    show ifQ (isAny [[60], [61, 61]]) (opQ (sumQ N (exprQ N m)) (peekV (L ++ sg s :: (R ++ q)) 0).place b0) (retQ b0) (sg s :: (R ++ q)) = _
    rw [h3, hp]
    unfold opQ
    rw [bind_run next_run, bind_run hr]; rfl
theorem rd_let {k : Int} {w : List UInt8} (hk : (k = 4 ∧ w = [108, 101, 116]) ∨ (k = 5 ∧ w = [108, 101, 116, 114, 101, 99])) (s : List UInt8) {l0 l1 : List Tok} {b0 b1 : Tr} {lvA lvB : Int} (p0 : 0 ≤ lvA) (p1 : 0 ≤ lvB) (h0 : LvA l0 b0 lvA) (h1 : LvA l1 b1 lvB) :
    LvA (wd w :: ⟨1, s, 0, 0⟩ :: sg [61] :: (l0 ++ wd [105, 110] :: l1)) (.node k ⟨s.toArray⟩ 0 0 [b0, b1]) 0 := fun N m hN hm => lv0 fun q hq => by
  simp only [List.length_cons, List.length_append] at hN hm
  obtain ⟨m, rfl⟩ : ∃ m', m = m' + 1 := ⟨m - 1, by omega⟩
  have hx0 := (h0 N m (by omega) (by omega)).c0 p0 (wd [105, 110] :: (l1 ++ q)) (stops_in _)
  have hx1 := (h1 N m (by omega) (by omega)).c0 p1 q hq
  have he : letQ k (exprQ N (m + 1)) (wd w :: ⟨1, s, 0, 0⟩ :: sg [61] :: (l0 ++ wd [105, 110] :: (l1 ++ q))) = .ok (.node k ⟨s.toArray⟩ 0 0 [b0, b1], q) := by
    unfold letQ
    rw [bind_run next_run, bind_run (takeK_run (k := 1) (t := ⟨1, s, 0, 0⟩) rfl), bind_run (take_run (s := [61]) (t := sg [61]) rfl), bind_run hx0, bind_run (take_run (s := [105, 110]) (t := wd [105, 110]) rfl), bind_run hx1]; rfl
  have asc : (wd w :: ⟨1, s, 0, 0⟩ :: sg [61] :: (l0 ++ wd [105, 110] :: l1)) ++ q = wd w :: ⟨1, s, 0, 0⟩ :: sg [61] :: (l0 ++ wd [105, 110] :: (l1 ++ q)) := by simp
  rw [asc]
  generalize (⟨1, s, 0, 0⟩ :: sg [61] :: (l0 ++ wd [105, 110] :: (l1 ++ q)) : List Tok) = r at he
  rcases hk with ⟨rfl, rfl⟩ | ⟨rfl, rfl⟩
  · have e1 : exprQ N (m + 1 + 1) (wd [108, 101, 116] :: r) = _ := ifQ_f rfl
    have e2 : ifQ (isT [108, 101, 116]) (letQ 4 (exprQ N (m + 1))) (ifQ (isT [108, 101, 116, 114, 101, 99]) (letQ 5 (exprQ N (m + 1))) (ifQ (isT [99, 97, 115, 101]) (choiceQ (exprQ N (m + 1))) (cmpQ (sumQ N (exprQ N (m + 1)))))) (wd [108, 101, 116] :: r) = _ := ifQ_t rfl
    rw [e1, e2]; exact he
  · have e1 : exprQ N (m + 1 + 1) (wd [108, 101, 116, 114, 101, 99] :: r) = _ := ifQ_f rfl
    have e2 : ifQ (isT [108, 101, 116]) (letQ 4 (exprQ N (m + 1))) (ifQ (isT [108, 101, 116, 114, 101, 99]) (letQ 5 (exprQ N (m + 1))) (ifQ (isT [99, 97, 115, 101]) (choiceQ (exprQ N (m + 1))) (cmpQ (sumQ N (exprQ N (m + 1)))))) (wd [108, 101, 116, 114, 101, 99] :: r) = _ := ifQ_f rfl
    have e3 : ifQ (isT [108, 101, 116, 114, 101, 99]) (letQ 5 (exprQ N (m + 1))) (ifQ (isT [99, 97, 115, 101]) (choiceQ (exprQ N (m + 1))) (cmpQ (sumQ N (exprQ N (m + 1))))) (wd [108, 101, 116, 114, 101, 99] :: r) = _ := ifQ_t rfl
    rw [e1, e2, e3]; exact he
theorem rd_case {l0 l1 : List Tok} {b0 b1 : Tr} {lvA : Int} (p0 : 0 ≤ lvA) (h0 : LvA l0 b0 lvA) (h1 : ∀ N m q, l1.length < N → l1.length ≤ m → Stops q → altQ (exprQ N m) (l1 ++ q) = .ok (b1, q)) (ps : List (List Tok × Tr)) (h7 : ps.length ≤ 7)
    (h2 : ∀ p ∈ ps, ∀ N m q, p.1.length < N → p.1.length ≤ m → Stops q → altQ (exprQ N m) (p.1 ++ q) = .ok (p.2, q)) :
    LvA (wd [99, 97, 115, 101] :: (l0 ++ wd [111, 102] :: sg [123] :: (l1 ++ ((ps.map fun p => sg [124] :: p.1).flatten ++ [sg [125]])))) (.node 7 ⟨#[]⟩ 0 0 (b0 :: b1 :: ps.map (·.2))) 0 := fun N m hN hm => lv0 fun q hq => by
  simp only [List.length_cons, List.length_append] at hN hm
  obtain ⟨m, rfl⟩ : ∃ m', m = m' + 1 := ⟨m - 1, by omega⟩
  have hx0 := (h0 N m (by omega) (by omega)).c0 p0 (wd [111, 102] :: sg [123] :: (l1 ++ ((ps.map fun p => sg [124] :: p.1).flatten ++ sg [125] :: q))) (stops_of_word _)
  have hs : Stops ((ps.map fun p => sg [124] :: p.1).flatten ++ sg [125] :: q) := by
    cases ps with
    | nil => exact stops_shut q
    | cons p r => exact stops_tok (x := sg [124]) _ rfl (by decide)
  have hx1 := h1 N (m + 1) ((ps.map fun p => sg [124] :: p.1).flatten ++ sg [125] :: q) (by omega) (by omega) hs
  have hx2 := choice_run (al := altQ (exprQ N (m + 1))) ps 7 [b0, b1] q h7 (fun p hp q hq => by
    have := len_mem (ps.map fun p => sg [124] :: p.1) (sg [124] :: p.1) (List.mem_map_of_mem (f := fun p : List Tok × Tr => sg [124] :: p.1) hp)
    simp only [List.length_cons] at this
    exact h2 p hp N (m + 1) q (by omega) (by omega) hq)
  have he : choiceQ (exprQ N (m + 1)) (wd [99, 97, 115, 101] :: (l0 ++ wd [111, 102] :: sg [123] :: (l1 ++ ((ps.map fun p => sg [124] :: p.1).flatten ++ sg [125] :: q)))) = .ok (.node 7 ⟨#[]⟩ 0 0 (b0 :: b1 :: ps.map (·.2)), q) := by
    unfold choiceQ
    rw [bind_run (take_run (s := [99, 97, 115, 101]) (t := wd [99, 97, 115, 101]) rfl), bind_run hx0, bind_run (take_run (s := [111, 102]) (t := wd [111, 102]) rfl), bind_run (take_run (s := [123]) (t := sg [123]) rfl), bind_run hx1]
    exact hx2
  have asc : (wd [99, 97, 115, 101] :: (l0 ++ wd [111, 102] :: sg [123] :: (l1 ++ ((ps.map fun p => sg [124] :: p.1).flatten ++ [sg [125]])))) ++ q = wd [99, 97, 115, 101] :: (l0 ++ wd [111, 102] :: sg [123] :: (l1 ++ ((ps.map fun p => sg [124] :: p.1).flatten ++ sg [125] :: q))) := by simp
  rw [asc]
  generalize (l0 ++ wd [111, 102] :: sg [123] :: (l1 ++ ((ps.map fun p => sg [124] :: p.1).flatten ++ sg [125] :: q)) : List Tok) = r at he
  have e1 : exprQ N (m + 1 + 1) (wd [99, 97, 115, 101] :: r) = _ := ifQ_f rfl
  have e2 : ifQ (isT [108, 101, 116]) (letQ 4 (exprQ N (m + 1))) (ifQ (isT [108, 101, 116, 114, 101, 99]) (letQ 5 (exprQ N (m + 1))) (ifQ (isT [99, 97, 115, 101]) (choiceQ (exprQ N (m + 1))) (cmpQ (sumQ N (exprQ N (m + 1)))))) (wd [99, 97, 115, 101] :: r) = _ := ifQ_f rfl
  have e3 : ifQ (isT [108, 101, 116, 114, 101, 99]) (letQ 5 (exprQ N (m + 1))) (ifQ (isT [99, 97, 115, 101]) (choiceQ (exprQ N (m + 1))) (cmpQ (sumQ N (exprQ N (m + 1))))) (wd [99, 97, 115, 101] :: r) = _ := ifQ_f rfl
  have e4 : ifQ (isT [99, 97, 115, 101]) (choiceQ (exprQ N (m + 1))) (cmpQ (sumQ N (exprQ N (m + 1)))) (wd [99, 97, 115, 101] :: r) = _ := ifQ_t rfl
  rw [e1, e2, e3, e4]; exact he
theorem tk_var {t : Tr} (h : mayT t = true) (hk : t.kind = 1) : ∃ x : Tok, parK 5 (levelT t, tkT t) = [x] ∧ x.kind = 1 := by
  obtain ⟨k, s, n, a, ls⟩ := t
  obtain ⟨_, hpt, _, _⟩ := may_inv h
  obtain rfl : k = 1 := hk
  simp [partsV] at hpt
  obtain ⟨rfl, rfl⟩ := hpt
  exact ⟨⟨1, s.data.toList, 0, 0⟩, by simp [tkT, wordsK, levelT, levelN, parK], rfl⟩
theorem rd_tree : ∀ (d : Nat) (t : Tr), depthT t ≤ d → mayT t = true → Rdt t := by
  intro d
  induction d with
  | zero => intro t h; have := depth_pos t; omega
  | succ d ih =>
    intro t hd hm
    obtain ⟨k, s, n, a, ls⟩ := t
    obtain ⟨hnm, hpt, ha, hml⟩ := may_inv hm
    have hdL : depthL ls ≤ d := by rw [depthT] at hd; omega
    have hC : ∀ t ∈ ls, Rdt t := fun t ht => ih t (by have := depthL_mem ls t ht; omega) (mayL_memT k n ls 0 hml t ht)
    have hst : ∀ (j : Nat) (t : Tr), ls[j]? = some t → standsV k n j t.kind = true := fun j t h => by
      have := mayL_stands k n ls 0 j t hml h
      rwa [Nat.zero_add] at this
    have two : ls.length = 2 → ∃ p0 p1, ls = [p0, p1] := fun h => by
      match ls, h with
      | [p0, p1], _ => exact ⟨p0, p1, rfl⟩
    rcases (by
      by_cases h : k = 1 ∨ k = 2 ∨ k = 3 ∨ k = 4 ∨ k = 5 ∨ k = 6 ∨ k = 7 ∨ k = 8 ∨ k = 9 ∨ k = 10
      · exact h
      · exfalso
        simp only [not_or] at h
        obtain ⟨e1, e2, e3, e4, e5, e6, e7, e8, e9, e10⟩ := h
        simp [partsV, e1, e2, e3, e4, e5, e6, e7, e8, e9, e10] at hpt : k = 1 ∨ k = 2 ∨ k = 3 ∨ k = 4 ∨ k = 5 ∨ k = 6 ∨ k = 7 ∨ k = 8 ∨ k = 9 ∨ k = 10) with rfl | rfl | rfl | rfl | rfl | rfl | rfl | rfl | rfl | rfl
    -- a variable
    · refine ⟨fun _ => ?_, fun h => by simp [Tr.kind] at h⟩
      simp [partsV] at hpt
      obtain ⟨rfl, rfl⟩ := hpt
      have hn : nameV s.data.toList = true := by simpa [nameOkV] using hnm
      obtain ⟨k1, k2⟩ := name_nk hn
      have e1 : tkT (.node 1 s 0 a []) = [⟨1, s.data.toList, 0, 0⟩] := by simp [tkT, wordsK]
      have e2 : bareT (.node 1 s 0 a []) = leafV ⟨1, s.data.toList, 0, 0⟩ := by simp [bareT, bareL, leafV]
      have e3 : levelT (.node 1 s 0 a []) = 5 := rfl
      rw [e1, e2, e3]
      have hh : Hd [⟨1, s.data.toList, 0, 0⟩] 5 false := ⟨_, [], rfl, rfl, fun _ => k1, fun _ => rfl, fun _ _ => by simp⟩
      exact ⟨fun N m hN hm => lv5 hh hN fun q => leaf_run k2 rfl, hh⟩
    -- a function
    · refine ⟨fun _ => ?_, fun h => by simp [Tr.kind] at h⟩
      simp [partsV] at hpt
      obtain ⟨p0, rfl⟩ : ∃ p0, ls = [p0] := by
        match ls, hpt.1 with
        | [p0], _ => exact ⟨p0, rfl⟩
      obtain ⟨_, rfl⟩ := hpt
      have hk0 : p0.kind ≠ 8 := by have := hst 0 p0 rfl; simpa [standsV] using this
      obtain ⟨r1, r2⟩ := (hC p0 (by simp)).1 hk0
      have e1 : tkT (.node 2 s 0 a [p0]) = sg [92] :: ⟨1, s.data.toList, 0, 0⟩ :: sg [46] :: tkT p0 := by
        have := par0 p0
        simp [tkT, wordsK, tkL, atK, this]
      have e2 : bareT (.node 2 s 0 a [p0]) = .node 2 ⟨s.data.toList.toArray⟩ 0 0 [bareT p0] := by simp [bareT, bareL]
      have e3 : levelT (.node 2 s 0 a [p0]) = 0 := rfl
      rw [e1, e2, e3]
      refine ⟨fun N m hN hm => lv0 fun q hq => ?_, ⟨_, _, rfl, rfl, fun h => absurd h (by decide), fun h => absurd h (by decide), fun h => absurd h (by decide)⟩⟩
      simp only [List.length_cons] at hN hm
      obtain ⟨m, rfl⟩ : ∃ m', m = m' + 1 := ⟨m - 1, by omega⟩
      have hx := (r1 N m (by omega) (by omega)).c0 (level_pos p0) q hq
      have h1 : exprQ N (m + 1 + 1) (sg [92] :: ⟨1, s.data.toList, 0, 0⟩ :: sg [46] :: (tkT p0 ++ q)) = _ := ifQ_t rfl
      show exprQ N (m + 1 + 1) (sg [92] :: ⟨1, s.data.toList, 0, 0⟩ :: sg [46] :: (tkT p0 ++ q)) = _
      rw [h1]
      unfold lamQ
      rw [bind_run (take_run (s := [92]) (t := sg [92]) rfl), bind_run (takeK_run (k := 1) (t := ⟨1, s.data.toList, 0, 0⟩) rfl), bind_run (take_run (s := [46]) (t := sg [46]) rfl), bind_run hx]; rfl
    -- an application
    · refine ⟨fun _ => ?_, fun h => by simp [Tr.kind] at h⟩
      simp [partsV] at hpt
      obtain ⟨p0, p1, rfl⟩ := two hpt.1
      obtain ⟨_, rfl⟩ := hpt
      obtain rfl := nil_name (s := s) (by simpa [nameOkV] using hnm)
      have hk0 : p0.kind ≠ 8 := by have := hst 0 p0 rfl; simpa [standsV] using this
      have hk1 : p1.kind ≠ 8 := by have := hst 1 p1 rfl; simpa [standsV] using this
      obtain ⟨lx, hlx⟩ : ∃ lx : Int, lx = if p0.kind = 6 then -1 else levelT p0 := ⟨_, rfl⟩
      obtain ⟨lv', a1, a2, aL, aH⟩ := rd_part (hC p0 (by simp)) hk0 (lvx := lx) (p := 4) (by omega) (by by_cases h6 : p0.kind = 6; right; rw [hlx, if_pos h6]; omega; left; rw [hlx, if_neg h6]) (by by_cases h6 : p0.kind = 6; right; rw [hlx, if_pos h6]; omega; left; exact h6)
      obtain ⟨lv2, b1, b2, bL, con, bH⟩ := rd_part' (hC p1 (by simp)) hk1 (p := 5) (by omega)
      have e1 : tkT (.node 3 ⟨#[]⟩ 0 a [p0, p1]) = parK 4 (lx, tkT p0) ++ parK 5 (levelT p1, tkT p1) := by
        rw [hlx]; by_cases h6 : p0.kind = 6 <;> simp [tkT, wordsK, tkL, atK, h6]
      have e2 : bareT (.node 3 ⟨#[]⟩ 0 a [p0, p1]) = .node 3 ⟨#[]⟩ 0 0 [bareT p0, bareT p1] := by simp [bareT, bareL]
      have e3 : levelT (.node 3 ⟨#[]⟩ 0 a [p0, p1]) = 4 := rfl
      rw [e1, e2, e3]
      generalize parK 4 (lx, tkT p0) = L at aL aH
      generalize parK 5 (levelT p1, tkT p1) = R at bL bH
      have hh : Hd (L ++ R) 4 false := hd_app aH (by omega) (by omega) (fun _ => rfl)
      refine ⟨fun N m hN hm => ?_, hh⟩
      have hN' := hN
      rw [List.length_append] at hN' hm
      have hrp := hd_pos bH
      have hL4 : ∃ k, k + 1 ≤ (L ++ R).length ∧ ∀ q, appQ N (exprQ N m) (L ++ R ++ q) = appLoopQ (exprQ N m) 0 (N - k) (.node 3 ⟨#[]⟩ 0 0 [bareT p0, bareT p1]) q := by
        have hk : (peekV L 0).kind ≠ 2 := by
          obtain ⟨x, r, rfl, _, _, _, hk⟩ := aH
          exact hk (by omega) rfl
        obtain ⟨k, hk, h⟩ := (aL N m (by omega) (by omega)).l4 (by omega) hk
        refine ⟨k + 1, by rw [List.length_append]; omega, fun q => ?_⟩
        rw [List.append_assoc, h]
        obtain ⟨j, hj⟩ : ∃ j, N - k = j + 1 := ⟨N - k - 1, by omega⟩
        have hj2 : N - (k + 1) = j := by omega
        rw [hj, hj2, appLoopQ, ifQ_t (hd_atom bH (by omega) q), bind_run ((bL N m (by omega) (by omega)).c5 (by omega) q)]
      exact lv45 (by omega) hh hN (fun h => absurd h (by omega)) (c4_of_l4 hN hL4) (fun _ => hL4)
    -- let, letrec
    · refine ⟨fun _ => ?_, fun h => by simp [Tr.kind] at h⟩
      simp [partsV] at hpt
      obtain ⟨p0, p1, rfl⟩ := two hpt.1
      obtain ⟨_, rfl⟩ := hpt
      have hk0 : p0.kind ≠ 8 := by have := hst 0 p0 rfl; simpa [standsV] using this
      have hk1 : p1.kind ≠ 8 := by have := hst 1 p1 rfl; simpa [standsV] using this
      have e1 : tkT (.node 4 s 0 a [p0, p1]) = wd [108, 101, 116] :: ⟨1, s.data.toList, 0, 0⟩ :: sg [61] :: (tkT p0 ++ wd [105, 110] :: tkT p1) := by
        have h0 := par0 p0
        have h1 := par0 p1
        simp [tkT, wordsK, tkL, atK, h0, h1]
      have e2 : bareT (.node 4 s 0 a [p0, p1]) = .node 4 ⟨s.data.toList.toArray⟩ 0 0 [bareT p0, bareT p1] := by simp [bareT, bareL]
      have e3 : levelT (.node 4 s 0 a [p0, p1]) = 0 := rfl
      rw [e1, e2, e3]
      exact ⟨rd_let (.inl ⟨rfl, rfl⟩) _ (level_pos p0) (level_pos p1) ((hC p0 (by simp)).1 hk0).1 ((hC p1 (by simp)).1 hk1).1, ⟨_, _, rfl, rfl, fun h => absurd h (by decide), fun h => absurd h (by decide), fun h => absurd h (by decide)⟩⟩
    · refine ⟨fun _ => ?_, fun h => by simp [Tr.kind] at h⟩
      simp [partsV] at hpt
      obtain ⟨p0, p1, rfl⟩ := two hpt.1
      obtain ⟨_, rfl⟩ := hpt
      have hk0 : p0.kind ≠ 8 := by have := hst 0 p0 rfl; simpa [standsV] using this
      have hk1 : p1.kind ≠ 8 := by have := hst 1 p1 rfl; simpa [standsV] using this
      have e1 : tkT (.node 5 s 0 a [p0, p1]) = wd [108, 101, 116, 114, 101, 99] :: ⟨1, s.data.toList, 0, 0⟩ :: sg [61] :: (tkT p0 ++ wd [105, 110] :: tkT p1) := by
        have h0 := par0 p0
        have h1 := par0 p1
        simp [tkT, wordsK, tkL, atK, h0, h1]
      have e2 : bareT (.node 5 s 0 a [p0, p1]) = .node 5 ⟨s.data.toList.toArray⟩ 0 0 [bareT p0, bareT p1] := by simp [bareT, bareL]
      have e3 : levelT (.node 5 s 0 a [p0, p1]) = 0 := rfl
      rw [e1, e2, e3]
      exact ⟨rd_let (.inr ⟨rfl, rfl⟩) _ (level_pos p0) (level_pos p1) ((hC p0 (by simp)).1 hk0).1 ((hC p1 (by simp)).1 hk1).1, ⟨_, _, rfl, rfl, fun h => absurd h (by decide), fun h => absurd h (by decide), fun h => absurd h (by decide)⟩⟩
    -- a constructor
    · refine ⟨fun _ => ?_, fun h => by simp [Tr.kind] at h⟩
      simp [partsV] at hpt
      obtain ⟨hl8, rfl⟩ := hpt
      have hn : conV s.data.toList = true := by simpa [nameOkV] using hnm
      obtain ⟨k1, k2⟩ := con_nk hn
      have hk8 : ∀ t ∈ ls, t.kind ≠ 8 := fun t ht => by
        obtain ⟨j, hj, rfl⟩ := List.getElem_of_mem ht
        have := hst j _ (List.getElem?_eq_getElem hj)
        simpa [standsV] using this
      obtain ⟨ps, hps⟩ : ∃ ps : List (List Tok × Tr), ps = ls.map fun t => (parK 5 (levelT t, tkT t), bareT t) := ⟨_, rfl⟩
      have e1 : tkT (.node 6 s 0 a ls) = ⟨2, s.data.toList, 0, 0⟩ :: (ps.map (·.1)).flatten := by
        rw [hps]; simp [tkT, wordsK, tkL_false, Function.comp_def]
      have e2 : bareT (.node 6 s 0 a ls) = .node 6 ⟨s.data.toList.toArray⟩ 0 0 (ps.map (·.2)) := by rw [hps]; simp [bareT, bareL_map, Function.comp_def]
      have e3 : levelT (.node 6 s 0 a ls) = if 0 < ls.length then 4 else 5 := by simp [levelT, levelN]
      have hlv : 4 ≤ levelT (.node 6 s 0 a ls) := by rw [e3]; split <;> omega
      have hl5 : 5 ≤ levelT (.node 6 s 0 a ls) → ls = [] := fun h => by
        rw [e3] at h
        split at h
        · omega
        · exact List.length_eq_zero_iff.1 (by omega)
      have hh : Hd (tkT (.node 6 s 0 a ls)) (levelT (.node 6 s 0 a ls)) true := by
        rw [e1]
        exact ⟨_, _, rfl, rfl, fun _ => k1, fun _ => rfl, fun _ h => by cases h⟩
      refine ⟨fun N m hN hm => ?_, hh⟩
      refine lv45 hlv hh hN (fun h q => ?_) (fun q hq => ?_) (fun h => ?_)
      · obtain rfl := hl5 h
        simp only [List.map_nil] at hps
        subst hps
        rw [e1, e2]
        exact (leaf_run k2 rfl).trans (by simp [leafV])
      · rw [e1] at hN hm
        rw [e1, e2]
        have h1 : appQ N (exprQ N m) (⟨2, s.data.toList, 0, 0⟩ :: ((ps.map (·.1)).flatten ++ q)) = _ := ifQ_t rfl
        show appQ N (exprQ N m) (⟨2, s.data.toList, 0, 0⟩ :: ((ps.map (·.1)).flatten ++ q)) = _
        rw [h1]
        unfold conQ
        rw [bind_run next_run]
        refine (con_run ⟨s.data.toList.toArray⟩ ps 8 [] q (by rw [hps]; simpa using hl8) (fun p hp => ?_) hq).trans (by simp)
        have hpl := len_mem (ps.map (·.1)) p.1 (List.mem_map_of_mem hp)
        simp only [List.length_cons] at hN hm
        rw [hps] at hp
        obtain ⟨t, ht, rfl⟩ := List.mem_map.1 hp
        have hpl : (parK 5 (levelT t, tkT t)).length ≤ (ps.map (·.1)).flatten.length := hpl
        obtain ⟨lv2, b1, b2, bL, con, bH⟩ := rd_part' (hC t ht) (hk8 t ht) (p := 5) (by omega)
        exact ⟨(bL N m (by omega) (by omega)).c5 (by omega), hd_atom bH (by omega)⟩
      · rw [e1] at h
        exact absurd rfl h
    -- a case
    · refine ⟨fun _ => ?_, fun h => by simp [Tr.kind] at h⟩
      simp [partsV] at hpt
      obtain ⟨hl2, hl9, rfl⟩ := hpt
      obtain rfl := nil_name (s := s) (by simpa [nameOkV] using hnm)
      obtain ⟨p0, a0, rs, rfl⟩ : ∃ p0 a0 rs, ls = p0 :: a0 :: rs := by
        match ls, hl2 with
        | p0 :: a0 :: rs, _ => exact ⟨p0, a0, rs, rfl⟩
      have hk0 : p0.kind ≠ 8 := by have := hst 0 p0 rfl; simpa [standsV] using this
      have hk1 : a0.kind = 8 := by have := hst 1 a0 rfl; simpa [standsV] using this
      have hkr : ∀ t ∈ rs, t.kind = 8 := fun t ht => by
        obtain ⟨j, hj, rfl⟩ := List.getElem_of_mem ht
        have := hst (j + 2) (rs[j]) (by simp [hj])
        simpa [standsV] using this
      have e1 : tkT (.node 7 ⟨#[]⟩ 0 a (p0 :: a0 :: rs)) = wd [99, 97, 115, 101] :: (tkT p0 ++ wd [111, 102] :: sg [123] :: (tkT a0 ++ (((rs.map fun t => (tkT t, bareT t)).map fun p => sg [124] :: p.1).flatten ++ [sg [125]]))) := by
        have h0 := par0 p0
        have h1 := par0 a0
        have h2 := altK_flat rs
        simp [tkT, wordsK, tkL, tkL_false, atK, altK, h0, h1, h2, Function.comp_def]
      have e2 : bareT (.node 7 ⟨#[]⟩ 0 a (p0 :: a0 :: rs)) = .node 7 ⟨#[]⟩ 0 0 (bareT p0 :: bareT a0 :: (rs.map fun t => (tkT t, bareT t)).map (·.2)) := by simp [bareT, bareL, bareL_map, Function.comp_def]
      have e3 : levelT (.node 7 ⟨#[]⟩ 0 a (p0 :: a0 :: rs)) = 0 := rfl
      rw [e1, e2, e3]
      refine ⟨rd_case (level_pos p0) ((hC p0 (by simp)).1 hk0).1 ((hC a0 (by simp)).2 hk1) _ (by simp at hl9 ⊢; omega) fun p hp => ?_, ⟨_, _, rfl, rfl, fun h => absurd h (by decide), fun h => absurd h (by decide), fun h => absurd h (by decide)⟩⟩
      obtain ⟨t, ht, rfl⟩ := List.mem_map.1 hp
      exact (hC t (by simp [ht])).2 (hkr t ht)
    -- an alternative
    · refine ⟨fun h => absurd rfl h, fun _ N m q hN hm hq => ?_⟩
      simp [partsV] at hpt
      obtain ⟨hn0, hn8, hln⟩ := hpt
      obtain ⟨M, rfl⟩ : ∃ M : Nat, n = M := ⟨n.toNat, by omega⟩
      have hM : M < ls.length := by omega
      obtain ⟨bd, hbd⟩ : ∃ bd, ls[M]? = some bd := ⟨_, List.getElem?_eq_getElem hM⟩
      have hspl : ls = ls.take M ++ [bd] := by
        have h1 := List.take_append_drop M ls
        have h2 : ls.drop M = [bd] := by
          rw [List.drop_eq_getElem_cons hM, List.drop_eq_nil_of_le (by omega)]
          rw [List.getElem?_eq_getElem hM] at hbd
          rw [Option.some.inj hbd]
        rw [h2] at h1
        exact h1.symm
      have hbm : bd ∈ ls := List.mem_of_getElem? hbd
      have hkb : bd.kind ≠ 8 := by have := hst M bd hbd; simpa [standsV] using this
      have hkv : ∀ t ∈ ls.take M, t.kind = 1 := fun t ht => by
        obtain ⟨j, hj, rfl⟩ := List.getElem_of_mem ht
        rw [List.length_take] at hj
        have := hst j _ (List.getElem?_eq_getElem (by omega))
        rw [List.getElem_take]
        have hjm : (j : Int) < (M : Int) := by omega
        simpa [standsV, hjm] using this
      have hp0 := par0 bd
      have e1 : tkT (.node 8 s M a ls) = ⟨2, s.data.toList, 0, 0⟩ :: ((((ls.take M).map fun t => (parK 5 (levelT t, tkT t), bareT t)).map (·.1)).flatten ++ sg [45, 62] :: tkT bd) := by
        have e : atK (ls.map fun t => (levelT t, tkT t)) M = (levelT bd, tkT bd) := by simp [atK, List.getD, hbd]
        simp [tkT, wordsK, tkL_false, e, hp0, List.map_take, Function.comp_def]
      have e2 : bareT (.node 8 s M a ls) = .node 8 ⟨s.data.toList.toArray⟩ M 0 (((ls.take M).map fun t => (parK 5 (levelT t, tkT t), bareT t)).map (·.2) ++ [bareT bd]) := by
        have : bareL ls = (ls.take M).map bareT ++ [bareT bd] := by
          conv => lhs; rw [hspl]
          rw [bareL_map]; simp
        simp [bareT, this, Function.comp_def]
      rw [e1] at hN hm ⊢
      rw [e2]
      simp only [List.length_cons, List.length_append] at hN hm
      obtain ⟨m, rfl⟩ : ∃ m', m = m' + 1 := ⟨m - 1, by omega⟩
      obtain ⟨r1, r2⟩ := (hC bd hbm).1 hkb
      have hy := (r1 N m (by omega) (by omega)).c0 (level_pos bd) q hq
      have hr := alt_run (ex := exprQ N (m + 1)) ⟨s.data.toList.toArray⟩ (bareT bd) (tkT bd) q hy ((ls.take M).map fun t => (parK 5 (levelT t, tkT t), bareT t)) 8 [] (by simp; omega) (fun p hp => by
        have hpl := len_mem (((ls.take M).map fun t => (parK 5 (levelT t, tkT t), bareT t)).map (·.1)) p.1 (List.mem_map_of_mem hp)
        obtain ⟨t, ht, rfl⟩ := List.mem_map.1 hp
        have hpl : (parK 5 (levelT t, tkT t)).length ≤ (((ls.take M).map fun t => (parK 5 (levelT t, tkT t), bareT t)).map (·.1)).flatten.length := hpl
        have htm : t ∈ ls := List.mem_of_mem_take ht
        have hk1 := hkv t ht
        obtain ⟨lv2, b1, b2, bL, con, bH⟩ := rd_part' (hC t htm) (by omega) (p := 5) (by omega)
        refine ⟨(bL N (m + 1) (by omega) (by omega)).c5 (by omega), fun q => ?_⟩
        obtain ⟨x, hx, hxk⟩ := tk_var (mayL_memT 8 M ls 0 hml t htm) hk1
        show (peekV (parK 5 (levelT t, tkT t) ++ q) 0).kind = 1
        rw [hx]; exact hxk)
      have asc : (⟨2, s.data.toList, 0, 0⟩ :: ((((ls.take M).map fun t => (parK 5 (levelT t, tkT t), bareT t)).map (·.1)).flatten ++ sg [45, 62] :: tkT bd)) ++ q = ⟨2, s.data.toList, 0, 0⟩ :: ((((ls.take M).map fun t => (parK 5 (levelT t, tkT t), bareT t)).map (·.1)).flatten ++ (sg [45, 62] :: (tkT bd ++ q))) := by simp
      rw [asc]
      unfold altQ
      rw [bind_run (takeK_run (k := 2) (t := ⟨2, s.data.toList, 0, 0⟩) rfl)]
      have hlm : ((ls.take M).length : Int) = M := by rw [List.length_take]; omega
      refine hr.trans ?_
      simp [List.length_take]
      omega
    -- a number
    · refine ⟨fun _ => ?_, fun h => by simp [Tr.kind] at h⟩
      simp [partsV] at hpt
      obtain ⟨rfl, hn0, hn1⟩ := hpt
      obtain rfl := nil_name (s := s) (by simpa [nameOkV] using hnm)
      obtain ⟨k1, k2⟩ := int_nk hn0
      have e1 : tkT (.node 9 ⟨#[]⟩ n a []) = [⟨3, Lib.itoa n, n, 0⟩] := by simp [tkT, wordsK]
      have e2 : bareT (.node 9 ⟨#[]⟩ n a []) = leafV ⟨3, Lib.itoa n, n, 0⟩ := by simp [bareT, bareL, leafV]
      have e3 : levelT (.node 9 ⟨#[]⟩ n a []) = 5 := rfl
      rw [e1, e2, e3]
      have hh : Hd [⟨3, Lib.itoa n, n, 0⟩] 5 false := ⟨_, [], rfl, rfl, fun _ => k1, fun _ => rfl, fun _ _ => by simp⟩
      exact ⟨fun N m hN hm => lv5 hh hN fun q => leaf_run k2 rfl, hh⟩
    -- an operator
    · refine ⟨fun _ => ?_, fun h => by simp [Tr.kind] at h⟩
      simp [partsV] at hpt
      obtain ⟨p0, p1, rfl⟩ := two hpt.1
      obtain ⟨_, rfl⟩ := hpt
      have hk0 : p0.kind ≠ 8 := by have := hst 0 p0 rfl; simpa [standsV] using this
      have hk1 : p1.kind ≠ 8 := by have := hst 1 p1 rfl; simpa [standsV] using this
      have ho : opV s.data.toList = true := by simpa [nameOkV] using hnm
      have hmem : s.data.toList ∈ [[42], [47], [43], [45], [60], [61, 61]] := by
        simp only [opV, Bool.or_eq_true, beq_iff_eq] at ho
        rcases ho with e | e | e | e | e | e <;> rw [e] <;> simp
      have hlq : levelS s.data.toList = 1 ∨ levelS s.data.toList = 2 ∨ levelS s.data.toList = 3 := by
        unfold levelS; repeat' split
        all_goals simp
      obtain ⟨lv1, a1, a2, aL, con, aH⟩ := rd_part' (hC p0 (by simp)) hk0 (p := if levelS s.data.toList = 1 then 2 else levelS s.data.toList) (by rcases hlq with e | e | e <;> rw [e] <;> decide)
      obtain ⟨lv2, b1, b2, bL, con2, bH⟩ := rd_part' (hC p1 (by simp)) hk1 (p := levelS s.data.toList + 1) (by rcases hlq with e | e | e <;> rw [e] <;> decide)
      have e1 : tkT (.node 10 s 0 a [p0, p1]) = parK (if levelS s.data.toList = 1 then 2 else levelS s.data.toList) (levelT p0, tkT p0) ++ sg s.data.toList :: parK (levelS s.data.toList + 1) (levelT p1, tkT p1) := by
        simp [tkT, wordsK, tkL, atK]
      have e2 : bareT (.node 10 s 0 a [p0, p1]) = .node 10 ⟨s.data.toList.toArray⟩ 0 0 [bareT p0, bareT p1] := by simp [bareT, bareL]
      have e3 : levelT (.node 10 s 0 a [p0, p1]) = levelS s.data.toList := by simp [levelT, levelN]
      rw [e1, e2, e3]
      exact rd_row hmem aL bL aH (hd_pos bH) a1 b1
end Lx
end Go.Proofs.YteabbkhlgnoliaaGreatDoor
namespace Go.Proofs.YteabbkhlgnoliaaGreatDoor
namespace Lx
set_option maxRecDepth 100000
mutual
theorem same_bareT : ∀ t : Tr, sameT t (bareT t) = true
  | .node k s n a l => by rw [bareT, sameT, same_bareL l]; simp
theorem same_bareL : ∀ l : List Tr, sameL l (bareL l) = true
  | [] => rfl
  | t :: r => by rw [bareL, sameL, same_bareT t, same_bareL r]; rfl
end
mutual
theorem same_symm : ∀ a b : Tr, sameT a b = true → sameT b a = true
  | .node k s n p l, .node k' s' n' p' l', h => by
    rw [sameT] at h ⊢
    simp only [Bool.and_eq_true, decide_eq_true_eq] at h ⊢
    exact ⟨h.1.symm, h.2.1.symm, h.2.2.1.symm, same_symmL l l' h.2.2.2⟩
theorem same_symmL : ∀ a b : List Tr, sameL a b = true → sameL b a = true
  | [], [], _ => rfl
  | [], _ :: _, h => by simp [sameL] at h
  | _ :: _, [], h => by simp [sameL] at h
  | t :: r, t' :: r', h => by
    rw [sameL, Bool.and_eq_true] at h ⊢
    exact ⟨same_symm t t' h.1, same_symmL r r' h.2⟩
end
def Pl0 (l : List Tok) : Prop := ∀ x ∈ l, x.place = 0
theorem pl0_app {a b : List Tok} (ha : Pl0 a) (hb : Pl0 b) : Pl0 (a ++ b) := fun x hx => by
  rcases List.mem_append.1 hx with h | h
  · exact ha x h
  · exact hb x h
theorem pl0_cons {a : Tok} {b : List Tok} (ha : a.place = 0) (hb : Pl0 b) : Pl0 (a :: b) := fun x hx => by
  rcases List.mem_cons.1 hx with rfl | h
  · exact ha
  · exact hb x h
theorem pl0_nil : Pl0 [] := fun x hx => by cases hx
theorem pl0_par (lv : Int) {y : Int × List Tok} (h : Pl0 y.2) : Pl0 (parK lv y) := by
  unfold parK
  split
  · exact h
  · exact pl0_cons rfl (pl0_app h (pl0_cons rfl pl0_nil))
def PlX (Y : List (Int × List Tok)) : Prop := ∀ y ∈ Y, Pl0 y.2
theorem pl0_at {Y : List (Int × List Tok)} (h : PlX Y) (i : Nat) : Pl0 (atK Y i).2 := by
  unfold atK List.getD
  cases he : Y[i]? with
  | none => exact pl0_nil
  | some y => exact h y (List.mem_of_getElem? he)
theorem pl0_map (lv : Int) : ∀ {Y : List (Int × List Tok)}, PlX Y → Pl0 (Y.map (parK lv)).flatten
  | [], _ => pl0_nil
  | y :: r, h => by
    rw [List.map_cons, List.flatten_cons]
    exact pl0_app (pl0_par lv (h y (by simp))) (pl0_map lv fun u hu => h u (by simp [hu]))
theorem pl0_alt : ∀ (s : List UInt8) {Y : List (Int × List Tok)}, PlX Y → Pl0 (altK s Y).flatten
  | s, [], _ => pl0_nil
  | s, y :: r, h => by
    rw [altK, List.flatten_cons, List.flatten_cons]
    show Pl0 (sg s :: (parK 0 y ++ (altK [124] r).flatten))
    exact pl0_cons rfl (pl0_app (pl0_par 0 (h y (by simp))) (pl0_alt [124] (Y := r) fun u hu => h u (by simp [hu])))
theorem pl0_words (k : Int) (s : List UInt8) (n : Int) {Y : List (Int × List Tok)} (h : PlX Y) : Pl0 (wordsK k s n Y).flatten := by
  have hp := fun lv i => pl0_par lv (pl0_at h i)
  unfold wordsK
  generalize (if levelS s = 1 then 2 else levelS s) = q
  repeat' split
  all_goals (try simp only [List.flatten_cons, List.flatten_nil, List.flatten_append, List.append_nil, List.cons_append, List.nil_append])
  · exact pl0_cons rfl pl0_nil
  · exact pl0_cons rfl pl0_nil
  · exact pl0_cons rfl (pl0_cons rfl (pl0_cons rfl (hp _ _)))
  · exact pl0_cons rfl (pl0_cons rfl (pl0_cons rfl (pl0_app (hp _ _) (pl0_cons rfl (hp _ _)))))
  · exact pl0_cons rfl (pl0_cons rfl (pl0_cons rfl (pl0_app (hp _ _) (pl0_cons rfl (hp _ _)))))
  · exact pl0_cons rfl (pl0_app (hp _ _) (pl0_cons rfl (pl0_app (pl0_alt _ fun u hu => h u (List.mem_of_mem_drop hu)) (pl0_cons rfl pl0_nil))))
  · exact pl0_cons rfl (pl0_app (pl0_map 5 fun u hu => h u (List.mem_of_mem_take hu)) (pl0_cons rfl (hp _ _)))
  · exact pl0_app (hp _ _) (pl0_cons rfl (hp _ _))
  · exact pl0_cons rfl (pl0_map 5 h)
  · exact pl0_app (hp _ _) (hp _ _)
  · exact pl0_nil
mutual
theorem pl0_tree : ∀ t : Tr, Pl0 (tkT t)
  | .node k s n a l => by
    rw [tkT]
    exact pl0_words k s.data.toList n (pl0_list l (decide (k = 3)))
theorem pl0_list : ∀ (l : List Tr) (b : Bool), PlX (tkL b l)
  | [], _ => fun y hy => by cases hy
  | t :: r, b => fun y hy => by
    rw [tkL] at hy
    rcases List.mem_cons.1 hy with rfl | hy
    · exact pl0_tree t
    · exact pl0_list r false y hy
end
/-- The tokens of a tree's text are read as the tree, but for places. -/
theorem show_read {t : Tr} (hm : mayV t = true) (hs : sizeT t ≤ 300) : ∃ us u, allK (showT t) = .ok us ∧ wholeQ us = .ok u ∧ sameT t u = true ∧ us.map er = (tkT t).map er := by
  simp only [mayV, Bool.and_eq_true, decide_eq_true_eq] at hm
  obtain ⟨us, h1, h2⟩ := lxs_tree t hm.2
  obtain ⟨hg, hln, _⟩ := allK_GL h1
  have hl := show_len t hm.2
  have hle : us.length = (tkT t).length := by
    have := congrArg List.length h2
    simpa using this
  have hlv := ((rd_tree (depthT t) t (Nat.le_refl _) hm.2).1 hm.1).1 20000 19999 (by omega) (by omega)
  have hq : wholeQ (tkT t) = .ok (bareT t) := by
    have h3 := hlv.c0 (level_pos t) [] stops_nil
    rw [List.append_nil] at h3
    exact ok_whole h3
  have hgc : GL (tkT t) := fun x hx => by
    have hm2 : er x ∈ us.map er := by rw [h2]; exact List.mem_map_of_mem hx
    obtain ⟨y, hy, he⟩ := List.mem_map.1 hm2
    obtain ⟨⟨l, hgl⟩, _⟩ := hg y hy
    refine ⟨⟨l, ?_⟩, by rw [pl0_tree t x hx]; decide⟩
    rw [hgl, er_kind he, er_n he, er_text he]
  obtain ⟨u, h4, h5⟩ := whole_sim (b := false) hgc (by omega) hq (show Rel false (tkT t) us from by unfold Rel xq; simpa using h2)
  exact ⟨us, u, h1, h4, same_trans _ _ _ (same_bareT t) h5, h2⟩
theorem back_read {t : Tr} (hm : mayV t = true) (hs : sizeT t ≤ 300) (hd : depthT t ≤ 200) (hl : (showT t).length ≤ 4096) : ∃ u, parseV (showT t) 200 = .ok u ∧ sameT u t = true := by
  obtain ⟨us, u, h1, h2, h3, _⟩ := show_read hm hs
  refine ⟨u, ?_, same_symm _ _ h3⟩
  rw [parseV_tok (by omega) hl h1, h2]
  simp only
  rw [if_neg (by have := same_depth t u h3; omega)]
theorem back_like {a b : Tr} (ha : mayV a = true) (hb : mayV b = true) (hsa : sizeT a ≤ 300) (hsb : sizeT b ≤ 300) : (showT a = showT b) ↔ sameT a b = true := by
  constructor
  · intro h
    obtain ⟨us, u, h1, h2, h3, _⟩ := show_read ha hsa
    obtain ⟨vs, v, k1, k2, k3, _⟩ := show_read hb hsb
    rw [h, k1] at h1
    obtain rfl := Except.ok.inj h1
    rw [k2] at h2
    obtain rfl := Except.ok.inj h2
    exact same_trans _ _ _ h3 (same_symm _ _ k3)
  · intro h
    exact (show_same a b h).1
end Lx
end Go.Proofs.YteabbkhlgnoliaaGreatDoor
