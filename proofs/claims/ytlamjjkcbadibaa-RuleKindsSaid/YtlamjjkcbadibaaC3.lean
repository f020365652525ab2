/-
  Texts that lie one behind the other: RuD RuE RuF.
-/
import Derived.Test.YtlamjjkcbadibaaC2
import Derived.Deep.RegionWith
namespace Go.Proofs.Ytlamjjkcbadibaa
open Go Go.RowKit
namespace Lx
set_option maxRecDepth 100000
theorem res_tmps3R {fn : Func} {p q r : Tmp} (h : fn.results = #[.tmp p, .tmp q, .tmp r]) {tmps : Array Value} {w : World} :
    (results fn tmps).run Try.prog w = .ok (.tuple #[tmps.getD p undef, tmps.getD q undef, tmps.getD r undef]) w := by
  simp only [results, h]
  simp
theorem rutruth_any (b : Bool) (w : World) : Calls Try.prog 55 #[.bool b] w fun e w' => e = .returned (.string (truthS b)) ∧ w = w' := by
  cases b with
  | true =>
    go_enter Try.func55, Try.ntmps55
    go_wp2_with fail
    go_ret
    exact ⟨rfl, rfl⟩
  | false =>
    go_enter Try.func55, Try.ntmps55
    go_wp2_with fail
    go_ret
    exact ⟨rfl, rfl⟩
def quoV (a b : Int) : Int × ByteArray × Bool := if b = 0 then (0, ⟨#[]⟩, false) else (wrapR (a.tdiv b), ⟨#[]⟩, true)
def v3 (x : Int × ByteArray × Bool) : Value := .tuple #[.int .i64 x.1, .string x.2.1, .bool x.2.2]
theorem ruquo_any (a b : Int) (w : World) : Calls Try.prog 54 #[.int .i64 a, .int .i64 b] w fun e w' => e = .returned (v3 (quoV a b)) ∧ w = w' := by
  by_cases h : b = 0
  · subst h
    go_enter Try.func54, Try.ntmps54
    go_wp2_with fail
    exact bodyPost_ret (res_tmps3R (p := 4) (q := 5) (r := 6) Try.results54) rfl ⟨rfl, rfl⟩
  · have h0 : (b == 0) = false := by simpa using h
    have HE : Hid (quoV a b = (wrap64 (a.tdiv b), ⟨#[]⟩, true)) := Lib.hid (by rw [quoV, if_neg h, wrapR_64])
    go_enter Try.func54, Try.ntmps54
    go_wp2_with fail
    exact bodyPost_ret (res_tmps3R (p := 4) (q := 5) (r := 6) Try.results54) rfl ⟨by rw [HE.out]; rfl, rfl⟩
set_option maxHeartbeats 8000000 in
theorem rurec_any (s : ByteArray) (a b : Int) (w : World) : Calls Try.prog 49 #[.string s, .int .i64 a, .int .i64 b] w fun e w' => e = .returned (v3 (recV s a b)) ∧ w = w' := by
  by_cases g0 : s = ⟨#[43]⟩
  · subst g0
    have HE : Hid (recV ⟨#[43]⟩ a b = (wrap64 (a + b), ⟨#[]⟩, true)) := Lib.hid (by unfold recV; simp [wrapR_64])
    go_enter Try.func49, Try.ntmps49
    go_wp2_with fail
    exact bodyPost_ret (res_tmps3R (p := 6) (q := 7) (r := 8) Try.results49) rfl ⟨by rw [HE.out]; rfl, rfl⟩
  have n0 : (s.toList == [43]) = false := by show (s.toList == (⟨#[43]⟩ : ByteArray).data.toList) = false; rw [← dataN_list, strN_q, decide_eq_false g0]
  by_cases g1 : s = ⟨#[45]⟩
  · subst g1
    clear n0 g0
    have HE : Hid (recV ⟨#[45]⟩ a b = (wrap64 (a - b), ⟨#[]⟩, true)) := Lib.hid (by unfold recV; simp [wrapR_64])
    go_enter Try.func49, Try.ntmps49
    go_wp2_with fail
    exact bodyPost_ret (res_tmps3R (p := 6) (q := 7) (r := 8) Try.results49) rfl ⟨by rw [HE.out]; rfl, rfl⟩
  have n1 : (s.toList == [45]) = false := by show (s.toList == (⟨#[45]⟩ : ByteArray).data.toList) = false; rw [← dataN_list, strN_q, decide_eq_false g1]
  by_cases g2 : s = ⟨#[42]⟩
  · subst g2
    clear n0 g0
    clear n1 g1
    have HE : Hid (recV ⟨#[42]⟩ a b = (wrap64 (a * b), ⟨#[]⟩, true)) := Lib.hid (by unfold recV; simp [wrapR_64])
    go_enter Try.func49, Try.ntmps49
    go_wp2_with fail
    exact bodyPost_ret (res_tmps3R (p := 6) (q := 7) (r := 8) Try.results49) rfl ⟨by rw [HE.out]; rfl, rfl⟩
  have n2 : (s.toList == [42]) = false := by show (s.toList == (⟨#[42]⟩ : ByteArray).data.toList) = false; rw [← dataN_list, strN_q, decide_eq_false g2]
  by_cases g3 : s = ⟨#[47]⟩
  · subst g3
    clear n0 g0
    clear n1 g1
    clear n2 g2
    have HE : Hid (recV ⟨#[47]⟩ a b = quoV a b) := Lib.hid (by unfold recV quoV; simp)
    have HC := Lib.hid (ruquo_any a b w)
    obtain ⟨Q, hQ⟩ : ∃ Q, Q = quoV a b := ⟨_, rfl⟩
    rw [← hQ] at HC HE
    clear hQ
    unfold v3 at HC
    go_enter Try.func49, Try.ntmps49
    go_wp2_with fail
    refine HC.out.mono ?_
    rintro e _ ⟨rfl, rfl⟩
    go_wp2_with fail
    exact bodyPost_ret (res_tmps3R (p := 6) (q := 7) (r := 8) Try.results49) rfl ⟨by rw [HE.out]; rfl, rfl⟩
  have n3 : (s.toList == [47]) = false := by show (s.toList == (⟨#[47]⟩ : ByteArray).data.toList) = false; rw [← dataN_list, strN_q, decide_eq_false g3]
  by_cases g4 : s = ⟨#[60]⟩
  · subst g4
    clear n0 g0
    clear n1 g1
    clear n2 g2
    clear n3 g3
    have HE : Hid (recV ⟨#[60]⟩ a b = (0, truthS (decide (a < b)), true)) := Lib.hid (by unfold recV; simp)
    have HC := Lib.hid (rutruth_any (decide (a < b)) w)
    obtain ⟨Q, hQ⟩ : ∃ Q, Q = decide (a < b) := ⟨_, rfl⟩
    rw [← hQ] at HC HE
    obtain ⟨S, hS⟩ : ∃ S, S = truthS Q := ⟨_, rfl⟩
    rw [← hS] at HC HE
    clear hS
    go_enter Try.func49, Try.ntmps49
    go_wp2_with fail
    rw [← hQ]
    refine HC.out.mono ?_
    rintro e _ ⟨rfl, rfl⟩
    go_wp2_with fail
    exact bodyPost_ret (res_tmps3R (p := 6) (q := 7) (r := 8) Try.results49) rfl ⟨by rw [HE.out]; rfl, rfl⟩
  have n4 : (s.toList == [60]) = false := by show (s.toList == (⟨#[60]⟩ : ByteArray).data.toList) = false; rw [← dataN_list, strN_q, decide_eq_false g4]
  by_cases g5 : s = ⟨#[61, 61]⟩
  · subst g5
    clear n0 g0
    clear n1 g1
    clear n2 g2
    clear n3 g3
    clear n4 g4
    have HE : Hid (recV ⟨#[61, 61]⟩ a b = (0, truthS (decide (a = b)), true)) := Lib.hid (by unfold recV; simp)
    have HC := Lib.hid (rutruth_any (decide (a = b)) w)
    obtain ⟨Q, hQ⟩ : ∃ Q, Q = decide (a = b) := ⟨_, rfl⟩
    rw [← hQ] at HC HE
    obtain ⟨S, hS⟩ : ∃ S, S = truthS Q := ⟨_, rfl⟩
    rw [← hS] at HC HE
    clear hS
    go_enter Try.func49, Try.ntmps49
    go_wp2_with fail
    rw [show (a == b) = Q from by rw [hQ, Bool.eq_iff_iff]; simp]
    refine HC.out.mono ?_
    rintro e _ ⟨rfl, rfl⟩
    go_wp2_with fail
    exact bodyPost_ret (res_tmps3R (p := 6) (q := 7) (r := 8) Try.results49) rfl ⟨by rw [HE.out]; rfl, rfl⟩
  have n5 : (s.toList == [61, 61]) = false := by show (s.toList == (⟨#[61, 61]⟩ : ByteArray).data.toList) = false; rw [← dataN_list, strN_q, decide_eq_false g5]
  have HE : Hid (recV s a b = (0, ⟨#[]⟩, true)) := Lib.hid (by unfold recV; rw [if_neg g0, if_neg g1, if_neg g2, if_neg g3, if_neg g4, if_neg g5])
  clear g0 g1 g2 g3 g4 g5
  go_enter Try.func49, Try.ntmps49
  go_wp2_with fail
  exact bodyPost_ret (res_tmps3R (p := 6) (q := 7) (r := 8) Try.results49) rfl ⟨by rw [HE.out]; rfl, rfl⟩
theorem altAt_is {s : ByteArray} {p : Int} : ∀ {l : List (ByteArray × Int)} {i : Nat} (h : i < l.length), (l[i]'h).1 = s → (l[i]'h).2 = p → (∀ j (hj : j < i), ¬ ((l[j]'(Nat.lt_trans hj h)).1 = s ∧ (l[j]'(Nat.lt_trans hj h)).2 = p)) → altAt s p l = some i
  | [], i, h, _, _, _ => by simp at h
  | a :: r, 0, h, h1, h2, _ => by rw [altAt, if_pos ⟨h1, h2⟩]
  | a :: r, i + 1, h, h1, h2, h3 => by
    have h0 := h3 0 (by omega)
    simp only [List.getElem_cons_zero] at h0
    rw [altAt, if_neg h0, altAt_is (l := r) (i := i) (by simpa using h) (by simpa using h1) (by simpa using h2) (fun j hj => by simpa using h3 (j + 1) (by omega))]
    rfl
theorem altAt_no {s : ByteArray} {p : Int} : ∀ {l : List (ByteArray × Int)}, (∀ j (hj : j < l.length), ¬ ((l[j]'hj).1 = s ∧ (l[j]'hj).2 = p)) → altAt s p l = none
  | [], _ => rfl
  | a :: r, h => by
    have h0 := h 0 (by simp)
    simp only [List.getElem_cons_zero] at h0
    rw [altAt, if_neg h0, altAt_no (l := r) (fun j hj => by have := h (j + 1) (Nat.succ_lt_succ hj); simpa using this)]
    rfl
def altI (s : ByteArray) (p : Int) (l : List (ByteArray × Int)) : Int := match altAt s p l with
  | some i => i
  | none => -1
theorem ruclose_any (nm s : ByteArray) (n p : Int) (g q : Nat) (w : World) (h0 : w.cell? ⟨g, 3, none⟩ = some (.string nm)) (h1 : w.cell? ⟨q, 0, none⟩ = some (.int .i64 p)) :
    Calls Try.prog 47 #[.agg #[.string s, .int .i64 n], .pointer (some ⟨g, 0, none⟩), .pointer (some ⟨q, 0, none⟩)] w fun e w' => e = .returned (.bool (decide (s = nm ∧ n = p))) ∧ Below w.heap.size w w' := by
  have hb : Below w.heap.size w (w.alloc (.cells #[.string s, .int .i64 n] 49)) := (Below.refl _ w).alloc (Nat.le_refl _) _
  have c0 := (hb.cell (p := ⟨g, 3, none⟩) (ncell_lt h0)).trans h0
  have c1 := (hb.cell (p := ⟨q, 0, none⟩) (ncell_lt h1)).trans h1
  have HQ := Lib.hid (strN_q s nm)
  by_cases hs : s = nm
  · subst hs
    have hr : (s.toList == s.toList) = true := by simp
    go_enter Try.func47, Try.ntmps47
    go_wp2_with fail
    go_ret
    exact ⟨nret_bool (by rw [Bool.eq_iff_iff]; simp), hb⟩
  · have hr : (s.toList == nm.toList) = false := by rw [strN_q, decide_eq_false hs]
    have HS : Hid (decide (s = nm ∧ n = p) = false) := Lib.hid (decide_eq_false (fun e => hs e.1))
    clear hs HQ
    go_enter Try.func47, Try.ntmps47
    go_wp2_with fail
    go_ret
    exact ⟨nret_bool HS.out.symm, hb⟩
set_option maxHeartbeats 4000000 in
theorem ruindex_any (nm : ByteArray) (p : Int) (g q : Nat) (l : List (ByteArray × Int)) (A : Option Addr) (m c : Nat) (w : World) (hm : m = l.length) (hl : m ≤ 140737488351232) (hA : AltIn w AnyB l A) (h0 : w.cell? ⟨g, 3, none⟩ = some (.string nm)) (h1 : w.cell? ⟨q, 0, none⟩ = some (.int .i64 p)) :
    Calls Try.prog 48 #[.slice A m c, .func (.func 47) #[] #[.pointer (some ⟨g, 0, none⟩), .pointer (some ⟨q, 0, none⟩)]] w fun e w' => e = .returned (.int .i64 (altI nm p l)) ∧ Below w.heap.size w w' := by
  have HA := Lib.hid hA
  have HM := Lib.hid hm
  clear hA hm
  go_enter Try.func48, Try.ntmps48
  go_wp2_with fail
  go_loopw [8] (fun x wr => ∃ i : Nat, i ≤ m ∧ x = .int .i64 i ∧ Hid (∀ j (hj : j < l.length), j < i → ¬ ((l[j]'hj).1 = nm ∧ (l[j]'hj).2 = p)) ∧ Below w.heap.size w wr) (fun x _ => m - (intOf x).toNat)
  case atStart => exact ⟨0, Nat.zero_le _, rfl, Lib.hid (fun j _ h => by omega), Below.refl _ _⟩
  case round =>
    obtain ⟨i, hi, rfl, hT, hbr⟩ := hrel
    by_cases hlt : i < m
    · have hil : i < l.length := by have := HM.out; omega
      obtain ⟨h, o, ⟨rfl, _⟩, d0, d1, _⟩ := HA.out i hil
      have hgw := ncell_lt d0
      replace d0 := (hbr.cell (p := ⟨h, o + i * 2, none⟩) hgw).trans d0
      replace d1 := (hbr.cell (p := ⟨h, o + i * 2 + 1, none⟩) hgw).trans d1
      have c0 := (hbr.cell (p := ⟨g, 3, none⟩) (ncell_lt h0)).trans h0
      have c1 := (hbr.cell (p := ⟨q, 0, none⟩) (ncell_lt h1)).trans h1
      have HC := Lib.hid (ruclose_any nm (l[i]'hil).1 (l[i]'hil).2 p g q wr c0 c1)
      obtain ⟨bn, hbn⟩ : ∃ bn, bn = (l[i]'hil).1 := ⟨_, rfl⟩
      obtain ⟨bN, hbN⟩ : ∃ bN, bN = (l[i]'hil).2 := ⟨_, rfl⟩
      rw [← hbn] at d0 HC
      rw [← hbN] at d1 HC
      have HN := Lib.hid (And.intro hbn hbN)
      clear hbn hbN c0 c1
      cases hE : decide (bn = nm ∧ bN = p) with
      | true =>
        rw [hE] at HC
        have HD := Lib.hid (of_decide_eq_true hE)
        clear hE
        go_wp2_with fail
        refine HC.out.mono ?_
        rintro e w2 ⟨rfl, hb2⟩
        go_wp2_with fail
        go_ret
        refine ⟨nret_int ?_, hbr.trans (hb2.mono hbr.size)⟩
        rw [altI, altAt_is hil (HN.out.1.symm.trans HD.out.1) (HN.out.2.symm.trans HD.out.2) (fun j hj => hT.out j _ hj)]
      | false =>
        rw [hE] at HC
        have HD := Lib.hid (of_decide_eq_false hE)
        clear hE
        go_wp2_with fail
        refine HC.out.mono ?_
        rintro e w2 ⟨rfl, hb2⟩
        go_wp2_with fail
        go_roundw
        case rel =>
          go_light
          refine ⟨i + 1, by omega, by go_num, Lib.hid (fun j hj hji => ?_), hbr.trans (hb2.mono hbr.size)⟩
          by_cases e : j = i
          · subst e; rw [← HN.out.1, ← HN.out.2]; exact HD.out
          · exact hT.out j hj (by omega)
        case measure => simp [intOf]; omega
    · go_wp2_with fail
      go_ret
      refine ⟨nret_int ?_, hbr⟩
      rw [altI, altAt_no (fun j hj => hT.out j hj (by have := HM.out; omega))]
theorem altI_cases (nm : ByteArray) (p : Int) (l : List (ByteArray × Int)) : (altI nm p l = -1 ∧ altAt nm p l = none) ∨ ∃ i : Nat, altI nm p l = i ∧ altAt nm p l = some i := by
  unfold altI
  cases altAt nm p l with
  | none => exact .inl ⟨rfl, rfl⟩
  | some i => exact .inr ⟨i, rfl, rfl⟩
set_option maxHeartbeats 4000000 in
theorem runeedpick_any (l : List (ByteArray × Int)) (A : Option Addr) (m c : Nat) (i : Int) (w : World) (hm : m = l.length) (_hl : m ≤ 140737488351232) (hA : AltIn w AnyB l A) :
    Calls Try.prog 25 #[.slice A m c, .int .i64 i] w fun e w' => e = .returned (.int .i64 (needPick l i)) ∧ w = w' := by
  by_cases h0 : i < 0
  · have HE : Hid (needPick l i = 0) := Lib.hid (by rw [needPick, if_pos (.inl h0)])
    have d0 : decide (i < 0) = true := decide_eq_true h0
    clear hA hm
    go_enter Try.func25, Try.ntmps25
    go_wp2_with fail
    go_ret
    exact ⟨nret_int HE.out.symm, rfl⟩
  · by_cases h1 : (m : Int) ≤ i
    · have HE : Hid (needPick l i = 0) := Lib.hid (by rw [needPick, if_pos (.inr (by omega))])
      clear hA hm
      go_enter Try.func25, Try.ntmps25
      go_wp2_with fail
      go_ret
      exact ⟨nret_int HE.out.symm, rfl⟩
    · obtain ⟨k, rfl⟩ : ∃ k : Nat, i = (k : Int) := ⟨i.toNat, by omega⟩
      have hk : k < l.length := by omega
      have HE : Hid (needPick l k = wrap64 (wrap64 ((l[k]'hk).2 + m) - 1)) := Lib.hid (by
        rw [needPick, if_neg (by omega), wrapR_64, wrapR_64]
        simp [List.getD, hk, hm])
      obtain ⟨h, o, ⟨rfl, _⟩, d0, d1, d2⟩ := hA k hk
      obtain ⟨bN, hbN⟩ : ∃ bN, bN = (l[k]'hk).2 := ⟨_, rfl⟩
      rw [← hbN] at d1 HE
      have hk2 : k < m := by omega
      clear hA hm hbN d0 d2
      go_enter Try.func25, Try.ntmps25
      go_wp2_with fail
      go_ret
      exact ⟨nret_int HE.out.symm, rfl⟩
end Lx
end Go.Proofs.Ytlamjjkcbadibaa
namespace Go.Proofs.Ytlamjjkcbadibaa
open Go Go.RowKit
namespace Lx
set_option maxRecDepth 100000
theorem givesPl_put {w V w5 : World} {p : Pl} {x : Int} {C : Option Addr} {c G : Nat} (hP : PlOk w5 (fun g => V.heap.size ≤ g) p C) (hG0 : w.heap.size ≤ G) (hG1 : G < V.heap.size) (hb : Below w.heap.size w V) (hb5 : Below V.heap.size V w5) (a b d e f g h i j k : Value) :
    GivesPl p x w (.returned (.tuple #[plv p C c, .int .i64 x])) (put10 w5 G a b d e f g h i j k) :=
  ⟨C, c, rfl, (hP.keep (put10_keep (by show ¬ V.heap.size ≤ G; omega) _ _ _ _ _ _ _ _ _ _)).keep (keep_wide fun q hq _ => Nat.le_trans hb.size hq), put10_below (hb.trans (hb5.mono hb.size)) hG0 _ _ _ _ _ _ _ _ _ _⟩
theorem givesPl1_put {w V w5 : World} {p : Pl} {C : Option Addr} {c G : Nat} (hP : PlOk w5 (fun g => V.heap.size ≤ g) p C) (hG0 : w.heap.size ≤ G) (hG1 : G < V.heap.size) (hb : Below w.heap.size w V) (hb5 : Below V.heap.size V w5) (a b d e f g h i j k : Value) :
    GivesPl1 p w (.returned (plv p C c)) (put10 w5 G a b d e f g h i j k) :=
  ⟨C, c, rfl, (hP.keep (put10_keep (by show ¬ V.heap.size ≤ G; omega) _ _ _ _ _ _ _ _ _ _)).keep (keep_wide fun q hq _ => Nat.le_trans hb.size hq), put10_below (hb.trans (hb5.mono hb.size)) hG0 _ _ _ _ _ _ _ _ _ _⟩
set_option maxHeartbeats 8000000 in
theorem rupick_any (x y : Nd) (Bx Cx : Option Addr) (bx cx : Nat) (By Cy : Option Addr) (by_ cy : Nat) (w : World) (hI : NdIn w AnyB x Bx Cx) (hJ : NdIn w AnyB y By Cy) :
    Calls Try.prog 41 #[.agg #[.int .i64 x.kind, .int .i64 x.level, .int .i64 x.n, .string x.name, .slice Bx x.alts.length (capN x.alts.length bx), .slice Cx x.to.length (capN x.to.length cx)], .agg #[.int .i64 y.kind, .int .i64 y.level, .int .i64 y.n, .string y.name, .slice By y.alts.length (capN y.alts.length by_), .slice Cy y.to.length (capN y.to.length cy)]] w (GivesPl1 (pickV x y) w) := by
  obtain ⟨W, hW⟩ : ∃ W, W = (((w.alloc (.cells #[.int .i64 x.kind, .int .i64 x.level, .int .i64 x.n, .string x.name, .slice Bx x.alts.length (capN x.alts.length bx), .slice Cx x.to.length (capN x.to.length cx)] 25)).alloc (.cells #[.int .i64 y.kind, .int .i64 y.level, .int .i64 y.n, .string y.name, .slice By y.alts.length (capN y.alts.length by_), .slice Cy y.to.length (capN y.to.length cy)] 25)).alloc (.cells #[.int .i64 0, .bool false, .int .i64 0, .int .i64 0, .int .i64 0, .int .i64 0, .int .i64 0, .string ⟨#[]⟩, .slice none 0 0, .slice none 0 0] 29)) := ⟨_, rfl⟩
  have hbW : Below w.heap.size w W := by rw [hW]; exact ((((Below.refl _ w).alloc (Nat.le_refl _) _).alloc (by simp) _).alloc (by simp; omega) _)
  have L0 : Lies W (w.heap.size) 25 #[.int .i64 x.kind, .int .i64 x.level, .int .i64 x.n, .string x.name, .slice Bx x.alts.length (capN x.alts.length bx), .slice Cx x.to.length (capN x.to.length cx)] := by
    rw [hW]
    refine Lies.old ?_ _
    refine Lies.old ?_ _
    exact Lies.new _ _ _
  have L1 : Lies W (w.heap.size + 1) 25 #[.int .i64 y.kind, .int .i64 y.level, .int .i64 y.n, .string y.name, .slice By y.alts.length (capN y.alts.length by_), .slice Cy y.to.length (capN y.to.length cy)] := by
    rw [hW]
    refine Lies.old ?_ _
    simpa using Lies.new (w.alloc (.cells #[.int .i64 x.kind, .int .i64 x.level, .int .i64 x.n, .string x.name, .slice Bx x.alts.length (capN x.alts.length bx), .slice Cx x.to.length (capN x.to.length cx)] 25)) 25 #[.int .i64 y.kind, .int .i64 y.level, .int .i64 y.n, .string y.name, .slice By y.alts.length (capN y.alts.length by_), .slice Cy y.to.length (capN y.to.length cy)]
  have L2 : Lies W (w.heap.size + 1 + 1) 29 #[.int .i64 0, .bool false, .int .i64 0, .int .i64 0, .int .i64 0, .int .i64 0, .int .i64 0, .string ⟨#[]⟩, .slice none 0 0, .slice none 0 0] := by
    rw [hW]
    simpa using Lies.new ((w.alloc (.cells #[.int .i64 x.kind, .int .i64 x.level, .int .i64 x.n, .string x.name, .slice Bx x.alts.length (capN x.alts.length bx), .slice Cx x.to.length (capN x.to.length cx)] 25)).alloc (.cells #[.int .i64 y.kind, .int .i64 y.level, .int .i64 y.n, .string y.name, .slice By y.alts.length (capN y.alts.length by_), .slice Cy y.to.length (capN y.to.length cy)] 25)) 29 #[.int .i64 0, .bool false, .int .i64 0, .int .i64 0, .int .i64 0, .int .i64 0, .int .i64 0, .string ⟨#[]⟩, .slice none 0 0, .slice none 0 0]
  obtain ⟨x0, x1, x2, x3, x4, x5⟩ := six_cells L0
  replace x0 := Abv.cell x0
  replace x1 := Abv.cell x1
  replace x2 := Abv.cell x2
  replace x3 := Abv.cell x3
  replace x4 := Abv.cell x4
  replace x5 := Abv.cell x5
  obtain ⟨y0, y1, y2, y3, y4, y5⟩ := six_cells L1
  replace y0 := Abv.cell y0
  replace y1 := Abv.cell y1
  replace y2 := Abv.cell y2
  replace y3 := Abv.cell y3
  replace y4 := Abv.cell y4
  replace y5 := Abv.cell y5
  obtain ⟨r0, r1, r2, r3, r4, r5, r6, r7, r8, r9⟩ := ten_cells L2
  replace r0 := Abv.cell r0
  replace r1 := Abv.cell r1
  replace r2 := Abv.cell r2
  replace r3 := Abv.cell r3
  replace r4 := Abv.cell r4
  replace r5 := Abv.cell r5
  replace r6 := Abv.cell r6
  replace r7 := Abv.cell r7
  replace r8 := Abv.cell r8
  replace r9 := Abv.cell r9
  have HR := Lib.hid L2
  obtain ⟨f0, f1, f2, f3, f4, f5, f6, f7, f8, f9⟩ := ten_frozen L2
  replace f0 := Abv.unfrozen L2.lt f0
  replace f1 := Abv.unfrozen L2.lt f1
  replace f2 := Abv.unfrozen L2.lt f2
  replace f3 := Abv.unfrozen L2.lt f3
  replace f4 := Abv.unfrozen L2.lt f4
  replace f5 := Abv.unfrozen L2.lt f5
  replace f6 := Abv.unfrozen L2.lt f6
  replace f7 := Abv.unfrozen L2.lt f7
  replace f8 := Abv.unfrozen L2.lt f8
  replace f9 := Abv.unfrozen L2.lt f9
  have HB := Lib.hid hbW
  have HY3 := Lib.hid (show W.cell? ⟨w.heap.size + 1, 3, none⟩ = some (.string y.name) from L1.cell 3)
  clear L0 L1 L2 hbW
  have HAI := Lib.hid (altI_cases y.name ((y.to.length : Int) - 1) x.alts)
  obtain ⟨I, hIq⟩ : ∃ I, I = altI y.name ((y.to.length : Int) - 1) x.alts := ⟨_, rfl⟩
  have HC : Hid (∀ U, Below W.heap.size W U → U.cell? ⟨W.heap.size, 0, none⟩ = some (.int .i64 ((y.to.length : Int) - 1)) → Calls Try.prog 48 #[.slice Bx x.alts.length (capN x.alts.length bx), .func (.func 47) #[] #[.pointer (some ⟨w.heap.size + 1, 0, none⟩), .pointer (some ⟨W.heap.size, 0, none⟩)]] U fun e w' => e = .returned (.int .i64 I) ∧ Below U.heap.size U w') := Lib.hid fun U hU h1 => by
    rw [hIq]
    exact ruindex_any y.name _ (w.heap.size + 1) W.heap.size x.alts Bx _ _ U rfl hI.1.2.1 ((hI.2.1.below HB.out (Nat.le_refl _)).below hU (Nat.le_refl _)) ((hU.cell (p := ⟨w.heap.size + 1, 3, none⟩) (ncell_lt HY3.out)).trans HY3.out) h1
  rw [← hIq] at HAI
  have HE : Hid (pickV x y = match altAt y.name ((y.to.length : Int) - 1) x.alts with | some i => ⟨2, false, 0, i, Nd.zero⟩ | none => Pl.one 5) := Lib.hid rfl
  have hl := hJ.1.2.2
  have hmk : ∀ w0, (Instr.makeFunc (.func 47) #[] #[.pointer (some ⟨w.heap.size + 1, 0, none⟩), .pointer (some ⟨W.heap.size, 0, none⟩)]).run Try.prog w0 = .ok (.func (.func 47) #[] #[.pointer (some ⟨w.heap.size + 1, 0, none⟩), .pointer (some ⟨W.heap.size, 0, none⟩)]) w0 := fun _ => rfl
  obtain ⟨V0, hV0⟩ := calm_in W
  replace x4 := x4 V0
  replace y5 := y5 V0
  rw [hV0] at x4 y5
  clear hV0 V0 hIq
  have HXL := Lib.hid (hI.1.2.1)
  clear hI hJ
  clear x0 x1 x2 x3 x5 y0 y1 y2 y3 y4 r0 r1 r2 r3 r4 r5 r6 r7 r8 r9 f0 f1 f2 f3 f4 f5 f6 f7 f8 f9 HY3
  go_enter Try.func41, Try.ntmps41
  go_upto_region 1 with fail
  rw [← hW]
  clear hW
  go_upto_region 2 with fail
  obtain ⟨U1, hU1⟩ : ∃ U1, U1 = W.alloc (.cells #[.int .i64 ((y.to.length : Int) - 1)] 3) := ⟨_, rfl⟩
  have hb1 : Below W.heap.size W U1 := by rw [hU1]; exact (Below.refl _ W).alloc (Nat.le_refl _) _
  have hq1 : U1.cell? ⟨W.heap.size, 0, none⟩ = some (.int .i64 ((y.to.length : Int) - 1)) := by rw [hU1]; exact (Lies.new W 3 #[.int .i64 ((y.to.length : Int) - 1)]).cell 0
  have z4 := (hb1.cell (p := ⟨w.heap.size, 4, none⟩) (ncell_lt x4)).trans x4
  have HD := Lib.hid (HC.out U1 hb1 hq1)
  have HB1 := Lib.hid (HB.out.trans (hb1.mono HB.out.size))
  have HR1 := Lib.hid (HR.out.below hb1 HR.out.lt)
  rw [← hU1]
  clear hU1 hb1 hq1 x4 y5 HC HR
  go_wp2_with fail
  refine HD.out.mono ?_
  rintro e w2 ⟨rfl, hb2⟩
  have lr := HR1.out.below hb2 HR1.out.lt
  obtain ⟨r0, r1, r2, r3, r4, r5, r6, r7, r8, r9⟩ := ten_cells lr
  obtain ⟨f0, f1, f2, f3, f4, f5, f6, f7, f8, f9⟩ := ten_frozen lr
  have HL := Lib.hid lr
  have HB2 := Lib.hid (HB1.out.trans (hb2.mono HB1.out.size))
  clear HD lr hb2 z4
  rcases HAI.out with ⟨h, hn⟩ | ⟨k, h, hn⟩
  · rw [h]
    rw [hn] at HE
    have HN := Lib.hid hn
    clear hn h HAI
    go_wp2_with fail
    refine bodyPost_ret (res_plan1 (p := 4) Try.results41 rfl (lies_put10 HL.out _ _ _ _ _ _ _ _ _ _)) rfl ?_
    rw [HE.out]
    exact ⟨none, 0, rfl, PlOk.one 5, put10_below HB2.out (by omega) _ _ _ _ _ _ _ _ _ _⟩
  · rw [h]
    rw [hn] at HE
    clear hn h HAI
    go_wp2_with fail
    refine bodyPost_ret (res_plan1 (p := 4) Try.results41 rfl (lies_put10 HL.out _ _ _ _ _ _ _ _ _ _)) rfl ?_
    rw [HE.out]
    exact ⟨none, 0, rfl, PlOk.leaf rfl, put10_below HB2.out (by omega) _ _ _ _ _ _ _ _ _ _⟩
end Lx
end Go.Proofs.Ytlamjjkcbadibaa
namespace Go.Proofs.Ytlamjjkcbadibaa
open Go Go.RowKit
namespace Lx
set_option maxRecDepth 100000
theorem info_partsR {P : Program} {e : TypeId} {z : Value} {s b : Nat} (h : (P.info? e).map (fun i => (i.zero, i.size, i.bytes)) = some (some z, s, b)) : ∃ i, P.info? e = some i ∧ i.zero = some z ∧ i.size = s ∧ i.bytes = b := by
  cases hi : P.info? e with
  | none => rw [hi] at h; cases h
  | some i => rw [hi] at h; simp only [Option.map_some, Option.some.injEq, Prod.mk.injEq] at h; exact ⟨i, rfl, h.1, h.2.1, h.2.2⟩
theorem infoPoR : (Try.prog.info? 55).map (fun i => (i.zero, i.size, i.bytes)) = some (some (.agg #[.int .i64 0, .int .i64 0]), 2, 16) := by kernel_rfl
theorem recV_con (s : ByteArray) (a b : Int) : (recV s a b).2.1 ≠ ⟨#[]⟩ → (recV s a b).1 = 0 := by
  unfold recV
  repeat' split
  all_goals simp
theorem recV_size (s : ByteArray) (a b : Int) : (recV s a b).2.1.size ≤ 5 := by
  unfold recV truthS
  repeat' split
  all_goals first | decide | (show (⟨#[]⟩ : ByteArray).size ≤ 5; decide)
set_option maxHeartbeats 8000000 in
theorem ruout_any (x y : Nd) (Bx Cx : Option Addr) (bx cx : Nat) (By Cy : Option Addr) (by_ cy : Nat) (w : World) :
    Calls Try.prog 42 #[.agg #[.int .i64 x.kind, .int .i64 x.level, .int .i64 x.n, .string x.name, .slice Bx x.alts.length (capN x.alts.length bx), .slice Cx x.to.length (capN x.to.length cx)], .agg #[.int .i64 y.kind, .int .i64 y.level, .int .i64 y.n, .string y.name, .slice By y.alts.length (capN y.alts.length by_), .slice Cy y.to.length (capN y.to.length cy)]] w (GivesPl1 (outV x y) w) := by
  obtain ⟨W, hW⟩ : ∃ W, W = (((w.alloc (.cells #[.int .i64 x.kind, .int .i64 x.level, .int .i64 x.n, .string x.name, .slice Bx x.alts.length (capN x.alts.length bx), .slice Cx x.to.length (capN x.to.length cx)] 25)).alloc (.cells #[.int .i64 y.kind, .int .i64 y.level, .int .i64 y.n, .string y.name, .slice By y.alts.length (capN y.alts.length by_), .slice Cy y.to.length (capN y.to.length cy)] 25)).alloc (.cells #[.int .i64 0, .bool false, .int .i64 0, .int .i64 0, .int .i64 0, .int .i64 0, .int .i64 0, .string ⟨#[]⟩, .slice none 0 0, .slice none 0 0] 29)) := ⟨_, rfl⟩
  have hbW : Below w.heap.size w W := by rw [hW]; exact ((((Below.refl _ w).alloc (Nat.le_refl _) _).alloc (by simp) _).alloc (by simp; omega) _)
  have L0 : Lies W (w.heap.size) 25 #[.int .i64 x.kind, .int .i64 x.level, .int .i64 x.n, .string x.name, .slice Bx x.alts.length (capN x.alts.length bx), .slice Cx x.to.length (capN x.to.length cx)] := by
    rw [hW]
    refine Lies.old ?_ _
    refine Lies.old ?_ _
    exact Lies.new _ _ _
  have L1 : Lies W (w.heap.size + 1) 25 #[.int .i64 y.kind, .int .i64 y.level, .int .i64 y.n, .string y.name, .slice By y.alts.length (capN y.alts.length by_), .slice Cy y.to.length (capN y.to.length cy)] := by
    rw [hW]
    refine Lies.old ?_ _
    simpa using Lies.new (w.alloc (.cells #[.int .i64 x.kind, .int .i64 x.level, .int .i64 x.n, .string x.name, .slice Bx x.alts.length (capN x.alts.length bx), .slice Cx x.to.length (capN x.to.length cx)] 25)) 25 #[.int .i64 y.kind, .int .i64 y.level, .int .i64 y.n, .string y.name, .slice By y.alts.length (capN y.alts.length by_), .slice Cy y.to.length (capN y.to.length cy)]
  have L2 : Lies W (w.heap.size + 1 + 1) 29 #[.int .i64 0, .bool false, .int .i64 0, .int .i64 0, .int .i64 0, .int .i64 0, .int .i64 0, .string ⟨#[]⟩, .slice none 0 0, .slice none 0 0] := by
    rw [hW]
    simpa using Lies.new ((w.alloc (.cells #[.int .i64 x.kind, .int .i64 x.level, .int .i64 x.n, .string x.name, .slice Bx x.alts.length (capN x.alts.length bx), .slice Cx x.to.length (capN x.to.length cx)] 25)).alloc (.cells #[.int .i64 y.kind, .int .i64 y.level, .int .i64 y.n, .string y.name, .slice By y.alts.length (capN y.alts.length by_), .slice Cy y.to.length (capN y.to.length cy)] 25)) 29 #[.int .i64 0, .bool false, .int .i64 0, .int .i64 0, .int .i64 0, .int .i64 0, .int .i64 0, .string ⟨#[]⟩, .slice none 0 0, .slice none 0 0]
  obtain ⟨x0, x1, x2, x3, x4, x5⟩ := six_cells L0
  replace x0 := Abv.cell x0
  replace x1 := Abv.cell x1
  replace x2 := Abv.cell x2
  replace x3 := Abv.cell x3
  replace x4 := Abv.cell x4
  replace x5 := Abv.cell x5
  obtain ⟨y0, y1, y2, y3, y4, y5⟩ := six_cells L1
  replace y0 := Abv.cell y0
  replace y1 := Abv.cell y1
  replace y2 := Abv.cell y2
  replace y3 := Abv.cell y3
  replace y4 := Abv.cell y4
  replace y5 := Abv.cell y5
  obtain ⟨r0, r1, r2, r3, r4, r5, r6, r7, r8, r9⟩ := ten_cells L2
  replace r0 := Abv.cell r0
  replace r1 := Abv.cell r1
  replace r2 := Abv.cell r2
  replace r3 := Abv.cell r3
  replace r4 := Abv.cell r4
  replace r5 := Abv.cell r5
  replace r6 := Abv.cell r6
  replace r7 := Abv.cell r7
  replace r8 := Abv.cell r8
  replace r9 := Abv.cell r9
  have HR := Lib.hid L2
  obtain ⟨f0, f1, f2, f3, f4, f5, f6, f7, f8, f9⟩ := ten_frozen L2
  replace f0 := Abv.unfrozen L2.lt f0
  replace f1 := Abv.unfrozen L2.lt f1
  replace f2 := Abv.unfrozen L2.lt f2
  replace f3 := Abv.unfrozen L2.lt f3
  replace f4 := Abv.unfrozen L2.lt f4
  replace f5 := Abv.unfrozen L2.lt f5
  replace f6 := Abv.unfrozen L2.lt f6
  replace f7 := Abv.unfrozen L2.lt f7
  replace f8 := Abv.unfrozen L2.lt f8
  replace f9 := Abv.unfrozen L2.lt f9
  have HB := Lib.hid hbW
  clear L0 L1 L2 hbW
  obtain ⟨i0, hi0, hz0, hz1, hz2⟩ := info_partsR infoPoR
  have hmk : ∀ U : World, (Instr.makeSlice 23 (.int .i64 1) (.int .i64 1)).run Try.prog U = .ok (.slice (some ⟨U.heap.size, 0, none⟩) 1 1) (U.alloc (.cells #[.int .i64 0, .int .i64 0] 55)) := fun U => by
    have h := run_make (P := Try.prog) U 23 55 i0 (.agg #[.int .i64 0, .int .i64 0]) Try.underlying23 hi0 hz0 .i64 .i64 ((1 : Nat) : Int) ((1 : Nat) : Int) (by omega) (by omega) (by rw [hz2]; omega) (by omega)
    rw [hz1, show (Value.agg #[.int .i64 0, .int .i64 0]).cells = #[.int .i64 0, .int .i64 0] from rfl] at h
    have h' : madeCells #[.int .i64 0, .int .i64 0] 2 = #[.int .i64 0, .int .i64 0] := by kernel_rfl
    simpa [h'] using h
  have HC : Hid (∀ U, Calls Try.prog 49 #[.string x.name, .int .i64 x.n, .int .i64 y.n] U fun e w' => e = .returned (v3 (recV x.name x.n y.n)) ∧ U = w') := Lib.hid fun U => rurec_any _ _ _ U
  have HK := Lib.hid (recV_con x.name x.n y.n)
  have HZ := Lib.hid (recV_size x.name x.n y.n)
  have HE : Hid (outV x y = if (recV x.name x.n y.n).2.2 = true then ⟨4, false, 0, 0, ⟨if (recV x.name x.n y.n).2.1 = ⟨#[]⟩ then 10 else 8, x.level, (recV x.name x.n y.n).1, (recV x.name x.n y.n).2.1, [], [(0, 0)]⟩⟩ else Pl.one 5) := Lib.hid rfl
  obtain ⟨R, hR⟩ : ∃ R, R = recV x.name x.n y.n := ⟨_, rfl⟩
  rw [← hR] at HC HK HE HZ
  obtain ⟨PP, hPP⟩ : ∃ q, q = outV x y := ⟨_, rfl⟩
  rw [← hPP] at HE ⊢
  clear hR hPP hi0 hz0 hz1 hz2
  obtain ⟨rn, rs, rb⟩ := R
  unfold v3 at HC
  simp only at HC HK HE HZ
  clear y0 y1 y3 y4 y5
  go_enter Try.func42, Try.ntmps42
  go_upto_region 1 with fail
  rw [← hW]
  clear hW
  obtain ⟨V0, hV0⟩ := calm_in W
  rw [← hV0]
  clear hV0
  go_wp2_with fail
  refine (HC.out _).mono ?_
  rintro e _ ⟨rfl, rfl⟩
  cases rb with
  | false =>
    go_wp2_with fail
    refine bodyPost_ret (res_plan1 (p := 4) Try.results42 rfl (lies_put10 (HR.out.below V0.2 HR.out.lt) _ _ _ _ _ _ _ _ _ _)) rfl ?_
    rw [HE.out]
    exact ⟨none, 0, rfl, PlOk.one 5, put10_below (HB.out.trans (V0.2.mono HB.out.size)) (by omega) _ _ _ _ _ _ _ _ _ _⟩
  | true =>
    obtain ⟨W1, hW1⟩ : ∃ W1, W1 = V0.1 := ⟨_, rfl⟩
    have z1 := x1 V0
    have hb1 := HB.out.trans (V0.2.mono HB.out.size)
    have hr1 := HR.out.below V0.2 HR.out.lt
    rw [← hW1] at z1 hb1 hr1 ⊢
    have za : ∀ o, (W1.alloc o).cell? ⟨w.heap.size, 1, none⟩ = some (.int .i64 x.level) := fun o => (((Below.refl _ W1).alloc (Nat.le_refl _) o).cell (p := ⟨w.heap.size, 1, none⟩) (ncell_lt z1)).trans z1
    have zb : ∀ o o', ((W1.alloc o).alloc o').cell? ⟨w.heap.size, 1, none⟩ = some (.int .i64 x.level) := fun o o' => ((((Below.refl _ W1).alloc (Nat.le_refl _) o).alloc (by simp) o').cell (p := ⟨w.heap.size, 1, none⟩) (ncell_lt z1)).trans z1
    have HR1 := Lib.hid hr1
    have HB1 := Lib.hid hb1
    clear hW1 x0 x1 x2 x3 x4 x5 y2 r0 r1 r2 r3 r4 r5 r6 r7 r8 r9 f0 f1 f2 f3 f4 f5 f6 f7 f8 f9 HR HB HC hr1 hb1
    clear V0
    go_upto_region 4 with fail
    go_region
    · obtain ⟨U, hU⟩ : ∃ U, U = ((W1.alloc (.cells #[.int .i64 0, .int .i64 0] 55)).alloc (.cells #[.int .i64 10, .int .i64 x.level, .int .i64 rn, .string ⟨#[]⟩, .slice none 0 0, .slice (some ⟨W1.heap.size, 0, none⟩) 1 1] 25)).drew := ⟨_, rfl⟩
      have LS : Lies U (W1.heap.size) 55 #[.int .i64 0, .int .i64 0] := by rw [hU]; exact ((Lies.new _ _ _).old _).drew
      have LN : Lies U (W1.heap.size + 1) 25 #[.int .i64 10, .int .i64 x.level, .int .i64 rn, .string ⟨#[]⟩, .slice none 0 0, .slice (some ⟨W1.heap.size, 0, none⟩) 1 1] := by
        rw [hU]
        refine Lies.drew ?_
        simpa using Lies.new (W1.alloc (.cells #[.int .i64 0, .int .i64 0] 55)) 25 #[.int .i64 10, .int .i64 x.level, .int .i64 rn, .string ⟨#[]⟩, .slice none 0 0, .slice (some ⟨W1.heap.size, 0, none⟩) 1 1]
      have LR : Lies U (w.heap.size + 1 + 1) 29 #[.int .i64 0, .bool false, .int .i64 0, .int .i64 0, .int .i64 0, .int .i64 0, .int .i64 0, .string ⟨#[]⟩, .slice none 0 0, .slice none 0 0] := by rw [hU]; exact ((HR1.out.old _).old _).drew
      have hbU : Below w.heap.size w U := by rw [hU]; exact ((HB1.out.alloc HB1.out.size _).alloc (by have := HB1.out.size; simp; omega) _).drew
      have hs1 : w.heap.size + 1 + 1 < W1.heap.size := HR1.out.lt
      rw [← hU]
      clear hU za zb z1 HR1 HB1 hmk
      obtain ⟨gn, hgn⟩ : ∃ g, g = W1.heap.size + 1 := ⟨_, rfl⟩
      obtain ⟨gs, hgs⟩ : ∃ g, g = W1.heap.size := ⟨_, rfl⟩
      have hne : gn ≠ gs := by omega
      have hn1 : w.heap.size + 1 + 1 < gn := by omega
      have hn2 : w.heap.size + 1 + 1 < gs := by omega
      rw [← hgn, ← hgs] at LN
      rw [← hgs] at LS
      rw [← hgn, ← hgs]
      clear hgn hgs hs1 W1
      by_cases hrs : rs = ⟨#[]⟩
      · subst hrs
        rw [if_pos rfl] at HE
        obtain ⟨n0, n1, n2, n3, n4, n5⟩ := six_cells LN
        obtain ⟨r0, r1, r2, r3, r4, r5, r6, r7, r8, r9⟩ := ten_cells LR
        obtain ⟨f0, f1, f2, f3, f4, f5, f6, f7, f8, f9⟩ := ten_frozen LR
        have HL := Lib.hid LR
        have HS := Lib.hid LS
        have HB := Lib.hid hbU
        clear LR LS hbU LN
        go_wp2_with fail
        refine bodyPost_ret (res_plan1 (p := 4) Try.results42 rfl (lies_put10 HL.out _ _ _ _ _ _ _ _ _ _)) rfl ?_
        rw [HE.out]
        refine ⟨some ⟨gs, 0, none⟩, 1, rfl, ⟨rfl, ⟨by have := HZ.out; show (⟨#[]⟩ : ByteArray).size ≤ _; omega, by simp, by simp⟩, AltIn.nil, ?_⟩, put10_below HB.out (by omega) _ _ _ _ _ _ _ _ _ _⟩
        intro j hj
        obtain rfl : j = 0 := by simpa using hj
        have hk := put10_keep (w := U) (X := fun q => q = gs) (G := w.heap.size + 1 + 1) (by omega)
        refine ⟨gs, 0, ⟨rfl, by omega⟩, ?_, ?_⟩
        · exact (hk _ _ _ _ _ _ _ _ _ _ gs 0 rfl HS.out.lt).1.trans (HS.out.cell 0)
        · exact (hk _ _ _ _ _ _ _ _ _ _ gs 1 rfl HS.out.lt).1.trans (HS.out.cell 1)
      · have hrn := HK.out hrs
        subst hrn
        rw [if_neg hrs] at HE
        have hrs' : rs.toList.isEmpty = false := by rw [empty_dec, decide_eq_false hrs]
        obtain ⟨n0, n1, n2, n3, n4, n5⟩ := six_cells LN
        obtain ⟨e0, e1, e2, e3, e4, e5⟩ := six_frozen LN
        have HLN := Lib.hid LN
        have HLR := Lib.hid LR
        have HLS := Lib.hid LS
        have HHB := Lib.hid hbU
        have HQ := Lib.hid hrs
        clear LN LR LS hbU hrs
        go_upto_region 7 with fail
        obtain ⟨U2, hU2⟩ : ∃ U2, U2 = (U.setCell ⟨gn, 0, none⟩ (.int .i64 8)).setCell ⟨gn, 3, none⟩ (.string rs) := ⟨_, rfl⟩
        have LN : Lies U2 gn 25 #[.int .i64 8, .int .i64 x.level, .int .i64 0, .string rs, .slice none 0 0, .slice (some ⟨gs, 0, none⟩) 1 1] := by rw [hU2]; simpa using (HLN.out.put 0 (.int .i64 8)).put 3 (.string rs)
        have LR : Lies U2 (w.heap.size + 1 + 1) 29 #[.int .i64 0, .bool false, .int .i64 0, .int .i64 0, .int .i64 0, .int .i64 0, .int .i64 0, .string ⟨#[]⟩, .slice none 0 0, .slice none 0 0] := by rw [hU2]; exact (HLR.out.far (p := ⟨gn, 0, none⟩) (by show w.heap.size + 1 + 1 ≠ gn; omega) _).far (p := ⟨gn, 3, none⟩) (by show w.heap.size + 1 + 1 ≠ gn; omega) _
        have LS : Lies U2 gs 55 #[.int .i64 0, .int .i64 0] := by rw [hU2]; exact (HLS.out.far (p := ⟨gn, 0, none⟩) (by show gs ≠ gn; omega) _).far (p := ⟨gn, 3, none⟩) (by show gs ≠ gn; omega) _
        have hbU : Below w.heap.size w U2 := by rw [hU2]; exact (HHB.out.setCell (p := ⟨gn, 0, none⟩) (by show w.heap.size ≤ gn; omega) _).setCell (p := ⟨gn, 3, none⟩) (by show w.heap.size ≤ gn; omega) _
        rw [← hU2]
        clear hU2 n0 n1 n2 n3 n4 n5 e0 e1 e2 e3 e4 e5 HLN HLR HLS HHB
        obtain ⟨n0, n1, n2, n3, n4, n5⟩ := six_cells LN
        obtain ⟨r0, r1, r2, r3, r4, r5, r6, r7, r8, r9⟩ := ten_cells LR
        obtain ⟨f0, f1, f2, f3, f4, f5, f6, f7, f8, f9⟩ := ten_frozen LR
        have HL := Lib.hid LR
        have HS := Lib.hid LS
        have HB := Lib.hid hbU
        clear LR LS hbU LN
        go_wp2_with fail
        refine bodyPost_ret (res_plan1 (p := 4) Try.results42 rfl (lies_put10 HL.out _ _ _ _ _ _ _ _ _ _)) rfl ?_
        rw [HE.out]
        refine ⟨some ⟨gs, 0, none⟩, 1, rfl, ⟨rfl, ⟨by have := HZ.out; show (rs : ByteArray).size ≤ _; omega, by simp, by simp⟩, AltIn.nil, ?_⟩, put10_below HB.out (by omega) _ _ _ _ _ _ _ _ _ _⟩
        intro j hj
        obtain rfl : j = 0 := by simpa using hj
        have hk := put10_keep (w := U2) (X := fun q => q = gs) (G := w.heap.size + 1 + 1) (by omega)
        refine ⟨gs, 0, ⟨rfl, by omega⟩, ?_, ?_⟩
        · exact (hk _ _ _ _ _ _ _ _ _ _ gs 0 rfl HS.out.lt).1.trans (HS.out.cell 0)
        · exact (hk _ _ _ _ _ _ _ _ _ _ gs 1 rfl HS.out.lt).1.trans (HS.out.cell 1)
    · obtain ⟨U, hU⟩ : ∃ U, U = ((W1.alloc (.cells #[.int .i64 10, .int .i64 x.level, .int .i64 rn, .string ⟨#[]⟩, .slice none 0 0, .slice (some ⟨W1.heap.size + 1, 0, none⟩) 1 1] 25)).alloc (.cells #[.int .i64 0, .int .i64 0] 55)).drew := ⟨_, rfl⟩
      have LN : Lies U (W1.heap.size) 25 #[.int .i64 10, .int .i64 x.level, .int .i64 rn, .string ⟨#[]⟩, .slice none 0 0, .slice (some ⟨W1.heap.size + 1, 0, none⟩) 1 1] := by rw [hU]; exact ((Lies.new _ _ _).old _).drew
      have LS : Lies U (W1.heap.size + 1) 55 #[.int .i64 0, .int .i64 0] := by
        rw [hU]
        refine Lies.drew ?_
        simpa using Lies.new (W1.alloc (.cells #[.int .i64 10, .int .i64 x.level, .int .i64 rn, .string ⟨#[]⟩, .slice none 0 0, .slice (some ⟨W1.heap.size + 1, 0, none⟩) 1 1] 25)) 55 #[.int .i64 0, .int .i64 0]
      have LR : Lies U (w.heap.size + 1 + 1) 29 #[.int .i64 0, .bool false, .int .i64 0, .int .i64 0, .int .i64 0, .int .i64 0, .int .i64 0, .string ⟨#[]⟩, .slice none 0 0, .slice none 0 0] := by rw [hU]; exact ((HR1.out.old _).old _).drew
      have hbU : Below w.heap.size w U := by rw [hU]; exact ((HB1.out.alloc HB1.out.size _).alloc (by have := HB1.out.size; simp; omega) _).drew
      have hs1 : w.heap.size + 1 + 1 < W1.heap.size := HR1.out.lt
      rw [← hU]
      clear hU za zb z1 HR1 HB1 hmk
      obtain ⟨gn, hgn⟩ : ∃ g, g = W1.heap.size := ⟨_, rfl⟩
      obtain ⟨gs, hgs⟩ : ∃ g, g = W1.heap.size + 1 := ⟨_, rfl⟩
      have hne : gn ≠ gs := by omega
      have hn1 : w.heap.size + 1 + 1 < gn := by omega
      have hn2 : w.heap.size + 1 + 1 < gs := by omega
      rw [← hgs, ← hgn] at LN
      rw [← hgs] at LS
      rw [← hgs, ← hgn]
      clear hgn hgs hs1 W1
      by_cases hrs : rs = ⟨#[]⟩
      · subst hrs
        rw [if_pos rfl] at HE
        obtain ⟨n0, n1, n2, n3, n4, n5⟩ := six_cells LN
        obtain ⟨r0, r1, r2, r3, r4, r5, r6, r7, r8, r9⟩ := ten_cells LR
        obtain ⟨f0, f1, f2, f3, f4, f5, f6, f7, f8, f9⟩ := ten_frozen LR
        have HL := Lib.hid LR
        have HS := Lib.hid LS
        have HB := Lib.hid hbU
        clear LR LS hbU LN
        go_wp2_with fail
        refine bodyPost_ret (res_plan1 (p := 4) Try.results42 rfl (lies_put10 HL.out _ _ _ _ _ _ _ _ _ _)) rfl ?_
        rw [HE.out]
        refine ⟨some ⟨gs, 0, none⟩, 1, rfl, ⟨rfl, ⟨by have := HZ.out; show (⟨#[]⟩ : ByteArray).size ≤ _; omega, by simp, by simp⟩, AltIn.nil, ?_⟩, put10_below HB.out (by omega) _ _ _ _ _ _ _ _ _ _⟩
        intro j hj
        obtain rfl : j = 0 := by simpa using hj
        have hk := put10_keep (w := U) (X := fun q => q = gs) (G := w.heap.size + 1 + 1) (by omega)
        refine ⟨gs, 0, ⟨rfl, by omega⟩, ?_, ?_⟩
        · exact (hk _ _ _ _ _ _ _ _ _ _ gs 0 rfl HS.out.lt).1.trans (HS.out.cell 0)
        · exact (hk _ _ _ _ _ _ _ _ _ _ gs 1 rfl HS.out.lt).1.trans (HS.out.cell 1)
      · have hrn := HK.out hrs
        subst hrn
        rw [if_neg hrs] at HE
        have hrs' : rs.toList.isEmpty = false := by rw [empty_dec, decide_eq_false hrs]
        obtain ⟨n0, n1, n2, n3, n4, n5⟩ := six_cells LN
        obtain ⟨e0, e1, e2, e3, e4, e5⟩ := six_frozen LN
        have HLN := Lib.hid LN
        have HLR := Lib.hid LR
        have HLS := Lib.hid LS
        have HHB := Lib.hid hbU
        have HQ := Lib.hid hrs
        clear LN LR LS hbU hrs
        go_upto_region 7 with fail
        obtain ⟨U2, hU2⟩ : ∃ U2, U2 = (U.setCell ⟨gn, 0, none⟩ (.int .i64 8)).setCell ⟨gn, 3, none⟩ (.string rs) := ⟨_, rfl⟩
        have LN : Lies U2 gn 25 #[.int .i64 8, .int .i64 x.level, .int .i64 0, .string rs, .slice none 0 0, .slice (some ⟨gs, 0, none⟩) 1 1] := by rw [hU2]; simpa using (HLN.out.put 0 (.int .i64 8)).put 3 (.string rs)
        have LR : Lies U2 (w.heap.size + 1 + 1) 29 #[.int .i64 0, .bool false, .int .i64 0, .int .i64 0, .int .i64 0, .int .i64 0, .int .i64 0, .string ⟨#[]⟩, .slice none 0 0, .slice none 0 0] := by rw [hU2]; exact (HLR.out.far (p := ⟨gn, 0, none⟩) (by show w.heap.size + 1 + 1 ≠ gn; omega) _).far (p := ⟨gn, 3, none⟩) (by show w.heap.size + 1 + 1 ≠ gn; omega) _
        have LS : Lies U2 gs 55 #[.int .i64 0, .int .i64 0] := by rw [hU2]; exact (HLS.out.far (p := ⟨gn, 0, none⟩) (by show gs ≠ gn; omega) _).far (p := ⟨gn, 3, none⟩) (by show gs ≠ gn; omega) _
        have hbU : Below w.heap.size w U2 := by rw [hU2]; exact (HHB.out.setCell (p := ⟨gn, 0, none⟩) (by show w.heap.size ≤ gn; omega) _).setCell (p := ⟨gn, 3, none⟩) (by show w.heap.size ≤ gn; omega) _
        rw [← hU2]
        clear hU2 n0 n1 n2 n3 n4 n5 e0 e1 e2 e3 e4 e5 HLN HLR HLS HHB
        obtain ⟨n0, n1, n2, n3, n4, n5⟩ := six_cells LN
        obtain ⟨r0, r1, r2, r3, r4, r5, r6, r7, r8, r9⟩ := ten_cells LR
        obtain ⟨f0, f1, f2, f3, f4, f5, f6, f7, f8, f9⟩ := ten_frozen LR
        have HL := Lib.hid LR
        have HS := Lib.hid LS
        have HB := Lib.hid hbU
        clear LR LS hbU LN
        go_wp2_with fail
        refine bodyPost_ret (res_plan1 (p := 4) Try.results42 rfl (lies_put10 HL.out _ _ _ _ _ _ _ _ _ _)) rfl ?_
        rw [HE.out]
        refine ⟨some ⟨gs, 0, none⟩, 1, rfl, ⟨rfl, ⟨by have := HZ.out; show (rs : ByteArray).size ≤ _; omega, by simp, by simp⟩, AltIn.nil, ?_⟩, put10_below HB.out (by omega) _ _ _ _ _ _ _ _ _ _⟩
        intro j hj
        obtain rfl : j = 0 := by simpa using hj
        have hk := put10_keep (w := U2) (X := fun q => q = gs) (G := w.heap.size + 1 + 1) (by omega)
        refine ⟨gs, 0, ⟨rfl, by omega⟩, ?_, ?_⟩
        · exact (hk _ _ _ _ _ _ _ _ _ _ gs 0 rfl HS.out.lt).1.trans (HS.out.cell 0)
        · exact (hk _ _ _ _ _ _ _ _ _ _ gs 1 rfl HS.out.lt).1.trans (HS.out.cell 1)
end Lx
end Go.Proofs.Ytlamjjkcbadibaa
