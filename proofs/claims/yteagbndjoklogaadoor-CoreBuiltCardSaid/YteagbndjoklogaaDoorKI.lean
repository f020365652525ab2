/-
  Texts that lie one behind the other: SameE WriteE0 WriteE1 WriteE.
-/
import Derived.Test.YteagbndjoklogaaDoorKH
import Derived.Test.YteagbndjoklogaaDoorK1
import Derived.Test.YteagbndjoklogaaDoorKA
namespace Go.Proofs.YteagbndjoklogaaDoor
open Go.RowKit
namespace Lx
set_option maxRecDepth 100000
theorem sameEL_far : ∀ (l l' : List Te), l.length ≠ l'.length → sameEL l l' = false := fun l l' h => by
  cases hq : sameEL l l'
  · rfl
  · exact absurd (sameEL_len l l' hq) h
set_option maxHeartbeats 2000000 in
theorem equal_any (l l' : List Te) (A A' : Option Addr) (m m' c c' : Nat) (w : World) (hm : m = l.length) (hm' : m' = l'.length) (hml : m ≤ 140737488351232) (hml' : m' ≤ 140737488351232) (hI : ELIn w Any l A 0) (hI' : ELIn w Any l' A' 0)
    (IH : ∀ (t t' : Te) (B B' : Option Addr) (b b' : Nat) (V : World), t ∈ l → EIn V Any t B → EIn V Any t' B' → Calls Tryd.prog 12 #[ev t B b, ev t' B' b'] V fun e w' => e = .returned (.bool (sameE t t')) ∧ Below V.heap.size V w') :
    Calls Tryd.prog 20 #[.slice A m c, .slice A' m' c', .func (.func 12) #[] #[]] w fun e w' => e = .returned (.bool (sameEL l l')) ∧ Below w.heap.size w w' := by
  by_cases hne : m = m'
  · subst hne
    have hm1 : m ≤ l.length := by omega
    have hm3 : l.length ≤ m := by omega
    have hm2 : m ≤ l'.length := by omega
    have hm4 : l'.length ≤ m := by omega
    have HI := Lib.hid hI
    have HI' := Lib.hid hI'
    have HIH := Lib.hid IH
    clear hm hm' hI hI' IH
    go_enter Tryd.func20, Tryd.ntmps20
    go_wp2_with fail
    go_loopw [17] (fun x wr => ∃ i : Nat, i ≤ m ∧ x = .int .i64 i ∧ Hid (sameEL l l' = sameEL (l.drop i) (l'.drop i)) ∧ Below w.heap.size w wr) (fun x _ => m - (intOf x).toNat)
    case atStart => exact ⟨0, by omega, rfl, by exact rfl, Below.refl _ _⟩
    case round =>
      obtain ⟨i, hi, rfl, HQ, hbw⟩ := hrel
      have hbs := hbw.size
      by_cases hlt : i < m
      · have hia : i < l.length := by omega
        have hib : i < l'.length := by omega
        obtain ⟨g, o, B, b, ⟨hA, _⟩, d0, d1, d2, d3, hIn⟩ := ELIn.at_ l (ELIn.below l HI.out hbw (Nat.le_refl _)) i hia
        obtain ⟨g', o', B', b', ⟨hA', _⟩, f0, f1, f2, f3, hIn'⟩ := ELIn.at_ l' (ELIn.below l' HI'.out hbw (Nat.le_refl _)) i hib
        subst hA hA'
        rw [Nat.zero_add] at d0 d1 d2 d3 f0 f1 f2 f3
        have hmem := List.getElem_mem hia
        have HS : Hid (sameEL (l.drop i) (l'.drop i) = (sameE (l[i]'hia) (l'[i]'hib) && sameEL (l.drop (i + 1)) (l'.drop (i + 1)))) := by
          show _ = _
          rw [List.drop_eq_getElem_cons hia, List.drop_eq_getElem_cons hib, sameEL]
        obtain ⟨tr, hu⟩ : ∃ tr, tr = l[i]'hia := ⟨_, rfl⟩
        obtain ⟨tr', hu'⟩ : ∃ tr, tr = l'[i]'hib := ⟨_, rfl⟩
        rw [← hu] at d0 d1 d2 d3 hIn HS hmem
        rw [← hu'] at f0 f1 f2 f3 hIn' HS
        clear hu hu'
        obtain ⟨tk, tn, ts, tl⟩ := tr
        obtain ⟨tk', tn', ts', tl'⟩ := tr'
        simp only [Te.kind, Te.n, Te.name, Te.parts] at d0 d1 d2 d3 f0 f1 f2 f3
        have hb1 : Below wr.heap.size wr (wr.alloc (.cells #[.int .i64 tk, .int .i64 tn, .string ts, .slice B tl.length (capF tl.length b)] 24)) := (Below.refl _ wr).alloc (Nat.le_refl _) _
        have hb2 : Below wr.heap.size wr ((wr.alloc (.cells #[.int .i64 tk, .int .i64 tn, .string ts, .slice B tl.length (capF tl.length b)] 24)).alloc (.cells #[.int .i64 tk', .int .i64 tn', .string ts', .slice B' tl'.length (capF tl'.length b')] 24)) := hb1.alloc (by simp) _
        have hlt' := cell_lt f0
        rw [← hb1.cell (p := ⟨g', o' + i * 4, none⟩) hlt'] at f0
        rw [← hb1.cell (p := ⟨g', o' + i * 4 + 1, none⟩) hlt'] at f1
        rw [← hb1.cell (p := ⟨g', o' + i * 4 + 2, none⟩) hlt'] at f2
        rw [← hb1.cell (p := ⟨g', o' + i * 4 + 3, none⟩) hlt'] at f3
        have HC := Lib.hid (HIH.out (.node tk tn ts tl) (.node tk' tn' ts' tl') B B' b b' _ hmem (EIn.below _ hIn hb2 (Nat.le_refl _)) (EIn.below _ hIn' hb2 (Nat.le_refl _)))
        have HB2 := Lib.hid hb2
        clear hb1 hb2 hIn hIn' hmem
        cases hq : sameE (.node tk tn ts tl) (.node tk' tn' ts' tl')
        · rw [hq] at HC HS
          clear hq
          go_wp2_with fail
          refine HC.out.mono ?_
          rintro e w2 ⟨rfl, hb2⟩
          go_wp2_with fail
          go_ret
          exact ⟨ret_bool (by rw [HQ.out, HS.out]; rfl), hbw.trans ((HB2.out.trans (hb2.mono HB2.out.size)).mono hbs)⟩
        · rw [hq] at HC HS
          clear hq
          go_wp2_with fail
          refine HC.out.mono ?_
          rintro e w2 ⟨rfl, hb2⟩
          go_wp2_with fail
          go_roundw
          case rel =>
            refine ⟨i + 1, by omega, by go_num, ?_, hbw.trans ((HB2.out.trans (hb2.mono HB2.out.size)).mono hbs)⟩
            show _ = _
            rw [HQ.out, HS.out]; rfl
          case measure => simp [intOf]; omega
      · go_wp2_with fail
        go_ret
        exact ⟨ret_bool (by rw [HQ.out, List.drop_eq_nil_of_le (by omega), List.drop_eq_nil_of_le (by omega), sameEL]), hbw⟩
  · have HF := Lib.hid (sameEL_far l l' (by omega))
    have hn : ((m : Int) != (m' : Int)) = true := by simp; omega
    clear hm hm' hI hI' IH
    go_enter Tryd.func20, Tryd.ntmps20
    go_wp2_with fail
    go_ret
    exact ⟨ret_bool HF.out.symm, Below.refl _ _⟩

set_option maxHeartbeats 2000000 in
theorem esame_any (d : Nat) : ∀ (t t' : Te) (A A' : Option Addr) (c c' : Nat) (w : World), depthE t ≤ d → EIn w Any t A → EIn w Any t' A' →
    Calls Tryd.prog 12 #[ev t A c, ev t' A' c'] w fun e w' => e = .returned (.bool (sameE t t')) ∧ Below w.heap.size w w' := by
  induction d with
  | zero => intro t _ A _ c _ w h; have := depthE_pos t; omega
  | succ d ih =>
    intro t t' A A' c c' w hd hI hI'
    obtain ⟨k, n, s, l⟩ := t
    obtain ⟨k', n', s', l'⟩ := t'
    have hdL : depthEL l ≤ d := by rw [depthE] at hd; omega
    rw [EIn] at hI hI'
    obtain ⟨_, hml, hL⟩ := hI
    obtain ⟨_, hml', hL'⟩ := hI'
    show Calls Tryd.prog 12 #[.agg #[.int .i64 k, .int .i64 n, .string s, .slice A l.length (capF l.length c)], .agg #[.int .i64 k', .int .i64 n', .string s', .slice A' l'.length (capF l'.length c')]] w _
    generalize capF l.length c = c
    generalize capF l'.length c' = c'
    have hb : Below w.heap.size w ((w.alloc (.cells #[.int .i64 k, .int .i64 n, .string s, .slice A l.length c] 24)).alloc (.cells #[.int .i64 k', .int .i64 n', .string s', .slice A' l'.length c'] 24)) :=
      ((Below.refl _ w).alloc (Nat.le_refl _) _).alloc (by simp) _
    have HC := Lib.hid (equal_any l l' A A' l.length l'.length c c' _ rfl rfl hml hml' (ELIn.below l hL hb (Nat.le_refl _)) (ELIn.below l' hL' hb (Nat.le_refl _))
      fun u u' B B' b b' V hu h1 h2 => ih u u' B B' b b' V (by have := depthEL_mem l u hu; omega) h1 h2)
    have HB := Lib.hid hb
    have HE : Hid (sameE (.node k n s l) (.node k' n' s' l') = (decide (k = k') && (decide (n = n') && (decide (s = s') && sameEL l l')))) := by
      show _ = _
      rw [sameE]
    obtain ⟨V, hV⟩ : ∃ V, V = sameEL l l' := ⟨_, rfl⟩
    rw [← hV] at HE HC
    obtain ⟨U, hU⟩ : ∃ U, U = sameE (.node k n s l) (.node k' n' s' l') := ⟨_, rfl⟩
    rw [← hU] at HE ⊢
    obtain ⟨m, hm⟩ : ∃ m, m = l.length := ⟨_, rfl⟩
    obtain ⟨m', hm'⟩ : ∃ m, m = l'.length := ⟨_, rfl⟩
    rw [← hm] at HC HB ⊢
    rw [← hm'] at HC HB ⊢
    clear hV hU hL hL' hml hml' hdL ih hb hd hm hm'
    by_cases hk : k = k'
    · by_cases hn : n = n'
      · by_cases hs : s = s'
        · subst hk hn hs
          simp only [decide_true, Bool.true_and] at HE
          go_enter Tryd.func12, Tryd.ntmps12
          go_wp2_with fail
          refine HC.out.mono ?_
          rintro e w2 ⟨rfl, hb2⟩
          go_wp2_with fail
          go_ret
          exact ⟨ret_bool HE.out.symm, HB.out.trans (hb2.mono HB.out.size)⟩
        · have hs' := str_ne hs
          have HF : Hid (U = false) := by
            show _ = _
            rw [HE.out]; simp [hs]
          subst hk hn
          clear hs HC HE
          go_enter Tryd.func12, Tryd.ntmps12
          go_wp2_with fail
          go_ret
          exact ⟨ret_bool HF.out.symm, HB.out⟩
      · have HF : Hid (U = false) := by
          show _ = _
          rw [HE.out]; simp [hn]
        subst hk
        clear HC HE
        go_enter Tryd.func12, Tryd.ntmps12
        go_wp2_with fail
        go_ret
        exact ⟨ret_bool HF.out.symm, HB.out⟩
    · have HF : Hid (U = false) := by
        show _ = _
        rw [HE.out]; simp [hk]
      clear HC HE
      go_enter Tryd.func12, Tryd.ntmps12
      go_wp2_with fail
      go_ret
      exact ⟨ret_bool HF.out.symm, HB.out⟩
end Lx
end Go.Proofs.YteagbndjoklogaaDoor
namespace Go.Proofs.YteagbndjoklogaaDoor
open Go.RowKit Go.Sort
namespace Lx
set_option maxRecDepth 100000
/-- What a writer does: it writes x. -/
def WEo (B b : Nat) (l x : List UInt8) (w : World) (e : Ending) (w' : World) : Prop := e = .returned (.tuple #[]) ∧ Bld B b (l ++ x) w' ∧ Below B w w' ∧ Lib.OthersKept 5 (some b) w w'
theorem egrow_ind (p : World → Prop) (h : ∀ w o, p w → p (w.alloc o)) : ∀ (l : List Obj) (w : World), p w → p (grow w ⟨l⟩)
  | [], w, hw => by
    have e : grow w ⟨[]⟩ = w := by
      show ({ w with heap := w.heap ++ (⟨[]⟩ : Array Obj) } : World) = w
      have : w.heap ++ (⟨[]⟩ : Array Obj) = w.heap := by simp
      rw [this]
    rw [e]
    exact hw
  | o :: r, w, hw => by
    have e : grow w ⟨o :: r⟩ = grow (w.alloc o) ⟨r⟩ := by
      show ({ w with heap := w.heap ++ (⟨o :: r⟩ : Array Obj) } : World) = { w with heap := (w.heap.push o) ++ (⟨r⟩ : Array Obj) }
      have : w.heap ++ (⟨o :: r⟩ : Array Obj) = (w.heap.push o) ++ (⟨r⟩ : Array Obj) := by
        apply Array.ext'
        simp
      rw [this]
    rw [e]
    exact egrow_ind p h r _ (h w o hw)
theorem eafter_grow {B b : Nat} {l : List UInt8} {W : World} (hB : Bld B b l W) (hs : B ≤ W.heap.size) (k : Nat) (os : Array Obj) :
    Bld B b l (grow (W.drewN k) os) ∧ Below B W (grow (W.drewN k) os) ∧ Lib.OthersKept 5 (some b) W (grow (W.drewN k) os) := by
  obtain ⟨os⟩ := os
  have key := egrow_ind (fun W' => Bld B b l W' ∧ Below B W W' ∧ Lib.OthersKept 5 (some b) W W') (fun W' o h => ⟨bld_alloc h.1 o, h.2.1.alloc (by have := h.2.1.size; omega) o, h.2.2.alloc o⟩) os (W.drewN k) ⟨hB, ⟨rfl, rfl, rfl, Nat.le_refl _, fun _ _ => rfl⟩, Lib.OthersKept.refl _ _ W⟩
  exact key
theorem etab_iv {W0 : World} (h : Lib.TabIs Tryd.prog W0 "internal/strconv.uint64pow10" .u64 Lib.pow10Tab) : ∀ W, Below W0.heap.size W0 W → Lib.TabIs Tryd.prog W "internal/strconv.uint64pow10" .u64 Lib.pow10Tab := fun W hb => by
  unfold Lib.TabIs World.var? at *
  cases hg : Tryd.prog.globalNamed "internal/strconv.uint64pow10" with
  | none => simp [hg] at h
  | some g =>
    simp only [hg, Option.bind_some] at h ⊢
    have hlt : g < W0.heap.size := by
      by_cases hlt : g < W0.heap.size
      · exact hlt
      · simp [Array.getElem?_eq_none (Nat.le_of_not_lt hlt)] at h
    rw [hb.block g hlt]
    exact h
/-- The digits of a number, and the builder behind them. -/
theorem eitoa_any (B b : Nat) (l : List UInt8) (n : Int) (w : World) (h0 : -9223372036854775808 ≤ n) (h1 : n ≤ 9223372036854775807) (htab : Lib.TabIs Tryd.prog w "internal/strconv.uint64pow10" .u64 Lib.pow10Tab) (hB : Bld B b l w) (hs : B ≤ w.heap.size) :
    Calls Tryd.prog 28 #[.int .i64 n] w fun e w' => e = .returned (.string ⟨(Lib.itoa n).toArray⟩) ∧ Bld B b l w' ∧ Below B w w' ∧ Lib.OthersKept 5 (some b) w w' :=
  (Tryd.strconv_Itoa n h0 h1 w htab).mono fun e w' ⟨he, k, os, hw⟩ => ⟨he, by rw [hw]; exact eafter_grow hB hs k os⟩
theorem mk_listE (s : ByteArray) : (⟨s.data.toList.toArray⟩ : ByteArray) = s := by cases s; simp
end Lx
end Go.Proofs.YteagbndjoklogaaDoor
namespace Go.Proofs.YteagbndjoklogaaDoor
open Go.RowKit Go.Sort
namespace Lx
set_option maxRecDepth 100000
theorem estr_any (B b : Nat) (l : List UInt8) (s : ByteArray) (w : World) (h : Bld B b l w) (hlen : l.length + s.data.toList.length ≤ 100000000) (hBw : B ≤ w.heap.size) :
    Calls Tryd.prog 27 #[.pointer (some ⟨b, 0, none⟩), .string s] w fun e w' => e = .returned (.tuple #[.int .i64 s.data.toList.length, .nilIface]) ∧ Bld B b (l ++ s.data.toList) w' ∧ Below B w w' ∧ Lib.OthersKept 5 (some b) w w' := by
  have := string_any B b l s.data.toList w h hlen hBw
  rw [mk_listE] at this
  exact this
section
variable (B b : Nat) (lx : List UInt8) (k n : Int) (s : ByteArray) (A : Option Addr) (m c : Nat) (W : World)
set_option maxHeartbeats 2000000 in
theorem eword_lit (z : UInt8) (hk : k = 2 ∧ z = 92 ∨ k = 3 ∧ z = 64 ∨ k = 5 ∧ z = 63) (hB : Bld B b lx W) (hBw : B ≤ W.heap.size) (hlen : lx.length + 1 ≤ 100000000) :
    Calls Tryd.prog 29 #[.pointer (some ⟨b, 0, none⟩), .agg #[.int .i64 k, .int .i64 n, .string s, .slice A m c]] W fun e w' => WEo B b lx [z] W e w' := by
  have hb0 : Below B W (W.alloc (.cells #[.int .i64 k, .int .i64 n, .string s, .slice A m c] 24)) := (Below.refl _ W).alloc hBw _
  have HW := Lib.hid (string_any B b lx [z] (W.alloc (.cells #[.int .i64 k, .int .i64 n, .string s, .slice A m c] 24)) (bld_alloc hB _) (by simpa using hlen) (Nat.le_trans hBw hb0.size))
  have HB := Lib.hid hb0
  have HK := Lib.hid ((Lib.OthersKept.refl 5 (some b) W).alloc (.cells #[.int .i64 k, .int .i64 n, .string s, .slice A m c] 24))
  clear hb0 hB
  rcases hk with ⟨rfl, rfl⟩ | ⟨rfl, rfl⟩ | ⟨rfl, rfl⟩
  all_goals
    go_enter Tryd.func29, Tryd.ntmps29
    go_wp2_with fail
    refine HW.out.mono ?_
    rintro e w2 ⟨rfl, hB2, hb2, hk2⟩
    go_wp2_with fail
    go_end0
    exact ⟨rfl, hB2, HB.out.trans hb2, HK.out.trans hk2⟩
set_option maxHeartbeats 2000000 in
theorem eword_name (hk : k = 4 ∨ k = 8) (hB : Bld B b lx W) (hBw : B ≤ W.heap.size) (hlen : lx.length + s.data.toList.length ≤ 100000000) :
    Calls Tryd.prog 29 #[.pointer (some ⟨b, 0, none⟩), .agg #[.int .i64 k, .int .i64 n, .string s, .slice A m c]] W fun e w' => WEo B b lx s.data.toList W e w' := by
  have hb0 : Below B W (W.alloc (.cells #[.int .i64 k, .int .i64 n, .string s, .slice A m c] 24)) := (Below.refl _ W).alloc hBw _
  have HW := Lib.hid (estr_any B b lx s (W.alloc (.cells #[.int .i64 k, .int .i64 n, .string s, .slice A m c] 24)) (bld_alloc hB _) hlen (Nat.le_trans hBw hb0.size))
  have HB := Lib.hid hb0
  have HK := Lib.hid ((Lib.OthersKept.refl 5 (some b) W).alloc (.cells #[.int .i64 k, .int .i64 n, .string s, .slice A m c] 24))
  clear hb0 hB hlen
  rcases hk with rfl | rfl
  all_goals
    go_enter Tryd.func29, Tryd.ntmps29
    go_wp2_with fail
    refine HW.out.mono ?_
    rintro e w2 ⟨rfl, hB2, hb2, hk2⟩
    go_wp2_with fail
    go_end0
    exact ⟨rfl, hB2, HB.out.trans hb2, HK.out.trans hk2⟩
set_option maxHeartbeats 2000000 in
theorem eword_none (hk : k ≠ 2 ∧ k ≠ 3 ∧ k ≠ 5 ∧ k ≠ 4 ∧ k ≠ 8 ∧ k ≠ 6) (hB : Bld B b lx W) (hBw : B ≤ W.heap.size) :
    Calls Tryd.prog 29 #[.pointer (some ⟨b, 0, none⟩), .agg #[.int .i64 k, .int .i64 n, .string s, .slice A m c]] W fun e w' => WEo B b lx [] W e w' := by
  have hb0 : Below B W (W.alloc (.cells #[.int .i64 k, .int .i64 n, .string s, .slice A m c] 24)) := (Below.refl _ W).alloc hBw _
  have HB := Lib.hid hb0
  have HB2 := Lib.hid (bld_alloc hB (.cells #[.int .i64 k, .int .i64 n, .string s, .slice A m c] 24))
  have HK := Lib.hid ((Lib.OthersKept.refl 5 (some b) W).alloc (.cells #[.int .i64 k, .int .i64 n, .string s, .slice A m c] 24))
  obtain ⟨k2, k3, k5, k4, k8, k6⟩ := hk
  have e2 : (k == 2) = false := by simpa using k2
  have e3 : (k == 3) = false := by simpa using k3
  have e5 : (k == 5) = false := by simpa using k5
  have e4 : (k == 4) = false := by simpa using k4
  have e8 : (k == 8) = false := by simpa using k8
  have e6 : (k == 6) = false := by simpa using k6
  clear hb0 hB k2 k3 k5 k4 k8 k6
  go_enter Tryd.func29, Tryd.ntmps29
  go_wp2_with fail
  go_end0
  exact ⟨rfl, by rw [List.append_nil]; exact HB2.out, HB.out, HK.out⟩
set_option maxHeartbeats 4000000 in
theorem eword_alt (hB : Bld B b lx W) (hBw : B ≤ W.heap.size) (hlen : lx.length + (s.data.toList ++ 58 :: Lib.itoa n).length ≤ 100000000) (hn0 : -9223372036854775808 ≤ n) (hn1 : n ≤ 9223372036854775807)
    (htab : ∀ V, Below B W V → Lib.TabIs Tryd.prog V "internal/strconv.uint64pow10" .u64 Lib.pow10Tab) :
    Calls Tryd.prog 29 #[.pointer (some ⟨b, 0, none⟩), .agg #[.int .i64 6, .int .i64 n, .string s, .slice A m c]] W fun e w' => WEo B b lx (s.data.toList ++ 58 :: Lib.itoa n) W e w' := by
  have hb0 : Below B W (W.alloc (.cells #[.int .i64 6, .int .i64 n, .string s, .slice A m c] 24)) := (Below.refl _ W).alloc hBw _
  have hl1 : lx.length + s.data.toList.length + 1 + (Lib.itoa n).length ≤ 100000000 := by simp at hlen ⊢; omega
  have HW := Lib.hid (estr_any B b lx s (W.alloc (.cells #[.int .i64 6, .int .i64 n, .string s, .slice A m c] 24)) (bld_alloc hB _) (by omega) (Nat.le_trans hBw hb0.size))
  have HB := Lib.hid hb0
  have HK := Lib.hid ((Lib.OthersKept.refl 5 (some b) W).alloc (.cells #[.int .i64 6, .int .i64 n, .string s, .slice A m c] 24))
  have hL := Lies.new W 24 #[.int .i64 6, .int .i64 n, .string s, .slice A m c]
  have hne : W.heap.size ≠ b := by have := bld_lt hB; omega
  have HT := Lib.hid htab
  clear hb0 hB hlen htab
  go_enter Tryd.func29, Tryd.ntmps29
  go_wp2_with fail
  refine HW.out.mono ?_
  rintro e w2 ⟨rfl, hB2, hb2, hk2⟩
  have HB2 := Lib.hid (HB.out.trans hb2)
  have HK2 := Lib.hid (HK.out.trans hk2)
  have hL2 := hL.others hk2 hne (by decide)
  have c1 := hL2.cell 1
  simp at c1
  have HW3 := Lib.hid (string_any B b _ [58] w2 hB2 (by simp at hl1 ⊢; omega) (Nat.le_trans hBw HB2.out.size))
  clear hB2 hb2 hk2 HW hL
  go_wp2_with fail
  refine HW3.out.mono ?_
  rintro e w3 ⟨rfl, hB3, hb3, hk3⟩
  have HB3 := Lib.hid (HB2.out.trans hb3)
  have HK3 := Lib.hid (HK2.out.trans hk3)
  have hL3 := hL2.others hk3 hne (by decide)
  have c1 := hL3.cell 1
  simp at c1
  have HW4 := Lib.hid (eitoa_any B b _ n w3 hn0 hn1 (HT.out _ HB3.out) hB3 (Nat.le_trans hBw HB3.out.size))
  clear hB3 hb3 hk3 HW3 hL2
  go_wp2_with fail
  refine HW4.out.mono ?_
  rintro e w4 ⟨rfl, hB4, hb4, hk4⟩
  have HB4 := Lib.hid (HB3.out.trans hb4)
  have HK4 := Lib.hid (HK3.out.trans hk4)
  have HW5 := Lib.hid (string_any B b _ (Lib.itoa n) w4 hB4 (by simp at hl1 ⊢; omega) (Nat.le_trans hBw HB4.out.size))
  clear hB4 hb4 hk4 HW4 hL3 c1
  go_wp2_with fail
  refine HW5.out.mono ?_
  rintro e w5 ⟨rfl, hB5, hb5, hk5⟩
  go_wp2_with fail
  go_end0
  refine ⟨rfl, ?_, HB4.out.trans hb5, HK4.out.trans hk5⟩
  simpa [List.append_assoc] using hB5
theorem eword_any (hB : Bld B b lx W) (hBw : B ≤ W.heap.size) (hlen : lx.length + (wordE k n s.data.toList).length ≤ 99999999) (hn0 : -9223372036854775808 ≤ n) (hn1 : n ≤ 9223372036854775807)
    (htab : ∀ V, Below B W V → Lib.TabIs Tryd.prog V "internal/strconv.uint64pow10" .u64 Lib.pow10Tab) :
    Calls Tryd.prog 29 #[.pointer (some ⟨b, 0, none⟩), .agg #[.int .i64 k, .int .i64 n, .string s, .slice A m c]] W fun e w' => WEo B b lx (wordE k n s.data.toList) W e w' := by
  have hl : lx.length + 1 ≤ 100000000 := by omega
  by_cases k2 : k = 2
  · subst k2; exact eword_lit B b lx 2 n s A m c W 92 (.inl ⟨rfl, rfl⟩) hB hBw hl
  by_cases k3 : k = 3
  · subst k3; exact eword_lit B b lx 3 n s A m c W 64 (.inr (.inl ⟨rfl, rfl⟩)) hB hBw hl
  by_cases k5 : k = 5
  · subst k5; exact eword_lit B b lx 5 n s A m c W 63 (.inr (.inr ⟨rfl, rfl⟩)) hB hBw hl
  by_cases k48 : k = 4 ∨ k = 8
  · have e : wordE k n s.data.toList = s.data.toList := by unfold wordE; rw [if_neg k2, if_neg k3, if_neg k5, if_pos k48]
    rw [e] at hlen ⊢
    exact eword_name B b lx k n s A m c W k48 hB hBw (by omega)
  by_cases k6 : k = 6
  · subst k6
    have e : wordE 6 n s.data.toList = s.data.toList ++ 58 :: Lib.itoa n := by simp [wordE]
    rw [e] at hlen ⊢
    exact eword_alt B b lx n s A m c W hB hBw (by omega) hn0 hn1 htab
  · have e : wordE k n s.data.toList = [] := by unfold wordE; rw [if_neg k2, if_neg k3, if_neg k5, if_neg k48, if_neg k6]
    rw [e]
    exact eword_none B b lx k n s A m c W ⟨k2, k3, k5, fun h => k48 (.inl h), fun h => k48 (.inr h), k6⟩ hB hBw
end
end Lx
end Go.Proofs.YteagbndjoklogaaDoor
namespace Go.Proofs.YteagbndjoklogaaDoor
open Go.RowKit Go.Sort
namespace Lx
set_option maxRecDepth 100000
/-- Terms whose memory stood in W0 are written into a builder that was made behind it. -/
def TermC (W0 : World) (b : Nat) (t : Te) (A : Option Addr) (c : Nat) : Prop :=
  ∀ (lx : List UInt8) (W : World), Below W0.heap.size W0 W → Bld W0.heap.size b lx W → lx.length + (textE t).length ≤ 99999990 →
    Calls Tryd.prog 18 #[.pointer (some ⟨b, 0, none⟩), ev t A c] W fun e w' => WEo W0.heap.size b lx (textE t) W e w'
set_option maxHeartbeats 4000000 in
theorem ewrite_int (B b : Nat) (lx : List UInt8) (k n : Int) (s : ByteArray) (A : Option Addr) (m c : Nat) (W : World) (hk : k = 1 ∨ k = 7) (hB : Bld B b lx W) (hBw : B ≤ W.heap.size) (hlen : lx.length + (atomE k n).length ≤ 99999999) (hn0 : -9223372036854775808 ≤ n) (hn1 : n ≤ 9223372036854775807)
    (htab : ∀ V, Below B W V → Lib.TabIs Tryd.prog V "internal/strconv.uint64pow10" .u64 Lib.pow10Tab) :
    Calls Tryd.prog 18 #[.pointer (some ⟨b, 0, none⟩), .agg #[.int .i64 k, .int .i64 n, .string s, .slice A m c]] W fun e w' => WEo B b lx (atomE k n) W e w' := by
  have hb0 : Below B W (W.alloc (.cells #[.int .i64 k, .int .i64 n, .string s, .slice A m c] 24)) := (Below.refl _ W).alloc hBw _
  have hK0 := (Lib.OthersKept.refl 5 (some b) W).alloc (.cells #[.int .i64 k, .int .i64 n, .string s, .slice A m c] 24)
  have hL := Lies.new W 24 #[.int .i64 k, .int .i64 n, .string s, .slice A m c]
  have hne : W.heap.size ≠ b := by have := bld_lt hB; omega
  have hB0 := bld_alloc hB (.cells #[.int .i64 k, .int .i64 n, .string s, .slice A m c] 24)
  have HT := Lib.hid htab
  have HB := Lib.hid hb0
  have HK := Lib.hid hK0
  clear htab hK0 hB
  rcases hk with rfl | rfl
  · have hl1 : lx.length + 1 + (Lib.itoa n).length ≤ 99999999 := by simp [atomE] at hlen ⊢; omega
    have HW := Lib.hid (string_any B b lx [35] _ hB0 (by simp; omega) (Nat.le_trans hBw hb0.size))
    have HA : Hid (atomE 1 n = [35] ++ Lib.itoa n) := by exact rfl
    clear hlen hb0 hB0
    go_enter Tryd.func18, Tryd.ntmps18
    go_wp2_with fail
    refine HW.out.mono ?_
    rintro e w2 ⟨rfl, hB2, hb2, hk2⟩
    have HB2 := Lib.hid (HB.out.trans hb2)
    have HK2 := Lib.hid (HK.out.trans hk2)
    have hL2 := hL.others hk2 hne (by decide)
    have c1 := hL2.cell 1
    simp at c1
    have HW3 := Lib.hid (eitoa_any B b _ n w2 hn0 hn1 (HT.out _ HB2.out) hB2 (Nat.le_trans hBw HB2.out.size))
    clear hB2 hb2 hk2 HW hL hL2
    go_wp2_with fail
    refine HW3.out.mono ?_
    rintro e w3 ⟨rfl, hB3, hb3, hk3⟩
    have HB3 := Lib.hid (HB2.out.trans hb3)
    have HK3 := Lib.hid (HK2.out.trans hk3)
    have HW4 := Lib.hid (string_any B b _ (Lib.itoa n) w3 hB3 (by simp at hl1 ⊢; omega) (Nat.le_trans hBw HB3.out.size))
    clear hB3 hb3 hk3 HW3 c1
    go_wp2_with fail
    refine HW4.out.mono ?_
    rintro e w4 ⟨rfl, hB4, hb4, hk4⟩
    go_wp2_with fail
    go_end0
    refine ⟨rfl, ?_, HB3.out.trans hb4, HK3.out.trans hk4⟩
    rw [HA.out, ← List.append_assoc]; exact hB4
  · have hl1 : lx.length + (Lib.itoa n).length ≤ 99999999 := by simp [atomE] at hlen ⊢; omega
    have HW := Lib.hid (eitoa_any B b lx n _ hn0 hn1 (HT.out _ hb0) hB0 (Nat.le_trans hBw hb0.size))
    have HA : Hid (atomE 7 n = Lib.itoa n) := by exact rfl
    clear hlen hb0 hB0
    go_enter Tryd.func18, Tryd.ntmps18
    go_wp2_with fail
    refine HW.out.mono ?_
    rintro e w3 ⟨rfl, hB3, hb3, hk3⟩
    have HB3 := Lib.hid (HB.out.trans hb3)
    have HK3 := Lib.hid (HK.out.trans hk3)
    have HW4 := Lib.hid (string_any B b _ (Lib.itoa n) w3 hB3 (by omega) (Nat.le_trans hBw HB3.out.size))
    clear hB3 hb3 hk3 HW
    go_wp2_with fail
    refine HW4.out.mono ?_
    rintro e w4 ⟨rfl, hB4, hb4, hk4⟩
    go_wp2_with fail
    go_end0
    refine ⟨rfl, ?_, HB3.out.trans hb4, HK3.out.trans hk4⟩
    rw [HA.out]; exact hB4
set_option maxHeartbeats 2000000 in
theorem ewrite_fail (B b : Nat) (lx : List UInt8) (n : Int) (s : ByteArray) (A : Option Addr) (m c : Nat) (W : World) (hB : Bld B b lx W) (hBw : B ≤ W.heap.size) (hlen : lx.length + 1 ≤ 99999999) :
    Calls Tryd.prog 18 #[.pointer (some ⟨b, 0, none⟩), .agg #[.int .i64 9, .int .i64 n, .string s, .slice A m c]] W fun e w' => WEo B b lx [33] W e w' := by
  have hb0 : Below B W (W.alloc (.cells #[.int .i64 9, .int .i64 n, .string s, .slice A m c] 24)) := (Below.refl _ W).alloc hBw _
  have HW := Lib.hid (string_any B b lx [33] (W.alloc (.cells #[.int .i64 9, .int .i64 n, .string s, .slice A m c] 24)) (bld_alloc hB _) (by simp; omega) (Nat.le_trans hBw hb0.size))
  have HB := Lib.hid hb0
  have HK := Lib.hid ((Lib.OthersKept.refl 5 (some b) W).alloc (.cells #[.int .i64 9, .int .i64 n, .string s, .slice A m c] 24))
  clear hb0 hB
  go_enter Tryd.func18, Tryd.ntmps18
  go_wp2_with fail
  refine HW.out.mono ?_
  rintro e w2 ⟨rfl, hB2, hb2, hk2⟩
  go_wp2_with fail
  go_end0
  exact ⟨rfl, hB2, HB.out.trans hb2, HK.out.trans hk2⟩
set_option maxHeartbeats 4000000 in
theorem ewrite_par (W0 : World) (b : Nat) (lx : List UInt8) (k n : Int) (s : ByteArray) (l : List Te) (A : Option Addr) (m c : Nat) (W : World) (hm : m = l.length) (hml : m ≤ 140737488351232) (hk : k ≠ 1 ∧ k ≠ 7 ∧ k ≠ 9) (hI : ELIn W0 Any l A 0) (hW : Below W0.heap.size W0 W) (hB : Bld W0.heap.size b lx W)
    (hn0 : -9223372036854775808 ≤ n) (hn1 : n ≤ 9223372036854775807) (htab : Lib.TabIs Tryd.prog W0 "internal/strconv.uint64pow10" .u64 Lib.pow10Tab)
    (hlen : lx.length + (40 :: (wordE k n s.data.toList ++ (textEL l ++ [41]))).length ≤ 99999990) (IH : ∀ t ∈ l, ∀ A' c', EIn W0 Any t A' → TermC W0 b t A' c') :
    Calls Tryd.prog 18 #[.pointer (some ⟨b, 0, none⟩), .agg #[.int .i64 k, .int .i64 n, .string s, .slice A m c]] W fun e w' => WEo W0.heap.size b lx (40 :: (wordE k n s.data.toList ++ (textEL l ++ [41]))) W e w' := by
  have hm1 : m ≤ l.length := by omega
  have hm3 : l.length ≤ m := by omega
  have hBw := hW.size
  have hb0 : Below W0.heap.size W (W.alloc (.cells #[.int .i64 k, .int .i64 n, .string s, .slice A m c] 24)) := (Below.refl _ W).alloc hBw _
  have hK0 := (Lib.OthersKept.refl 5 (some b) W).alloc (.cells #[.int .i64 k, .int .i64 n, .string s, .slice A m c] 24)
  have hL := Lies.new W 24 #[.int .i64 k, .int .i64 n, .string s, .slice A m c]
  have hne : W.heap.size ≠ b := by have := bld_lt hB; omega
  have hB0 := bld_alloc hB (.cells #[.int .i64 k, .int .i64 n, .string s, .slice A m c] 24)
  obtain ⟨Y, hY⟩ : ∃ Y, Y = wordE k n s.data.toList := ⟨_, rfl⟩
  have HTB := Lib.hid htab
  have HIH := Lib.hid IH
  have HI := Lib.hid hI
  have HM : Hid (∀ i, (textEL (l.take i)).length ≤ (textEL l).length) := Lib.hid (textEL_take l)
  obtain ⟨k1, k7, k9⟩ := hk
  have e1 : (k == 1) = false := by simpa using k1
  have e7 : (k == 7) = false := by simpa using k7
  have e9 : (k == 9) = false := by simpa using k9
  have hl2 : lx.length + 1 + Y.length + (textEL l).length + 1 ≤ 99999990 := by rw [hY]; simp at hlen ⊢; omega
  have HW1 := Lib.hid (string_any W0.heap.size b lx [40] _ hB0 (by simp; omega) (Nat.le_trans hBw hb0.size))
  have HB := Lib.hid (hW.trans hb0)
  have HBW := Lib.hid hb0
  have HK := Lib.hid hK0
  have HYY := Lib.hid hY
  rw [← hY]
  clear hm hlen htab IH hI k1 k7 k9 hb0 hK0 hB hB0 hY
  go_enter Tryd.func18, Tryd.ntmps18
  go_wp2_with fail
  refine HW1.out.mono ?_
  rintro e w2 ⟨rfl, hB2, hb2, hk2⟩
  have HB2 := Lib.hid (HB.out.trans hb2)
  have HBW2 := Lib.hid (HBW.out.trans hb2)
  have HK2 := Lib.hid (HK.out.trans hk2)
  have hL2 := hL.others hk2 hne (by decide)
  obtain ⟨c0, c1, c2, c3⟩ := hL2.four'
  have hw2 := eword_any W0.heap.size b _ k n s A m c w2 hB2 HB2.out.size (by rw [← HYY.out]; simp; omega) hn0 hn1 (fun V hV => etab_iv HTB.out V (HB2.out.trans hV))
  rw [← HYY.out] at hw2
  have HW2 := Lib.hid hw2
  clear hB2 hb2 hk2 HW1 hL hw2 HB HBW HK
  go_wp2_with fail
  refine HW2.out.mono ?_
  rintro e w3 ⟨rfl, hB3, hb3, hk3⟩
  have HB3 := Lib.hid (HB2.out.trans hb3)
  have HBW3 := Lib.hid (HBW2.out.trans hb3)
  have HK3 := Lib.hid (HK2.out.trans hk3)
  have hL3 := hL2.others hk3 hne (by decide)
  have d3 := hL3.cell 3
  simp at d3
  clear hb3 hk3 HW2 hL2 c0 c1 c2 c3 HB2 HBW2 HK2 hL3
  have hB3' : Bld W0.heap.size b (lx ++ [40] ++ Y ++ textEL (l.take 0)) w3 := by simpa [textEL] using hB3
  have HB3' := Lib.hid hB3'
  clear hB3 hB3'
  go_wp2_with fail
  go_loopw [16] (fun x wr => ∃ i : Nat, i ≤ m ∧ x = .int .i64 i ∧ Bld W0.heap.size b (lx ++ [40] ++ Y ++ textEL (l.take i)) wr ∧ Below W0.heap.size W0 wr ∧ Below W0.heap.size W wr ∧ Lib.OthersKept 5 (some b) W wr) (fun x _ => m - (intOf x).toNat)
  case atStart => exact ⟨0, by omega, rfl, HB3'.out, HB3.out, HBW3.out, HK3.out⟩
  case round =>
    obtain ⟨i, hi, rfl, hBr, hbr, hbW, hkW⟩ := hrel
    have hbs := hbr.size
    have hmi := HM.out i
    by_cases hlt : i < m
    · have hia : i < l.length := by omega
      obtain ⟨g, o, A', c', ⟨hA, _⟩, d0, d1, d2, d3', hIn⟩ := ELIn.at_ l HI.out i hia
      subst hA
      rw [Nat.zero_add] at d0 d1 d2 d3'
      have hglt := cell_lt d0
      rw [← hbr.cell (p := ⟨g, o + i * 4, none⟩) hglt] at d0
      rw [← hbr.cell (p := ⟨g, o + i * 4 + 1, none⟩) hglt] at d1
      rw [← hbr.cell (p := ⟨g, o + i * 4 + 2, none⟩) hglt] at d2
      rw [← hbr.cell (p := ⟨g, o + i * 4 + 3, none⟩) hglt] at d3'
      have hmem := List.getElem_mem hia
      have hmi2 := HM.out (i + 1)
      have hsn : textEL (l.take (i + 1)) = textEL (l.take i) ++ 32 :: textE (l[i]'hia) := by
        rw [List.take_succ_eq_append_getElem hia, textEL_snoc]
      rw [hsn] at hmi2
      have HC := HIH.out (l[i]'hia) hmem A' c' hIn
      have HS := Lib.hid hsn
      obtain ⟨tr, hu⟩ : ∃ tr, tr = l[i]'hia := ⟨_, rfl⟩
      rw [← hu] at d0 d1 d2 d3' HC HS hmi2
      clear hu hmem hIn hsn d3
      obtain ⟨tk, tn, ts, tl⟩ := tr
      have hT2 : lx.length + 1 + Y.length + ((textEL (l.take i)).length + ((textE (.node tk tn ts tl)).length + 1)) ≤ 99999989 := by simp at hmi2 ⊢; omega
      clear hmi2
      simp only [Te.kind, Te.n, Te.name, Te.parts] at d0 d1 d2 d3'
      obtain ⟨X, hX⟩ : ∃ X, X = textE (.node tk tn ts tl) := ⟨_, rfl⟩
      have hCC : ∀ (lx : List UInt8) (V : World), Below W0.heap.size W0 V → Bld W0.heap.size b lx V → lx.length + X.length ≤ 99999990 →
          Calls Tryd.prog 18 #[.pointer (some ⟨b, 0, none⟩), .agg #[.int .i64 tk, .int .i64 tn, .string ts, .slice A' tl.length (capF tl.length c')]] V fun e w' => WEo W0.heap.size b lx X V e w' := by
        rw [hX]; exact HC
      have HCC := Lib.hid hCC
      rw [← hX] at hT2 HS
      clear hX HC hCC
      have hLr := Lies.new wr 24 #[.int .i64 tk, .int .i64 tn, .string ts, .slice A' tl.length (capF tl.length c')]
      have hbr1 : Below W0.heap.size wr (wr.alloc (.cells #[.int .i64 tk, .int .i64 tn, .string ts, .slice A' tl.length (capF tl.length c')] 24)) := (Below.refl _ wr).alloc hbs _
      have hBr1 := bld_alloc hBr (.cells #[.int .i64 tk, .int .i64 tn, .string ts, .slice A' tl.length (capF tl.length c')] 24)
      have hner : wr.heap.size ≠ b := by have := bld_lt hBr; omega
      have HW5 := Lib.hid (string_any W0.heap.size b _ [32] _ hBr1 (by simp; omega) (Nat.le_trans hbs hbr1.size))
      have HBR := Lib.hid hbr1
      have HKR := Lib.hid ((Lib.OthersKept.refl 5 (some b) wr).alloc (.cells #[.int .i64 tk, .int .i64 tn, .string ts, .slice A' tl.length (capF tl.length c')] 24))
      clear hbr1 hBr1 hBr
      go_wp2_with fail
      refine HW5.out.mono ?_
      rintro e w5 ⟨rfl, hB5, hb5, hk5⟩
      have HB5 := Lib.hid (HBR.out.trans hb5)
      have HK5 := Lib.hid (HKR.out.trans hk5)
      obtain ⟨z0, z1, z2, z3⟩ := (hLr.others hk5 hner (by decide)).four'
      have HW6 := Lib.hid (HCC.out _ w5 (hbr.trans HB5.out) hB5 (by simp; omega))
      clear hB5 hb5 hk5 HW5 hLr HCC HBR HKR
      go_wp2_with fail
      refine HW6.out.mono ?_
      rintro e w6 ⟨rfl, hB6, hb6, hk6⟩
      have HB6 := Lib.hid (HB5.out.trans hb6)
      have HK6 := Lib.hid (HK5.out.trans hk6)
      go_wp2_with fail
      go_roundw
      case rel =>
        refine ⟨i + 1, by omega, by go_num, ?_, hbr.trans HB6.out, hbW.trans HB6.out, hkW.trans HK6.out⟩
        rw [HS.out]
        simpa [List.append_assoc] using hB6
      case measure => simp [intOf]; omega
    · have HW7 := Lib.hid (string_any W0.heap.size b _ [41] wr hBr (by simp; omega) hbs)
      have HTK := Lib.hid (List.take_of_length_le (l := l) (i := i) (by omega))
      have HBW := Lib.hid hbW
      have HKW := Lib.hid hkW
      clear hBr d3 hbW hkW
      go_wp2_with fail
      refine HW7.out.mono ?_
      rintro e w8 ⟨rfl, hB8, hb8, hk8⟩
      go_wp2_with fail
      go_end0
      refine ⟨rfl, ?_, HBW.out.trans hb8, HKW.out.trans hk8⟩
      rw [HTK.out] at hB8
      simpa [List.append_assoc] using hB8
theorem ewrite_any (W0 : World) (b : Nat) (htab : Lib.TabIs Tryd.prog W0 "internal/strconv.uint64pow10" .u64 Lib.pow10Tab) (d : Nat) : ∀ (t : Te), depthE t ≤ d → ∀ (A : Option Addr) (c : Nat), EIn W0 Any t A → TermC W0 b t A c := by
  induction d with
  | zero => intro t h; have := depthE_pos t; omega
  | succ d ih =>
    intro t hd A c hI lx W hW hB hlen
    obtain ⟨k, n, s, l⟩ := t
    have hdL : depthEL l ≤ d := by rw [depthE] at hd; omega
    rw [EIn] at hI
    obtain ⟨⟨_, hn0, hn1⟩, hml, hL⟩ := hI
    show Calls Tryd.prog 18 #[.pointer (some ⟨b, 0, none⟩), .agg #[.int .i64 k, .int .i64 n, .string s, .slice A l.length (capF l.length c)]] W _
    by_cases hk : k = 1 ∨ k = 7 ∨ k = 9
    · rw [atom_text hk] at hlen ⊢
      by_cases h17 : k = 1 ∨ k = 7
      · exact ewrite_int W0.heap.size b lx k n s A _ _ W h17 hB hW.size (by omega) hn0 hn1 (fun V hV => etab_iv htab V (hW.trans hV))
      · have h9 : k = 9 := by omega
        subst h9
        have e : atomE 9 n = [33] := rfl
        rw [e] at hlen ⊢
        exact ewrite_fail W0.heap.size b lx n s A _ _ W hB hW.size (by simp at hlen; omega)
    · have hk3 : k ≠ 1 ∧ k ≠ 7 ∧ k ≠ 9 := by omega
      rw [paren_text hk3.1 hk3.2.1 hk3.2.2] at hlen ⊢
      exact ewrite_par W0 b lx k n s l A _ _ W rfl hml hk3 hL hW hB hn0 hn1 htab hlen fun t ht A' c' hT => ih t (by have := depthEL_mem l t ht; omega) A' c' hT
theorem ebld_new (B : Nat) (w : World) (h : B ≤ w.heap.size) : Bld B w.heap.size [] (w.alloc (.cells #[.pointer none, .slice none 0 0] 41)) := by
  rcases Lib.fresh_isBuilder 41 5 w with h1 | h1
  · obtain ⟨hB, v, hbk, hown, hne⟩ := h1
    exact .inl ⟨Nat.le_trans h hB, v, hbk, Joins.ownsRow_le hown h, hne⟩
  · obtain ⟨hB, v, hbk, hown, hne⟩ := h1
    exact .inr ⟨Nat.le_trans h hB, v, hbk, Joins.ownsRow_le hown h, hne⟩
set_option maxHeartbeats 4000000 in
theorem etext_any (t : Te) (A : Option Addr) (c : Nat) (w : World) (hI : EIn w Any t A) (htab : Lib.TabIs Tryd.prog w "internal/strconv.uint64pow10" .u64 Lib.pow10Tab) (hlen : (textE t).length ≤ 99999990) :
    Calls Tryd.prog 11 #[ev t A c] w fun e w' => e = .returned (.string ⟨(textE t).toArray⟩) ∧ Below w.heap.size w w' := by
  have HC := ewrite_any w (w.heap.size + 1) htab (depthE t) t (Nat.le_refl _) A c hI
  obtain ⟨X, hX⟩ : ∃ X, X = textE t := ⟨_, rfl⟩
  unfold TermC at HC
  rw [← hX] at HC hlen ⊢
  clear hX hI htab
  obtain ⟨k, n, s, l⟩ := t
  have hb1 : Below w.heap.size w (w.alloc (.cells #[.int .i64 k, .int .i64 n, .string s, .slice A l.length (capF l.length c)] 24)) := (Below.refl _ w).alloc (Nat.le_refl _) _
  have hB2 := ebld_new w.heap.size (w.alloc (.cells #[.int .i64 k, .int .i64 n, .string s, .slice A l.length (capF l.length c)] 24)) (by simp)
  rw [show (w.alloc (.cells #[.int .i64 k, .int .i64 n, .string s, .slice A l.length (capF l.length c)] 24)).heap.size = w.heap.size + 1 from by simp] at hB2
  have hb2 := hb1.alloc (by simp) (.cells #[.pointer none, .slice none 0 0] 41)
  show Calls Tryd.prog 11 #[.agg #[.int .i64 k, .int .i64 n, .string s, .slice A l.length (capF l.length c)]] w _
  have HW := Lib.hid (HC [] _ hb2 hB2 (by simp; omega))
  have HB2 := Lib.hid hb2
  clear HC hb1 hb2 hB2
  simp only [ev, Te.kind, Te.n, Te.name, Te.parts] at HW
  go_enter Tryd.func11, Tryd.ntmps11
  go_wp2_with fail
  refine HW.out.mono ?_
  rintro e w2 ⟨rfl, hB3, hb3, hk3⟩
  rw [List.nil_append] at hB3
  have HB3 := Lib.hid (HB2.out.trans hb3)
  have HS := Lib.hid (Tryd.Builder_String_any_k w.heap.size (w.heap.size + 1) X w2 (Lib.IsBuilderF.of hB3) HB3.out.size)
  clear hB3 hb3 hk3 HW
  go_wp2_with fail
  refine HS.out.mono ?_
  rintro e w3 ⟨rfl, _, hb4, _⟩
  go_wp2_with fail
  go_ret
  exact ⟨rfl, HB3.out.trans hb4⟩
end Lx
end Go.Proofs.YteagbndjoklogaaDoor
