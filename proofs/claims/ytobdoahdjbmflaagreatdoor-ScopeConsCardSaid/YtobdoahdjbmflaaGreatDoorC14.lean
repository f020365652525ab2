/-
  Texts that lie one behind the other: RefTok RefMay RefMayT Lit R7G.
-/
import Derived.Test.YtobdoahdjbmflaaGreatDoorC13
import Derived.Test.YtobdoahdjbmflaaGreatDoorC8
import Derived.Test.YtobdoahdjbmflaaGreatDoorC4
import Derived.Test.YtobdoahdjbmflaaGreatDoorC11
import Derived.Test.YtobdoahdjbmflaaGreatDoorC12
import Derived.StillTailTactics
namespace Go.Proofs.YtobdoahdjbmflaaGreatDoor
open Go.RowKit
namespace Lx
set_option maxRecDepth 100000
theorem run_take_min (P : Int → Bool) : ∀ (l : List UInt8) (n : Nat), run P (l.take n) = min (run P l) n
  | [], n => by simp [run]
  | c :: l, 0 => by simp [run]
  | c :: l, n + 1 => by
    have := run_take_min P l n
    by_cases h : P (c.toNat : Int)
    · simp only [List.take_succ_cons, run, h, if_true, this]; omega
    · simp [run, h]
theorem b48' (c : UInt8) : ((c.toNat : Int) == 48) = decide (c = 48) := b48 c
theorem one_both (s : ByteArray) (k : Nat) (w : World) (hk : k < s.size) (hs : s.size ≤ 140737488351232) :
    Calls Tryz.prog 57 #[.string s, .int .i64 k] w fun e w' =>
      (∀ kd n t, tokK (s.data.toList.drop k) = .ok (kd, n, t) → e = .returned (tokR kd n t k)) ∧ (∀ x, tokK (s.data.toList.drop k) = .error x → e = .returned (noTokR x)) ∧ Below w.heap.size w w' := by
  have hlen : k < s.data.toList.length := by simpa using hk
  have hb : s.data.toList[k]'hlen = s[k]'hk := by simp [ByteArray.getElem_eq_getElem_data]
  have hD := List.drop_eq_getElem_cons hlen
  rw [hb] at hD
  obtain ⟨c, hc⟩ : ∃ c, s[k]'hk = c := ⟨_, rfl⟩
  rw [hc] at hD
  obtain ⟨D, hDD⟩ : ∃ D, D = s.data.toList.drop k := ⟨_, rfl⟩
  obtain ⟨r, hr⟩ : ∃ r, r = s.data.toList.drop (k + 1) := ⟨_, rfl⟩
  rw [← hDD, ← hr] at hD
  obtain ⟨N, hN⟩ : ∃ N, run ldR D = N := ⟨_, rfl⟩
  have hNle := run_le ldR D
  have hDl : D.length = s.size - k := by rw [hDD, List.length_drop, ← Lib.size_eq]
  rcases Nat.eq_zero_or_pos N with h0 | h0
  · have ht : tokK D = match signOf D with | some g => .ok (5, 0, g) | none => .error 10 := by
      unfold tokK; rw [if_neg (by omega)]
      cases signOf D <;> rfl
    rw [← hDD]
    cases hg : signOf D with
    | none =>
      rw [hg] at ht
      refine (one_none s k w hk hs (by rw [← hDD, hN, h0]) (by rw [← hDD]; unfold sgnV; rw [hg])).mono ?_
      rintro e w' ⟨rfl, hb⟩
      refine ⟨fun kd n t h => ?_, fun x h => ?_, hb⟩
      · rw [ht] at h; cases h
      · rw [ht] at h; cases h; rfl
    | some g =>
      rw [hg] at ht
      have htt := tok_text ht
      refine (one_sign s k w hk hs (by rw [← hDD, hN, h0]) g.length (by rw [← hDD]; unfold sgnV; rw [hg]) htt.1 (by omega)).mono ?_
      rintro e w' ⟨rfl, hb⟩
      refine ⟨fun kd n t h => ?_, fun x h => ?_, hb⟩
      · rw [ht] at h
        simp only [Except.ok.injEq, Prod.mk.injEq] at h
        obtain ⟨rfl, rfl, rfl⟩ := h
        rw [← hDD, htt.2.2]
      · rw [ht] at h; cases h
  · obtain ⟨L, hL⟩ : ∃ L, L = D.take N := ⟨_, rfl⟩
    have hLl : L.length = N := by rw [hL, List.length_take]; omega
    have hLc : ∃ q, L = c :: q := by
      rw [hL, hD]
      obtain ⟨m, rfl⟩ : ∃ m, N = m + 1 := ⟨N - 1, by omega⟩
      exact ⟨_, List.take_succ_cons⟩
    have hdl : run digR L = min (run digR D) N := by rw [hL, run_take_min]
    have ht : tokK D = match runK L with | .ok (k, n) => .ok (k, n, L) | .error e => .error e := by
      unfold tokK; rw [if_pos (by omega), hN, ← hL]
      rcases runK L with e | ⟨a, b⟩ <;> rfl
    have hld : ldR (c.toNat : Int) = true := (run_pos_iff ldR c r).1 (by rw [← hD, hN]; exact h0)
    have hR : ∀ b, decide (run digR D < N) = b → RunAt s k N c b := fun b hb => ⟨hk, hs, hc, by rw [← hDD, hN], by rw [← hDD]; exact hb⟩
    have hLD : (s.data.toList.drop k).take N = L := by rw [← hDD, hL]
    rw [← hDD]
    obtain ⟨q, hq⟩ := hLc
    by_cases hd : digR (c.toNat : Int) = true
    · have h1 : 0 < run digR L := by rw [hq]; exact (run_pos_iff digR c q).2 hd
      have hrk : runK L = numK L := by unfold runK; rw [if_pos h1]
      by_cases hlt : run digR D < N
      · have hn : numK L = .error 10 := by unfold numK; rw [if_pos (by omega)]
        rw [hrk, hn] at ht
        refine (one_err s k N c true w (hR _ (by simpa using hlt)) h0 10 (.inl ⟨hd, rfl, rfl⟩)).mono ?_
        rintro e w' ⟨rfl, hb⟩
        refine ⟨fun kd n t h => ?_, fun x h => ?_, hb⟩
        · rw [ht] at h; cases h
        · rw [ht] at h; cases h; rfl
      · have hRf := hR false (by simpa using hlt)
        have hnd : ¬ run digR L < L.length := by omega
        by_cases h18 : 18 < N
        · have hn : numK L = .error 11 := by unfold numK; rw [if_neg hnd, if_pos (.inl (by omega))]
          rw [hrk, hn] at ht
          refine (one_err s k N c false w hRf h0 11 (.inr (.inl ⟨hd, rfl, h18, rfl⟩))).mono ?_
          rintro e w' ⟨rfl, hb⟩
          refine ⟨fun kd n t h => ?_, fun x h => ?_, hb⟩
          · rw [ht] at h; cases h
          · rw [ht] at h; cases h; rfl
        · by_cases hz : 1 < N ∧ c = 48
          · have hn : numK L = .error 11 := by unfold numK; rw [if_neg hnd, if_pos (.inr ⟨by omega, by rw [hq, hz.2]; rfl⟩)]
            rw [hrk, hn] at ht
            refine (one_err s k N c false w hRf h0 11 (.inr (.inr (.inl ⟨hd, rfl, h18, hz.1, hz.2, rfl⟩)))).mono ?_
            rintro e w' ⟨rfl, hb⟩
            refine ⟨fun kd n t h => ?_, fun x h => ?_, hb⟩
            · rw [ht] at h; cases h
            · rw [ht] at h; cases h; rfl
          · have hn : numK L = .ok (3, numV L) := by
              unfold numK
              rw [if_neg hnd, if_neg]
              rintro (h | ⟨h, h'⟩)
              · omega
              · rw [hq] at h'
                exact hz ⟨by omega, by simpa using h'⟩
            rw [hrk, hn] at ht
            refine (one_num s k N c w hRf h0 hd h18 ?_ (by rw [hLD, hdl]; omega)).mono ?_
            · by_cases h1' : 1 < N
              · refine .inr ⟨h1', ?_⟩
                rw [b48', decide_eq_false]
                exact fun h => hz ⟨h1', h⟩
              · exact .inl (by omega)
            rintro e w' ⟨rfl, hb⟩
            refine ⟨fun kd n t h => ?_, fun x h => ?_, hb⟩
            · rw [ht] at h
              simp only [Except.ok.injEq, Prod.mk.injEq] at h
              obtain ⟨rfl, rfl, rfl⟩ := h
              rw [hLD]
            · rw [ht] at h; cases h
    · have hd' : digR (c.toNat : Int) = false := by simpa using hd
      have h1 : ¬ 0 < run digR L := by rw [hq, run_pos_iff]; exact hd
      obtain ⟨b, hb'⟩ : ∃ b, decide (run digR D < N) = b := ⟨_, rfl⟩
      have hlu : lowR (c.toNat : Int) = true ∨ (lowR (c.toNat : Int) = false ∧ upR (c.toNat : Int) = true) := by
        simp only [ldR, hd', Bool.or_false] at hld
        cases h : lowR (c.toNat : Int)
        · rw [h] at hld; exact .inr ⟨rfl, by simpa using hld⟩
        · exact .inl rfl
      have hcv : clsV (c.toNat : Int) = if 0 < run lowR L then 1 else 2 := by
        rw [hq]
        simp only [run_pos_iff]
        rcases hlu with h | ⟨h, h'⟩
        · simp [clsV, h]
        · simp [clsV, h, h']
      have hc3 : (clsV (c.toNat : Int) == 3) = false := by rw [hcv]; split <;> rfl
      by_cases h16 : 16 < N
      · have hrk : runK L = .error 11 := by unfold runK; rw [if_neg h1, if_pos (by omega)]
        rw [hrk] at ht
        refine (one_err s k N c b w (hR b hb') h0 11 (.inr (.inr (.inr ⟨hd', h16, hc3, rfl⟩)))).mono ?_
        rintro e w' ⟨rfl, hb⟩
        refine ⟨fun kd n t h => ?_, fun x h => ?_, hb⟩
        · rw [ht] at h; cases h
        · rw [ht] at h; cases h; rfl
      · refine (one_word s k N c b w (hR b hb') h0 _ rfl hc3 h16 (wordS L) (by rw [hLD])).mono ?_
        rintro e w' ⟨rfl, hb⟩
        have hrk : runK L = .ok (cond (wordS L) 4 (clsV (c.toNat : Int)), 0) := by
          unfold runK
          rw [if_neg h1, if_neg (by omega), hcv]
          cases wordS L
          · by_cases hp : 0 < run lowR L <;> simp [hp]
          · simp
        rw [hrk] at ht
        refine ⟨fun kd n t h => ?_, fun x h => ?_, hb⟩
        · rw [ht] at h
          simp only [Except.ok.injEq, Prod.mk.injEq] at h
          obtain ⟨rfl, rfl, rfl⟩ := h
          rw [hLD]
        · rw [ht] at h; cases h
set_option maxHeartbeats 2000000 in
theorem rtoken_any (s : ByteArray) (k : Int) (w : World) (hk : k = 1 ∨ k = 2) (hs : s.size ≤ 140737488351232) :
    Calls Tryz.prog 82 #[.string s, .int .i64 k] w fun e w' => e = .returned (.bool (kindV k s.data.toList)) ∧ Below w.heap.size w w' := by
  by_cases h0 : s.size = 0
  · have hl : s.data.toList = [] := List.eq_nil_of_length_eq_zero (by rw [← Lib.size_eq]; exact h0)
    have e3 : s.toList = [] := by rw [data_list]; exact hl
    have HF : Hid (kindV k s.data.toList = false) := by
      show _ = _
      rw [hl]; rcases hk with rfl | rfl <;> rfl
    clear hl h0
    go_enter Tryz.func82, Tryz.ntmps82
    go_wp2_with fail
    go_ret
    exact ⟨ret_bool HF.out.symm, Below.refl _ _⟩
  · have hl : s.data.toList ≠ [] := by
      intro e
      have := congrArg List.length e
      rw [← Lib.size_eq] at this
      exact h0 this
    have e3 : s.toList.isEmpty = false := by rw [data_list]; cases h : s.data.toList with | nil => exact absurd h hl | cons _ _ => rfl
    have HK := Lib.hid (refTok_kind s.data.toList k hk hl)
    have HO := Lib.hid (one_both s 0 w (by omega) hs)
    rw [List.drop_zero] at HO
    cases ht : tokK s.data.toList with
    | error x =>
      have hx := tokK_err ht
      have hx0 : (x == 0) = false := by rcases hx with rfl | rfl <;> rfl
      have hf : refTokV s.data.toList k = false := by unfold refTokV; rw [ht]
      have HF := Lib.hid hf
      have HT := Lib.hid ht
      clear ht hf hl h0
      go_enter Tryz.func82, Tryz.ntmps82
      go_wp2_with fail
      refine HO.out.mono ?_
      rintro e w2 ⟨_, he, hb2⟩
      have he2 := he x HT.out
      subst he2
      clear he
      unfold noTokR
      go_wp2_with fail
      go_ret
      exact ⟨ret_bool (by rw [← HK.out, HF.out]), hb2.alloc hb2.size _⟩
    | ok r =>
      obtain ⟨kd, n, t⟩ := r
      have hf : refTokV s.data.toList k = (decide (kd = k) && (t == s.data.toList)) := by unfold refTokV; rw [ht]
      have HF := Lib.hid hf
      have HT := Lib.hid ht
      clear ht hf hl h0
      by_cases hkd : kd = k
      · subst hkd
        go_enter Tryz.func82, Tryz.ntmps82
        go_wp2_with fail
        refine HO.out.mono ?_
        rintro e w2 ⟨he, _, hb2⟩
        have he2 := he kd n t HT.out
        subst he2
        clear he
        unfold tokR
        go_wp2_with fail
        go_ret
        exact ⟨ret_bool (by rw [← HK.out, HF.out, data_list]; simp), hb2.alloc hb2.size _⟩
      · have e1 : (kd == k) = false := by simpa using hkd
        go_enter Tryz.func82, Tryz.ntmps82
        go_wp2_with fail
        refine HO.out.mono ?_
        rintro e w2 ⟨he, _, hb2⟩
        have he2 := he kd n t HT.out
        subst he2
        clear he
        unfold tokR
        go_wp2_with fail
        go_ret
        exact ⟨ret_bool (by rw [← HK.out, HF.out]; simp [hkd]), hb2.alloc hb2.size _⟩
end Lx
end Go.Proofs.YtobdoahdjbmflaaGreatDoor
namespace Go.Proofs.YtobdoahdjbmflaaGreatDoor
open Go.RowKit
namespace Lx
set_option maxRecDepth 100000
theorem str_empty' (s : ByteArray) : s.toList.isEmpty = (s.data.toList == []) := by rw [data_list]; cases s.data.toList <;> rfl
set_option maxHeartbeats 2000000 in
theorem rname_any (k n a : Int) (s : ByteArray) (A : Option Addr) (m c : Nat) (w : World) (hs : s.size ≤ 140737488351232) :
    Calls Tryz.prog 54 #[.agg #[.int .i64 k, .string s, .int .i64 n, .int .i64 a, .slice A m c]] w fun e w' => e = .returned (.bool (nameOkV k s.data.toList)) ∧ Below w.heap.size w w' := by
  have hb : Below w.heap.size w (w.alloc (.cells #[.int .i64 k, .string s, .int .i64 n, .int .i64 a, .slice A m c] 24)) := (Below.refl _ w).alloc (Nat.le_refl _) _
  have HT1 := Lib.hid (rtoken_any s 1 (w.alloc (.cells #[.int .i64 k, .string s, .int .i64 n, .int .i64 a, .slice A m c] 24)) (.inl rfl) hs)
  have HT2 := Lib.hid (rtoken_any s 2 (w.alloc (.cells #[.int .i64 k, .string s, .int .i64 n, .int .i64 a, .slice A m c] 24)) (.inr rfl) hs)
  have HE := Lib.hid (str_empty' s)
  rcases (by omega : k = 1 ∨ k = 2 ∨ k = 4 ∨ k = 5 ∨ k = 6 ∨ k = 8 ∨ k = 10 ∨ (k ≠ 1 ∧ k ≠ 2 ∧ k ≠ 4 ∧ k ≠ 5 ∧ k ≠ 6 ∧ k ≠ 8 ∧ k ≠ 10)) with rfl | rfl | rfl | rfl | rfl | rfl | rfl | ⟨n1, n2, n4, n5, n6, n8, n10⟩
  case inl | inr.inl | inr.inr.inl | inr.inr.inr.inl =>
    go_enter Tryz.func54, Tryz.ntmps54
    go_wp2_with fail
    refine HT1.out.mono ?_
    rintro e w2 ⟨rfl, hb2⟩
    go_wp2_with fail
    go_ret
    exact ⟨ret_bool (by simp [nameOkV, kindV]), below_al (Below.refl _ w) hb2⟩
  case inr.inr.inr.inr.inl | inr.inr.inr.inr.inr.inl =>
    go_enter Tryz.func54, Tryz.ntmps54
    go_wp2_with fail
    refine HT2.out.mono ?_
    rintro e w2 ⟨rfl, hb2⟩
    go_wp2_with fail
    go_ret
    exact ⟨ret_bool (by simp [nameOkV, kindV]), below_al (Below.refl _ w) hb2⟩
  · clear HT1 HT2
    go_enter Tryz.func54, Tryz.ntmps54
    go_wp2_with fail
    all_goals
      go_ret
      refine ⟨ret_bool ?_, hb⟩
      simp only [nameOkV]
      rw [← data_list]
      simp_all [opV, Bool.or_assoc]
  · clear HT1 HT2
    have e1 : (k == 1) = false := by simpa using n1
    have e2 : (k == 2) = false := by simpa using n2
    have e4 : (k == 4) = false := by simpa using n4
    have e5 : (k == 5) = false := by simpa using n5
    have e6 : (k == 6) = false := by simpa using n6
    have e8 : (k == 8) = false := by simpa using n8
    have e10 : (k == 10) = false := by simpa using n10
    have HF : Hid (nameOkV k s.data.toList = s.toList.isEmpty) := by
      show _ = _
      rw [HE.out]
      simp [nameOkV, n1, n2, n4, n5, n6, n8, n10]
    clear n1 n2 n4 n5 n6 n8 n10
    go_enter Tryz.func54, Tryz.ntmps54
    go_wp2_with fail
    go_ret
    exact ⟨ret_bool HF.out.symm, hb⟩
set_option maxHeartbeats 4000000 in
theorem rparts_any (k n a : Int) (s : ByteArray) (A : Option Addr) (m c : Nat) (w : World) (hm : m ≤ 140737488351232) :
    Calls Tryz.prog 55 #[.agg #[.int .i64 k, .string s, .int .i64 n, .int .i64 a, .slice A m c]] w fun e w' => e = .returned (.bool (partsV k n m)) ∧ Below w.heap.size w w' := by
  have hb : Below w.heap.size w (w.alloc (.cells #[.int .i64 k, .string s, .int .i64 n, .int .i64 a, .slice A m c] 24)) := (Below.refl _ w).alloc (Nat.le_refl _) _
  rcases (by omega : k = 1 ∨ k = 2 ∨ k = 3 ∨ k = 4 ∨ k = 5 ∨ k = 10 ∨ k = 6 ∨ k = 7 ∨ k = 9 ∨ k = 8 ∨ (k < 1 ∨ 10 < k)) with rfl | rfl | rfl | rfl | rfl | rfl | rfl | rfl | rfl | rfl | hk
  case inr.inr.inr.inr.inr.inr.inr.inr.inr.inr =>
    have e : ∀ j : Int, 1 ≤ j → j ≤ 10 → (k == j) = false := fun j h1 h2 => by simp; omega
    have e1 := e 1 (by omega) (by omega)
    have e2 := e 2 (by omega) (by omega)
    have e3 := e 3 (by omega) (by omega)
    have e4 := e 4 (by omega) (by omega)
    have e5 := e 5 (by omega) (by omega)
    have e6 := e 6 (by omega) (by omega)
    have e7 := e 7 (by omega) (by omega)
    have e8 := e 8 (by omega) (by omega)
    have e9 := e 9 (by omega) (by omega)
    have e10 := e 10 (by omega) (by omega)
    have HF : Hid (partsV k n m = false) := by
      have e : ∀ j : Int, 1 ≤ j → j ≤ 10 → k ≠ j := by omega
      show _ = _
      simp [partsV, e 1, e 2, e 3, e 4, e 5, e 6, e 7, e 8, e 9, e 10]
    clear e hk
    go_enter Tryz.func55, Tryz.ntmps55
    go_wp2_with fail
    go_ret
    exact ⟨ret_bool HF.out.symm, hb⟩
  case inr.inr.inr.inr.inr.inr.inr.inr.inr.inl =>
    by_cases h1 : 0 ≤ n
    · by_cases h2 : n ≤ 8
      · go_enter Tryz.func55, Tryz.ntmps55
        go_wp2_with fail
        go_ret
        refine ⟨ret_bool ?_, hb⟩
        rw [Bool.eq_iff_iff]; simp [partsV]; omega
      · go_enter Tryz.func55, Tryz.ntmps55
        go_wp2_with fail
        go_ret
        refine ⟨ret_bool ?_, hb⟩
        rw [Bool.eq_iff_iff]; simp [partsV]; omega
    · go_enter Tryz.func55, Tryz.ntmps55
      go_wp2_with fail
      go_ret
      refine ⟨ret_bool ?_, hb⟩
      rw [Bool.eq_iff_iff]; simp [partsV]; omega
  all_goals
    go_enter Tryz.func55, Tryz.ntmps55
    go_wp2_with fail
  all_goals
    go_ret
    refine ⟨ret_bool ?_, (Below.refl _ w).alloc (Nat.le_refl _) _⟩
    rw [Bool.eq_iff_iff]; simp [partsV] <;> omega
end Lx
end Go.Proofs.YtobdoahdjbmflaaGreatDoor
namespace Go.Proofs.YtobdoahdjbmflaaGreatDoor
open Go.RowKit
namespace Lx
set_option maxRecDepth 100000
set_option maxHeartbeats 2000000 in
theorem rmay_head (k n a : Int) (s : ByteArray) (A : Option Addr) (m c : Nat) (alt : Bool) (w : World) (hs : s.size ≤ 140737488351232) (hm : m ≤ 140737488351232)
    (h : ((decide (k = 8) == alt) && (nameOkV k s.data.toList && (partsV k n m && decide (0 ≤ a)))) = false) :
    Calls Tryz.prog 35 #[.agg #[.int .i64 k, .string s, .int .i64 n, .int .i64 a, .slice A m c], .bool alt] w fun e w' => e = .returned (.bool false) ∧ Below w.heap.size w w' := by
  have hb : Below w.heap.size w (w.alloc (.cells #[.int .i64 k, .string s, .int .i64 n, .int .i64 a, .slice A m c] 24)) := (Below.refl _ w).alloc (Nat.le_refl _) _
  have HN := Lib.hid (rname_any k n a s A m c (w.alloc (.cells #[.int .i64 k, .string s, .int .i64 n, .int .i64 a, .slice A m c] 24)) hs)
  have HP := fun w => rparts_any k n a s A m c w hm
  have HPP := Lib.hid HP
  clear HP
  have hL0 := Lies.new w 24 #[.int .i64 k, .string s, .int .i64 n, .int .i64 a, .slice A m c]
  by_cases h1 : (decide (k = 8) == alt) = true
  · have e1 : ((k == 8) == alt) = true := h1
    rw [h1, Bool.true_and] at h
    cases hn : nameOkV k s.data.toList
    · rw [hn] at HN
      have HH := Lib.hid h
      clear h h1 hn
      go_enter Tryz.func35, Tryz.ntmps35
      go_wp2_with fail
      refine HN.out.mono ?_
      rintro e w2 ⟨rfl, hb2⟩
      go_wp2_with fail
      go_ret
      exact ⟨rfl, below_ac hb2⟩
    · rw [hn] at HN h
      rw [Bool.true_and] at h
      cases hp : partsV k n m
      · rw [hp] at HPP
        have HH := Lib.hid h
        clear h h1 hn hp
        go_enter Tryz.func35, Tryz.ntmps35
        go_wp2_with fail
        refine HN.out.mono ?_
        rintro e w2 ⟨rfl, hb2⟩
        obtain ⟨⟨c0, c1, c2, c3, c4⟩, _⟩ := (hL0.below hb2 (by simp)).five
        go_wp2_with fail
        refine (HPP.out _).mono ?_
        rintro e w3 ⟨rfl, hb3⟩
        go_wp2_with fail
        go_ret
        exact ⟨rfl, (below_ac hb2).trans (hb3.mono (by have := hb2.size; simp at this; omega))⟩
      · rw [hp, Bool.true_and] at h
        rw [hp] at HPP
        have ha : a < 0 := by simpa using h
        clear h h1 hn hp
        go_enter Tryz.func35, Tryz.ntmps35
        go_wp2_with fail
        refine HN.out.mono ?_
        rintro e w2 ⟨rfl, hb2⟩
        have hL2 := hL0.below hb2 (by simp)
        obtain ⟨⟨c0, c1, c2, c3, c4⟩, _⟩ := hL2.five
        go_wp2_with fail
        refine (HPP.out _).mono ?_
        rintro e w3 ⟨rfl, hb3⟩
        have d3 := (hL2.below hb3 hL2.lt).five.1.2.2.2.1
        go_wp2_with fail
        go_ret
        exact ⟨rfl, (below_ac hb2).trans (hb3.mono (by have := hb2.size; simp at this; omega))⟩
  · have e1 : ((k == 8) == alt) = false := Bool.eq_false_iff.2 h1
    have HH := Lib.hid h
    clear h h1
    go_enter Tryz.func35, Tryz.ntmps35
    go_wp2_with fail
    go_ret
    exact ⟨rfl, hb⟩
set_option maxHeartbeats 8000000 in
theorem rmay_any (d : Nat) : ∀ (t : Tr) (A : Option Addr) (c : Nat) (alt : Bool) (w : World), depthT t ≤ d → TIn w Any t A →
    Calls Tryz.prog 35 #[tv t A c, .bool alt] w fun e w' => e = .returned (.bool (mayRT t alt)) ∧ Below w.heap.size w w' := by
  induction d with
  | zero => intro t A c alt w h; have := depth_pos t; omega
  | succ d ih =>
    intro t A c alt w hd hI
    obtain ⟨k, s, n, a, l⟩ := t
    have hdL : depthL l ≤ d := by rw [depthT] at hd; omega
    have hlen : l.length ≤ 140737488351232 := by rw [TIn] at hI; exact hI.2.1
    have hss : s.size ≤ 140737488351232 := by rw [TIn] at hI; exact hI.1
    have HI := Lib.hid hI
    clear hI hd
    show Calls Tryz.prog 35 #[.agg #[.int .i64 k, .string s, .int .i64 n, .int .i64 a, .slice A l.length (capF l.length c)], .bool alt] w _
    generalize capF l.length c = c
    cases hh : ((decide (k = 8) == alt) && (nameOkV k s.data.toList && (partsV k n l.length && decide (0 ≤ a))))
    · refine (rmay_head k n a s A _ c alt w hss hlen hh).mono ?_
      rintro e w' ⟨rfl, hb⟩
      refine ⟨ret_bool ?_, hb⟩
      rw [mayRT]
      cases h1 : (decide (k = 8) == alt) <;> cases h2 : nameOkV k s.data.toList <;> cases h3 : partsV k n l.length <;> cases h4 : decide (0 ≤ a) <;> simp_all
    · simp only [Bool.and_eq_true] at hh
      obtain ⟨h1, h2, h3, h4⟩ := hh
      have HE : Hid (mayRT (.node k s n a l) alt = mayRL k n 0 l) := by
        show _ = _
        rw [mayRT, h1, h2, h3, h4]; simp
      have hda : decide (a < 0) = false := by have := of_decide_eq_true h4; simp; omega
      have HN := Lib.hid (rname_any k n a s A l.length c (w.alloc (.cells #[.int .i64 k, .string s, .int .i64 n, .int .i64 a, .slice A l.length c] 24)) hss)
      have HP := fun w => rparts_any k n a s A l.length c w hlen
      rw [h2] at HN
      rw [h3] at HP
      have HPP := Lib.hid HP
      have halt : alt = decide (k = 8) := by cases alt <;> cases hk8 : decide (k = 8) <;> simp_all
      clear HP h1 h2 h3 h4
      subst halt
      obtain ⟨m, hm'⟩ : ∃ m, m = l.length := ⟨_, rfl⟩
      rw [← hm'] at hlen HN HPP ⊢
      have hm1 : m ≤ l.length := by omega
      have hm2 : l.length ≤ m := by omega
      clear hm'
      have hL0 := Lies.new w 24 #[.int .i64 k, .string s, .int .i64 n, .int .i64 a, .slice A m c]
      rcases (by omega : k = 8 ∨ k = 7 ∨ (k ≠ 8 ∧ k ≠ 7)) with rfl | rfl | ⟨q8, q7⟩
      · have HE8 : Hid (mayRT (.node 8 s n a l) true = mayRL 8 n 0 l) := HE.out
        clear HE
        have HE := HE8
        clear HE8
        show Calls Tryz.prog 35 #[.agg #[.int .i64 8, .string s, .int .i64 n, .int .i64 a, .slice A m c], .bool true] w fun e w' => e = .returned (.bool (mayRT (.node 8 s n a l) true)) ∧ Below w.heap.size w w'
        go_enter Tryz.func35, Tryz.ntmps35
        go_wp2_with fail
        refine HN.out.mono ?_
        rintro e w2 ⟨rfl, hb2⟩
        have hL2 := hL0.below hb2 (by simp)
        obtain ⟨⟨c0, c1, c2, c3, c4⟩, _⟩ := hL2.five
        go_wp2_with fail
        refine (HPP.out _).mono ?_
        rintro e w3 ⟨rfl, hb3⟩
        have hL3 := hL2.below hb3 hL2.lt
        have d3 := hL3.five.1.2.2.2.1
        have hbw3 : Below w.heap.size w w3 := (below_ac hb2).trans (hb3.mono (by have := hb2.size; simp at this; omega))
        clear hb2 hb3 hL0 hL2 c0 c1 c2 c3 c4
        go_wp2_with fail
        clear d3
        go_loopw [5] (fun x wr => ∃ i : Nat, i ≤ m ∧ x = .int .i64 i ∧ Hid (mayRL 8 n 0 l = mayRL 8 n i (l.drop i)) ∧ Lies wr w.heap.size 24 #[.int .i64 8, .string s, .int .i64 n, .int .i64 a, .slice A m c] ∧ Below w.heap.size w wr) (fun x _ => m - (intOf x).toNat)
        case atStart => exact ⟨0, by omega, rfl, by exact rfl, hL3, hbw3⟩
        case round =>
          obtain ⟨i, hi, rfl, HQ, hL, hbw⟩ := hrel
          have hbs := hbw.size
          obtain ⟨b0, b1, b2, b3, b4⟩ := hL.five.1
          by_cases hlt : i < m
          · have hia : i < l.length := by omega
            obtain ⟨g, o, A', c', ⟨hA, _⟩, d0, d1, d2, d3, d4, hIn⟩ := TIn.part (TIn.below _ HI.out hbw (Nat.le_refl _)) i hia
            subst hA
            have hm3 := depthL_mem l (l[i]'hia) (List.getElem_mem hia)
            have HS0 : Hid (mayRL 8 n i (l.drop i) = (!(decide ((8 : Int) = 8) && (decide ((i : Int) < n) && decide ((l[i]'hia).kind ≠ 1))) && (mayRT (l[i]'hia) (decide ((8 : Int) = 7) && decide (0 < i)) && mayRL 8 n (i + 1) (l.drop (i + 1))))) := by
              show _ = _
              rw [List.drop_eq_getElem_cons hia, mayRL]
            simp only [Tr.parts] at d0 d1 d2 d3 d4 hIn
            obtain ⟨tr, hu⟩ : ∃ tr, tr = l[i]'hia := ⟨_, rfl⟩
            rw [← hu] at d0 d1 d2 d3 d4 hIn hm3 HS0
            clear hu
            obtain ⟨tk, ts, tn, ta, tl⟩ := tr
            simp only [Tr.kind, Tr.name, Tr.n, Tr.place] at d0 d1 d2 d3 d4
            by_cases q1 : (i : Int) < n
            · by_cases q2 : tk = 1
              · subst q2
                have HS : Hid (mayRL 8 n i (l.drop i) = (mayRT (.node 1 ts tn ta tl) false && mayRL 8 n (i + 1) (l.drop (i + 1)))) := by
                  show _ = _
                  rw [HS0.out]
                  simp only [Tr.kind]
                  simp [q1]
                cases hmt : mayRT (.node 1 ts tn ta tl) false
                all_goals
                  have HM := Lib.hid (ih (.node 1 ts tn ta tl) A' c' false wr.drew (by omega) (TIn.below _ hIn ((Below.refl _ wr).drew) (Nat.le_refl _)))
                  rw [hmt] at HM
                  have HMT := Lib.hid hmt
                  clear hmt
                  go_wp2_with fail
                  go_still_tail 12, (by kernel_rfl)
                  change wpList _ _ _ _ _ wr.drew
                  go_wp2_with fail
                  refine HM.out.mono ?_
                  rintro e w2 ⟨rfl, hb2'⟩
                  have hb2 : Below wr.heap.size wr w2 := (Below.refl _ wr).drew.trans hb2'
                  go_wp2_with fail
                · go_ret
                  exact ⟨ret_bool (by rw [HE.out, HQ.out, HS.out, HMT.out]; simp), hbw.trans (hb2.mono hbs)⟩
                · go_roundw
                  case rel =>
                    refine ⟨i + 1, by omega, by go_num, ?_, hL.below hb2 hL.lt, hbw.trans (hb2.mono hbs)⟩
                    show _ = _
                    rw [HQ.out, HS.out, HMT.out]; simp
                  case measure => simp [intOf]; omega
              · have q3 : (tk != 1) = true := by simpa using q2
                have HS : Hid (mayRL 8 n i (l.drop i) = false) := by
                  show _ = _
                  rw [HS0.out]
                  simp [q1, q2, Tr.kind]
                clear q2
                go_wp2_with fail
                go_ret
                exact ⟨ret_bool (by rw [HE.out, HQ.out, HS.out]), hbw⟩
            · have q1' : n ≤ (i : Int) := by omega
              have HS : Hid (mayRL 8 n i (l.drop i) = (mayRT (.node tk ts tn ta tl) false && mayRL 8 n (i + 1) (l.drop (i + 1)))) := by
                show _ = _
                rw [HS0.out]
                simp only [Tr.kind]
                rw [decide_eq_false q1]; simp
              clear q1'
              cases hmt : mayRT (.node tk ts tn ta tl) false
              all_goals
                have HM := Lib.hid (ih (.node tk ts tn ta tl) A' c' false wr.drew (by omega) (TIn.below _ hIn ((Below.refl _ wr).drew) (Nat.le_refl _)))
                rw [hmt] at HM
                have HMT := Lib.hid hmt
                clear hmt
                go_wp2_with fail
                go_still_tail 12, (by kernel_rfl)
                change wpList _ _ _ _ _ wr.drew
                go_wp2_with fail
                refine HM.out.mono ?_
                rintro e w2 ⟨rfl, hb2'⟩
                have hb2 : Below wr.heap.size wr w2 := (Below.refl _ wr).drew.trans hb2'
                go_wp2_with fail
              · go_ret
                exact ⟨ret_bool (by rw [HE.out, HQ.out, HS.out, HMT.out]; simp), hbw.trans (hb2.mono hbs)⟩
              · go_roundw
                case rel =>
                  refine ⟨i + 1, by omega, by go_num, ?_, hL.below hb2 hL.lt, hbw.trans (hb2.mono hbs)⟩
                  show _ = _
                  rw [HQ.out, HS.out, HMT.out]; simp
                case measure => simp [intOf]; omega
          · go_wp2_with fail
            go_ret
            obtain rfl : i = m := by omega
            exact ⟨ret_bool (by rw [HE.out, HQ.out, List.drop_eq_nil_of_le (by omega), mayRL]), hbw⟩
      · have HE7 : Hid (mayRT (.node 7 s n a l) false = mayRL 7 n 0 l) := HE.out
        clear HE
        have HE := HE7
        clear HE7
        show Calls Tryz.prog 35 #[.agg #[.int .i64 7, .string s, .int .i64 n, .int .i64 a, .slice A m c], .bool false] w fun e w' => e = .returned (.bool (mayRT (.node 7 s n a l) false)) ∧ Below w.heap.size w w'
        go_enter Tryz.func35, Tryz.ntmps35
        go_wp2_with fail
        refine HN.out.mono ?_
        rintro e w2 ⟨rfl, hb2⟩
        have hL2 := hL0.below hb2 (by simp)
        obtain ⟨⟨c0, c1, c2, c3, c4⟩, _⟩ := hL2.five
        go_wp2_with fail
        refine (HPP.out _).mono ?_
        rintro e w3 ⟨rfl, hb3⟩
        have hL3 := hL2.below hb3 hL2.lt
        have d3 := hL3.five.1.2.2.2.1
        have hbw3 : Below w.heap.size w w3 := (below_ac hb2).trans (hb3.mono (by have := hb2.size; simp at this; omega))
        clear hb2 hb3 hL0 hL2 c0 c1 c2 c3 c4
        go_wp2_with fail
        clear d3
        go_loopw [5] (fun x wr => ∃ i : Nat, i ≤ m ∧ x = .int .i64 i ∧ Hid (mayRL 7 n 0 l = mayRL 7 n i (l.drop i)) ∧ Lies wr w.heap.size 24 #[.int .i64 7, .string s, .int .i64 n, .int .i64 a, .slice A m c] ∧ Below w.heap.size w wr) (fun x _ => m - (intOf x).toNat)
        case atStart => exact ⟨0, by omega, rfl, by exact rfl, hL3, hbw3⟩
        case round =>
          obtain ⟨i, hi, rfl, HQ, hL, hbw⟩ := hrel
          have hbs := hbw.size
          obtain ⟨b0, b1, b2, b3, b4⟩ := hL.five.1
          by_cases hlt : i < m
          · have hia : i < l.length := by omega
            obtain ⟨g, o, A', c', ⟨hA, _⟩, d0, d1, d2, d3, d4, hIn⟩ := TIn.part (TIn.below _ HI.out hbw (Nat.le_refl _)) i hia
            subst hA
            have hm3 := depthL_mem l (l[i]'hia) (List.getElem_mem hia)
            have HS0 : Hid (mayRL 7 n i (l.drop i) = (!(decide ((7 : Int) = 8) && (decide ((i : Int) < n) && decide ((l[i]'hia).kind ≠ 1))) && (mayRT (l[i]'hia) (decide ((7 : Int) = 7) && decide (0 < i)) && mayRL 7 n (i + 1) (l.drop (i + 1))))) := by
              show _ = _
              rw [List.drop_eq_getElem_cons hia, mayRL]
            simp only [Tr.parts] at d0 d1 d2 d3 d4 hIn
            obtain ⟨tr, hu⟩ : ∃ tr, tr = l[i]'hia := ⟨_, rfl⟩
            rw [← hu] at d0 d1 d2 d3 d4 hIn hm3 HS0
            clear hu
            obtain ⟨tk, ts, tn, ta, tl⟩ := tr
            simp only [Tr.kind, Tr.name, Tr.n, Tr.place] at d0 d1 d2 d3 d4
            by_cases q1 : 0 < i
            · have q2 : (0 : Int) < (i : Int) := by omega
              have HS : Hid (mayRL 7 n i (l.drop i) = (mayRT (.node tk ts tn ta tl) true && mayRL 7 n (i + 1) (l.drop (i + 1)))) := by
                show _ = _
                rw [HS0.out]
                simp only [Tr.kind]
                simp [q1]
              cases hmt : mayRT (.node tk ts tn ta tl) true
              all_goals
                have HM := Lib.hid (ih (.node tk ts tn ta tl) A' c' true wr.drew (by omega) (TIn.below _ hIn ((Below.refl _ wr).drew) (Nat.le_refl _)))
                rw [hmt] at HM
                have HMT := Lib.hid hmt
                clear hmt
                go_wp2_with fail
                go_still_tail 12, (by kernel_rfl)
                change wpList _ _ _ _ _ wr.drew
                go_wp2_with fail
                refine HM.out.mono ?_
                rintro e w2 ⟨rfl, hb2'⟩
                have hb2 : Below wr.heap.size wr w2 := (Below.refl _ wr).drew.trans hb2'
                go_wp2_with fail
              · go_ret
                exact ⟨ret_bool (by rw [HE.out, HQ.out, HS.out, HMT.out]; simp), hbw.trans (hb2.mono hbs)⟩
              · go_roundw
                case rel =>
                  refine ⟨i + 1, by omega, by go_num, ?_, hL.below hb2 hL.lt, hbw.trans (hb2.mono hbs)⟩
                  show _ = _
                  rw [HQ.out, HS.out, HMT.out]; simp
                case measure => simp [intOf]; omega
            · have q2 : ¬ (0 : Int) < (i : Int) := by omega
              have HS : Hid (mayRL 7 n i (l.drop i) = (mayRT (.node tk ts tn ta tl) false && mayRL 7 n (i + 1) (l.drop (i + 1)))) := by
                show _ = _
                rw [HS0.out]
                simp only [Tr.kind]
                rw [decide_eq_false q1]; simp
              cases hmt : mayRT (.node tk ts tn ta tl) false
              all_goals
                have HM := Lib.hid (ih (.node tk ts tn ta tl) A' c' false wr.drew (by omega) (TIn.below _ hIn ((Below.refl _ wr).drew) (Nat.le_refl _)))
                rw [hmt] at HM
                have HMT := Lib.hid hmt
                clear hmt
                go_wp2_with fail
                go_still_tail 12, (by kernel_rfl)
                change wpList _ _ _ _ _ wr.drew
                go_wp2_with fail
                refine HM.out.mono ?_
                rintro e w2 ⟨rfl, hb2'⟩
                have hb2 : Below wr.heap.size wr w2 := (Below.refl _ wr).drew.trans hb2'
                go_wp2_with fail
              · go_ret
                exact ⟨ret_bool (by rw [HE.out, HQ.out, HS.out, HMT.out]; simp), hbw.trans (hb2.mono hbs)⟩
              · go_roundw
                case rel =>
                  refine ⟨i + 1, by omega, by go_num, ?_, hL.below hb2 hL.lt, hbw.trans (hb2.mono hbs)⟩
                  show _ = _
                  rw [HQ.out, HS.out, HMT.out]; simp
                case measure => simp [intOf]; omega
          · go_wp2_with fail
            go_ret
            obtain rfl : i = m := by omega
            exact ⟨ret_bool (by rw [HE.out, HQ.out, List.drop_eq_nil_of_le (by omega), mayRL]), hbw⟩
      · have e8 : (k == 8) = false := by simpa using q8
        have e7 : (k == 7) = false := by simpa using q7
        have Q8 := Lib.hid q8
        have Q7 := Lib.hid q7
        clear q8 q7
        have ed : decide (k = 8) = false := by simpa using Q8.out
        rw [ed] at HE ⊢
        clear ed
        go_enter Tryz.func35, Tryz.ntmps35
        go_wp2_with fail
        refine HN.out.mono ?_
        rintro e w2 ⟨rfl, hb2⟩
        have hL2 := hL0.below hb2 (by simp)
        obtain ⟨⟨c0, c1, c2, c3, c4⟩, _⟩ := hL2.five
        go_wp2_with fail
        refine (HPP.out _).mono ?_
        rintro e w3 ⟨rfl, hb3⟩
        have hL3 := hL2.below hb3 hL2.lt
        have d3 := hL3.five.1.2.2.2.1
        have hbw3 : Below w.heap.size w w3 := (below_ac hb2).trans (hb3.mono (by have := hb2.size; simp at this; omega))
        clear hb2 hb3 hL0 hL2 c0 c1 c2 c3 c4
        go_wp2_with fail
        clear d3
        go_loopw [5] (fun x wr => ∃ i : Nat, i ≤ m ∧ x = .int .i64 i ∧ Hid (mayRL k n 0 l = mayRL k n i (l.drop i)) ∧ Lies wr w.heap.size 24 #[.int .i64 k, .string s, .int .i64 n, .int .i64 a, .slice A m c] ∧ Below w.heap.size w wr) (fun x _ => m - (intOf x).toNat)
        case atStart => exact ⟨0, by omega, rfl, by exact rfl, hL3, hbw3⟩
        case round =>
          obtain ⟨i, hi, rfl, HQ, hL, hbw⟩ := hrel
          have hbs := hbw.size
          obtain ⟨b0, b1, b2, b3, b4⟩ := hL.five.1
          by_cases hlt : i < m
          · have hia : i < l.length := by omega
            obtain ⟨g, o, A', c', ⟨hA, _⟩, d0, d1, d2, d3, d4, hIn⟩ := TIn.part (TIn.below _ HI.out hbw (Nat.le_refl _)) i hia
            subst hA
            have hm3 := depthL_mem l (l[i]'hia) (List.getElem_mem hia)
            have HS0 : Hid (mayRL k n i (l.drop i) = (!(decide ((k : Int) = 8) && (decide ((i : Int) < n) && decide ((l[i]'hia).kind ≠ 1))) && (mayRT (l[i]'hia) (decide ((k : Int) = 7) && decide (0 < i)) && mayRL k n (i + 1) (l.drop (i + 1))))) := by
              show _ = _
              rw [List.drop_eq_getElem_cons hia, mayRL]
            simp only [Tr.parts] at d0 d1 d2 d3 d4 hIn
            obtain ⟨tr, hu⟩ : ∃ tr, tr = l[i]'hia := ⟨_, rfl⟩
            rw [← hu] at d0 d1 d2 d3 d4 hIn hm3 HS0
            clear hu
            obtain ⟨tk, ts, tn, ta, tl⟩ := tr
            simp only [Tr.kind, Tr.name, Tr.n, Tr.place] at d0 d1 d2 d3 d4
            have HS : Hid (mayRL k n i (l.drop i) = (mayRT (.node tk ts tn ta tl) false && mayRL k n (i + 1) (l.drop (i + 1)))) := by
              show _ = _
              rw [HS0.out]
              simp only [Tr.kind]
              simp [Q8.out, Q7.out]
            cases hmt : mayRT (.node tk ts tn ta tl) false
            all_goals
              have HM := Lib.hid (ih (.node tk ts tn ta tl) A' c' false wr.drew (by omega) (TIn.below _ hIn ((Below.refl _ wr).drew) (Nat.le_refl _)))
              rw [hmt] at HM
              have HMT := Lib.hid hmt
              clear hmt
              go_wp2_with fail
              go_still_tail 12, (by kernel_rfl)
              change wpList _ _ _ _ _ wr.drew
              go_wp2_with fail
              refine HM.out.mono ?_
              rintro e w2 ⟨rfl, hb2'⟩
              have hb2 : Below wr.heap.size wr w2 := (Below.refl _ wr).drew.trans hb2'
              go_wp2_with fail
            · go_ret
              exact ⟨ret_bool (by rw [HE.out, HQ.out, HS.out, HMT.out]; simp), hbw.trans (hb2.mono hbs)⟩
            · go_roundw
              case rel =>
                refine ⟨i + 1, by omega, by go_num, ?_, hL.below hb2 hL.lt, hbw.trans (hb2.mono hbs)⟩
                show _ = _
                rw [HQ.out, HS.out, HMT.out]; simp
              case measure => simp [intOf]; omega
          · go_wp2_with fail
            go_ret
            obtain rfl : i = m := by omega
            exact ⟨ret_bool (by rw [HE.out, HQ.out, List.drop_eq_nil_of_le (by omega), mayRL]), hbw⟩
end Lx
end Go.Proofs.YtobdoahdjbmflaaGreatDoor
namespace Go.Proofs.YtobdoahdjbmflaaGreatDoor
open Go.RowKit
namespace Lx
set_option maxRecDepth 100000
theorem TIn.mk {w : World} {X : Nat → Prop} {k n a : Int} {s : ByteArray} {l : List Tr} {A : Option Addr} (hs : s.size ≤ 140737488351232) (hl : l.length ≤ 140737488351232) (h : LIn w X l A 0) : TIn w X (.node k s n a l) A := by
  rw [TIn]; exact ⟨hs, hl, h⟩
theorem TIn.leaf {w : World} {X : Nat → Prop} {k n a : Int} {s : ByteArray} {A : Option Addr} (hs : s.size ≤ 140737488351232) : TIn w X (.node k s n a []) A :=
  TIn.mk hs (by simp) (by rw [LIn]; trivial)
theorem LIn.of_lies {w : World} {X : Nat → Prop} {l : List Tr} {xs : List Value} {g : Nat} {cs : Array Value} {t : TypeId} (h : RowTr w X l xs) (L : Lies w g t cs) (hcs : cs.toList = xs) (hg : X g) : LIn w X l (some ⟨g, 0, none⟩) 0 := by
  refine h.parts hg (fun _ hb _ => hb) fun j u hu => ?_
  rw [Nat.zero_add, L.cell j, ← hu, ← hcs, Array.getElem?_toList]
theorem LIn.one {w : World} {X : Nat → Prop} {t1 : Tr} {A1 : Option Addr} {c1 : Nat} {g : Nat} {cs : Array Value} {t : TypeId} (L : Lies w g t cs) (hcs : cs.toList = cellsT t1 A1 c1) (hg : X g) (h1 : TIn w X t1 A1) : LIn w X [t1] (some ⟨g, 0, none⟩) 0 :=
  LIn.of_lies ((RowTr.nil w X).snoc (c := c1) h1) L (by simpa using hcs) hg
theorem LIn.two {w : World} {X : Nat → Prop} {t1 t2 : Tr} {A1 A2 : Option Addr} {c1 c2 : Nat} {g : Nat} {cs : Array Value} {t : TypeId} (L : Lies w g t cs) (hcs : cs.toList = cellsT t1 A1 c1 ++ cellsT t2 A2 c2) (hg : X g) (h1 : TIn w X t1 A1) (h2 : TIn w X t2 A2) : LIn w X [t1, t2] (some ⟨g, 0, none⟩) 0 :=
  LIn.of_lies (((RowTr.nil w X).snoc (c := c1) h1).snoc (c := c2) h2) L (by simpa using hcs) hg
theorem rMay_any (t : Tr) (A : Option Addr) (c : Nat) (w : World) (hI : TIn w Any t A) :
    Calls Tryz.prog 18 #[tv t A c] w fun e w' => e = .returned (.bool (mayV t)) ∧ Below w.heap.size w w' := by
  have hE : mayRT t false = mayV t := by
    rw [may_eq]
    unfold mayV
    by_cases h : t.kind = 8 <;> simp [h]
  obtain ⟨k, s, n, a, l⟩ := t
  have HM := Lib.hid (rmay_any (depthT (.node k s n a l)) (.node k s n a l) A c false (w.alloc (.cells #[.int .i64 k, .string s, .int .i64 n, .int .i64 a, .slice A l.length (capF l.length c)] 24)) (Nat.le_refl _) (TIn.below _ hI ((Below.refl _ w).alloc (Nat.le_refl _) _) (Nat.le_refl _)))
  rw [hE] at HM
  clear hE hI
  show Calls Tryz.prog 18 #[.agg #[.int .i64 k, .string s, .int .i64 n, .int .i64 a, .slice A l.length (capF l.length c)]] w _
  go_enter Tryz.func18, Tryz.ntmps18
  go_wp2_with fail
  refine HM.out.mono ?_
  rintro e w2 ⟨rfl, hb2⟩
  go_wp2_with fail
  go_ret
  exact ⟨rfl, below_ac hb2⟩

def bx : ByteArray := ⟨#[120]⟩
def T1 : Tr := .node 2 bx 0 1 [.node 1 bx 0 3 []]
def T2 : Tr := .node 9 ⟨#[]⟩ 7 6 []
/-- A function that tells what it is told, applied to a number. -/
def T0 : Tr := .node 3 ⟨#[]⟩ 0 0 [T1, T2]
theorem LIn.shift : ∀ (l : List Tr) {w : World} {X : Nat → Prop} {g o j : Nat}, LIn w X l (some ⟨g, o, none⟩) (j + 1) → LIn w X l (some ⟨g, o + 5, none⟩) j
  | [], w, X, g, o, j, _ => by rw [LIn]; trivial
  | t :: r, w, X, g, o, j, h => by
    rw [LIn] at h ⊢
    obtain ⟨⟨g', o', A', c, ⟨e, hX⟩, h0, h1, h2, h3, h4, ht⟩, hr⟩ := h
    injection e with e
    injection e with e1 e2
    subst e1 e2
    have ho : o + 5 + j * 5 = o + (j + 1) * 5 := by omega
    exact ⟨⟨g, o + 5, A', c, ⟨rfl, hX⟩, by rw [ho]; exact h0, by rw [ho]; exact h1, by rw [ho]; exact h2, by rw [ho]; exact h3, by rw [ho]; exact h4, ht⟩, LIn.shift r hr⟩

/-- What stands all along: the law's tree, its bare one, and the table of signs. -/
structure Fx (w W : World) (g G1 G2 : Nat) (A2 : Option Addr) (c2 : Nat) : Prop where
  lt : Lies W G1 24 #[.int .i64 3, .string ⟨#[]⟩, .int .i64 0, .int .i64 0, .slice (some ⟨g, 0, none⟩) 2 2]
  lb : Lies W G2 24 #[.int .i64 3, .string ⟨#[]⟩, .int .i64 0, .int .i64 0, .slice A2 2 c2]
  t0 : TIn W Any T0 (some ⟨g, 0, none⟩)
  b0 : TIn W Any (bareT T0) A2
  sg : Signs W
  bw : Below w.heap.size w W
theorem Fx.step {w W W' : World} {g G1 G2 : Nat} {A2 : Option Addr} {c2 : Nat} (h : Fx w W g G1 G2 A2 c2) (hb : Below W.heap.size W W') : Fx w W' g G1 G2 A2 c2 :=
  ⟨h.lt.below hb h.lt.lt, h.lb.below hb h.lb.lt, TIn.below _ h.t0 hb (Nat.le_refl _), TIn.below _ h.b0 hb (Nat.le_refl _), h.sg.below hb h.sg.pos, h.bw.trans (hb.mono h.bw.size)⟩
theorem Fx.part {w W : World} {g G1 G2 : Nat} {A2 : Option Addr} {c2 : Nat} (h : Fx w W g G1 G2 A2 c2) : ∃ A' c', W.cell? ⟨g, 0, none⟩ = some (.int .i64 2) ∧ W.cell? ⟨g, 1, none⟩ = some (.string bx) ∧ W.cell? ⟨g, 2, none⟩ = some (.int .i64 0) ∧ W.cell? ⟨g, 3, none⟩ = some (.int .i64 1) ∧ W.cell? ⟨g, 4, none⟩ = some (.slice A' 1 c') ∧ TIn W Any T1 A' := by
  obtain ⟨g', o', A', c', ⟨e, _⟩, h0, h1, h2, h3, h4, ht⟩ := h.t0.part 0 (by decide)
  injection e with e
  injection e with e1 e2
  subst e1 e2
  exact ⟨A', capF 1 c', h0, h1, h2, h3, h4, ht⟩
theorem Fx.bare {w W : World} {g G1 G2 : Nat} {A2 : Option Addr} {c2 : Nat} (h : Fx w W g G1 G2 A2 c2) : ∃ g' o', A2 = some ⟨g', o', none⟩ ∧ W.cell? ⟨g', o' + 3, none⟩ = some (.int .i64 0) := by
  obtain ⟨g', o', A', c', ⟨e, _⟩, h0, h1, h2, h3, h4, ht⟩ := h.b0.part 0 (by decide)
  refine ⟨g', o', e, ?_⟩
  rw [Nat.zero_mul, Nat.add_zero] at h3
  exact h3
/-- The alternative of the second part. -/
def T8 : Tr := .node 8 ⟨#[65]⟩ 0 0 [T2]
theorem Fx.alt {w W : World} {g G1 G2 : Nat} {A2 : Option Addr} {c2 : Nat} (h : Fx w W g G1 G2 A2 c2) : TIn W Any T8 (some ⟨g, 5, none⟩) := by
  have h0 := h.t0
  unfold T0 at h0
  rw [TIn, LIn] at h0
  have h1 := LIn.shift _ h0.2.2.2
  rw [Nat.zero_add] at h1
  exact TIn.mk (by decide) (by decide) h1
end Lx
end Go.Proofs.YtobdoahdjbmflaaGreatDoor
namespace Go.Proofs.YtobdoahdjbmflaaGreatDoor
open Go.RowKit
namespace Lx
set_option maxRecDepth 100000
theorem mayV_ok (t : Tr) (h : mayV t = true) : okT t := by
  have hE : mayRT t false = mayV t := by
    rw [may_eq]
    unfold mayV
    by_cases h : t.kind = 8 <;> simp [h]
  exact mayR_ok t false (by rw [hE, h])
set_option maxHeartbeats 4000000 in
theorem rCons_ok (t : Tr) (A : Option Addr) (c : Nat) (w : World) (hI : TIn w Any t A) (hm : mayV t = true) (hz : sizeT t ≤ 5000) :
    Calls Tryz.prog 16 #[tv t A c] w (AGive (consT t) w) := by
  have hok := mayV_ok t hm
  have HM := Lib.hid (fun W (h : TIn W Any t A) => rMay_any t A c W h)
  rw [hm] at HM
  have HC := Lib.hid (fun (Al : Option Addr) (cl : Nat) (W : World) (h : TIn W Any t A) (hA : AIn W Any heads5 Al) => cons5_any (depthT t) t A c heads5 Al cl W (Nat.le_refl _) hok (by decide) (by show 2 + sizeT t ≤ 10000; omega) h hA)
  obtain ⟨L, hL⟩ : ∃ L, L = onceN heads5 (metT t) := ⟨_, rfl⟩
  have HLE : Hid (consT t = L) := Lib.hid (by rw [hL]; rfl)
  rw [← hL] at HC
  have HI := Lib.hid hI
  clear hI hm hz hok hL
  obtain ⟨k, s, n, a, l⟩ := t
  simp only [tv, Tr.kind, Tr.name, Tr.n, Tr.place, Tr.parts] at HM HC
  show Calls Tryz.prog 16 #[.agg #[.int .i64 k, .string s, .int .i64 n, .int .i64 a, .slice A l.length (capF l.length c)]] w _
  generalize l.length = m at *
  generalize capF m c = c at *
  have hb0 : Below w.heap.size w (w.alloc (.cells #[.int .i64 k, .string s, .int .i64 n, .int .i64 a, .slice A m c] 24)) := (Below.refl _ w).alloc (Nat.le_refl _) _
  have hL0 := Lies.new w 24 #[.int .i64 k, .string s, .int .i64 n, .int .i64 a, .slice A m c]
  have HM2 := Lib.hid (HM.out _ (TIn.below _ HI.out hb0 (Nat.le_refl _)))
  go_enter Tryz.func16, Tryz.ntmps16
  go_wp2_with fail
  refine HM2.out.mono ?_
  rintro e w1 ⟨rfl, hb1⟩
  have hb2 := hb0.trans (hb1.mono hb0.size)
  have hL2 := hL0.below hb1 hL0.lt
  obtain ⟨⟨x0, x1, x2, x3, x4⟩, _⟩ := (hL2.old (.cells #[.string ⟨#[84, 114, 117, 101]⟩, .int .i64 0, .string ⟨#[70, 97, 108, 115, 101]⟩, .int .i64 0] 43)).five
  obtain ⟨⟨y0, y1, y2, y3, y4⟩, _⟩ := hL2.five
  have hb3 := hb2.alloc hb2.size (.cells #[.string ⟨#[84, 114, 117, 101]⟩, .int .i64 0, .string ⟨#[70, 97, 108, 115, 101]⟩, .int .i64 0] 43)
  have hLA := Lies.new w1 43 #[.string ⟨#[84, 114, 117, 101]⟩, .int .i64 0, .string ⟨#[70, 97, 108, 115, 101]⟩, .int .i64 0]
  have hAI : AIn (w1.alloc (.cells #[.string ⟨#[84, 114, 117, 101]⟩, .int .i64 0, .string ⟨#[70, 97, 108, 115, 101]⟩, .int .i64 0] 43)) Any heads5 (some ⟨w1.heap.size, 0, none⟩) := fun i hi => by
    have hi2 : i = 0 ∨ i = 1 := by have : i < 2 := hi; omega
    rcases hi2 with rfl | rfl
    · exact ⟨w1.heap.size, 0, rfl, trivial, hLA.cell 0, hLA.cell 1⟩
    · exact ⟨w1.heap.size, 0, rfl, trivial, hLA.cell 2, hLA.cell 3⟩
  have HC2 := Lib.hid (HC.out (some ⟨w1.heap.size, 0, none⟩) 2 _ (TIn.below _ HI.out hb3 (Nat.le_refl _)) hAI)
  have e2 : heads5.length = 2 := rfl
  rw [e2] at HC2
  clear hLA hAI HC HM HM2 hL0 hb0 hb1 e2
  go_wp2_with fail
  refine HC2.out.mono ?_
  rintro e w4 ⟨A4, c4, rfl, hA4, hb4⟩
  have hb5 := hb3.trans (hb4.mono hb3.size)
  have HA4 := Lib.hid hA4
  have HB5 := Lib.hid hb5
  clear hA4 hb4 hb5 hb3 hb2 HC2 hL2 x0 x1 x2 x3 x4 y0 y1 y2 y3 y4
  go_wp2_with fail
  go_ret
  rw [HLE.out]
  exact ⟨A4, c4, rfl, HA4.out, HB5.out⟩
theorem onceN_cons_len (t : Tr) : (consT t).length ≤ 2 + sizeT t := by
  have h1 := (onceN_len heads5 (metT t)).2
  have h2 := metT_len t
  have h3 : heads5.length = 2 := rfl
  show (onceN heads5 (metT t)).length ≤ _
  omega
set_option maxHeartbeats 4000000 in
theorem rCheck_ok (t : Tr) (A : Option Addr) (c : Nat) (w : World) (hI : TIn w Any t A) (hm : mayV t = true) (hz : sizeT t ≤ 5000) (hd : depthT t ≤ 5000) (hbad : badT (consT t) [] [] t = (0, 0)) :
    Calls Tryz.prog 10 #[tv t A c] w fun e w' => e = .returned (.tuple #[.int .i64 0, .int .i64 0]) ∧ Below w.heap.size w w' := by
  have hok := mayV_ok t hm
  have HM := Lib.hid (fun W (h : TIn W Any t A) => rMay_any t A c W h)
  rw [hm] at HM
  have hcl := onceN_cons_len t
  have HK := Lib.hid (fun W (h : TIn W Any t A) => rCons_ok t A c W h hm hz)
  have HC := Lib.hid (fun (Al : Option Addr) (cl : Nat) (W : World) (h : TIn W Any t A) (hA : AIn W Any (consT t) Al) => check5_any (consT t) Al (depthT t) t A c [] [] none 0 none 0 cl W (Nat.le_refl _) hok (by simp; omega) (by simp) h (SIn.nil _ _ _) (fun _ => rfl) (SIn.nil _ _ _) (by omega) hA)
  rw [hbad] at HC
  obtain ⟨L, hL⟩ : ∃ L, L = consT t := ⟨_, rfl⟩
  rw [← hL] at HC HK hcl
  have HI := Lib.hid hI
  clear hI hm hz hok hL hbad hd
  obtain ⟨k, s, n, a, l⟩ := t
  simp only [tv, Tr.kind, Tr.name, Tr.n, Tr.place, Tr.parts, List.length_nil] at HM HC HK
  show Calls Tryz.prog 10 #[.agg #[.int .i64 k, .string s, .int .i64 n, .int .i64 a, .slice A l.length (capF l.length c)]] w _
  generalize l.length = m at *
  generalize capF m c = c at *
  have hb0 : Below w.heap.size w (w.alloc (.cells #[.int .i64 k, .string s, .int .i64 n, .int .i64 a, .slice A m c] 24)) := (Below.refl _ w).alloc (Nat.le_refl _) _
  have hL0 := Lies.new w 24 #[.int .i64 k, .string s, .int .i64 n, .int .i64 a, .slice A m c]
  have HM2 := Lib.hid (HM.out _ (TIn.below _ HI.out hb0 (Nat.le_refl _)))
  go_enter Tryz.func10, Tryz.ntmps10
  go_wp2_with fail
  refine HM2.out.mono ?_
  rintro e w1 ⟨rfl, hb1⟩
  have hb2 := hb0.trans (hb1.mono hb0.size)
  have hL2 := hL0.below hb1 hL0.lt
  clear HM HM2 hL0 hb0 hb1
  obtain ⟨mL, hmL⟩ : ∃ q, q = L.length := ⟨_, rfl⟩
  have HSS : Hid (∀ V', Below w1.heap.size w1 V' → (V'.cell? ⟨w.heap.size, 0, none⟩ = some (.int .i64 k) ∧ V'.cell? ⟨w.heap.size, 1, none⟩ = some (.string s) ∧ V'.cell? ⟨w.heap.size, 2, none⟩ = some (.int .i64 n) ∧ V'.cell? ⟨w.heap.size, 3, none⟩ = some (.int .i64 a) ∧ V'.cell? ⟨w.heap.size, 4, none⟩ = some (.slice A m c))) := Lib.hid fun V' h =>
    ⟨(h.cell (p := ⟨w.heap.size, 0, none⟩) hL2.lt).trans (hL2.cell 0), (h.cell (p := ⟨w.heap.size, 1, none⟩) hL2.lt).trans (hL2.cell 1), (h.cell (p := ⟨w.heap.size, 2, none⟩) hL2.lt).trans (hL2.cell 2), (h.cell (p := ⟨w.heap.size, 3, none⟩) hL2.lt).trans (hL2.cell 3), (h.cell (p := ⟨w.heap.size, 4, none⟩) hL2.lt).trans (hL2.cell 4)⟩
  have HK2 : Hid (∀ X, Below w1.heap.size w1 X → Calls Tryz.prog 16 #[.agg #[.int .i64 k, .string s, .int .i64 n, .int .i64 a, .slice A m c]] X fun e w' => ∃ Al cl, e = .returned (.slice Al mL cl) ∧ Hid (AIn w' Any L Al) ∧ Below X.heap.size X w') := Lib.hid fun X hX =>
    (HK.out X (TIn.below _ HI.out (hb2.trans (hX.mono hb2.size)) (Nat.le_refl _))).mono fun e w' h => by
      obtain ⟨Al, cl, h1, h2, h3⟩ := h
      exact ⟨Al, cl, by rw [h1, hmL], Lib.hid h2, h3⟩
  have HC2 : Hid (∀ X, Below w1.heap.size w1 X → ∀ Al cl, Hid (AIn X Any L Al) → Calls Tryz.prog 29 #[.agg #[.int .i64 k, .string s, .int .i64 n, .int .i64 a, .slice A m c], .slice none 0 0, .slice none 0 0, .slice Al mL cl] X fun e w' => e = .returned (.tuple #[.int .i64 0, .int .i64 0]) ∧ Below X.heap.size X w') := Lib.hid fun X hX Al cl hA => by
    rw [hmL]; exact HC.out Al cl X (TIn.below _ HI.out (hb2.trans (hX.mono hb2.size)) (Nat.le_refl _)) hA.out
  clear HC HK hmL hL2
  go_upto_region 3 with fail
  have hb_1 : Below w1.heap.size w1 w1 := Below.refl _ _
  refine wp_region_K (S := (fun V' : World => (V'.cell? ⟨w.heap.size, 0, none⟩ = some (.int .i64 k) ∧ V'.cell? ⟨w.heap.size, 1, none⟩ = some (.string s) ∧ V'.cell? ⟨w.heap.size, 2, none⟩ = some (.int .i64 n) ∧ V'.cell? ⟨w.heap.size, 3, none⟩ = some (.int .i64 a) ∧ V'.cell? ⟨w.heap.size, 4, none⟩ = some (.slice A m c)))) 7 rfl (HSS.out _ hb_1.drew) (fun hSs => ?_)
  change wpAnyK _ _ _ _ _ _ 8 (Array.replicate 8 false) _ _
  refine wpAnyK_take (i := 0) (oi := ⟨some 7, _, _, _, _, _⟩) (v := .agg #[.int .i64 k, .string s, .int .i64 n, .int .i64 a, .slice A m c]) rfl (by kernel_rfl) (by kernel_rfl) (by kernel_rfl) (by kernel_rfl) (fun _ _ _ h => h) (.inl ⟨by kernel_rfl, fun W hW => by first | (obtain ⟨z0, z1, z2, z3, z4⟩ := hW; go_simp; done) | (obtain ⟨z0, z1, z2, z3, z4⟩ := hW; go_simp; omega) | (obtain ⟨z0, z1, z2, z3, z4⟩ := hW; go_simp; exact IntWalk.i64_in _ (by omega)) | (obtain ⟨z0, z1, z2, z3, z4⟩ := hW; go_simp; simp [*]; done)⟩) hSs ?_
  try simp only [Act.put, List.setIfInBounds_toArray, List.set_cons_zero, List.set_cons_succ]
  refine wpAnyK_take (i := 1) (oi := ⟨some 8, _, _, _, _, _⟩) (v := .agg #[.int .i64 k, .string s, .int .i64 n, .int .i64 a, .slice A m c]) rfl (by kernel_rfl) (by kernel_rfl) (by kernel_rfl) (by kernel_rfl) (fun _ _ _ h => h) (.inl ⟨by kernel_rfl, fun W hW => by first | (obtain ⟨z0, z1, z2, z3, z4⟩ := hW; go_simp; done) | (obtain ⟨z0, z1, z2, z3, z4⟩ := hW; go_simp; omega) | (obtain ⟨z0, z1, z2, z3, z4⟩ := hW; go_simp; exact IntWalk.i64_in _ (by omega)) | (obtain ⟨z0, z1, z2, z3, z4⟩ := hW; go_simp; simp [*]; done)⟩) hSs ?_
  try simp only [Act.put, List.setIfInBounds_toArray, List.set_cons_zero, List.set_cons_succ]
  refine wpAnyK_one  (i := 2) rfl rfl (by kernel_rfl) (fun K hK => ?_)
  go_simp
  refine (HK2.out _ (hb_1.drew) ).mono ?_
  rintro e u_2 ⟨A_2, c_2, rfl, hA_2, hq_2⟩
  have hb_2 := (hb_1.drew).trans (hq_2.mono (hb_1.drew).size)
  refine hK.out _ _ (fun _ => HSS.out _ hb_2) (fun hS9 => ?_)
  have hS_2 := hS9 (by decide)
  clear hK K hS9
  try simp only [Act.put, List.setIfInBounds_toArray, List.set_cons_zero, List.set_cons_succ]
  refine wpAnyK_one  (i := 3) rfl rfl (by kernel_rfl) (fun K hK => ?_)
  go_simp
  refine (HC2.out _ hb_2 A_2 c_2 hA_2).mono ?_
  rintro e u_3 ⟨rfl, hq_3⟩
  have hb_3 := hb_2.trans (hq_3.mono hb_2.size)
  refine hK.out _ _ (fun _ => HSS.out _ hb_3) (fun hS9 => ?_)
  have hS_3 := hS9 (by decide)
  clear hK K hS9
  try simp only [Act.put, List.setIfInBounds_toArray, List.set_cons_zero, List.set_cons_succ]
  refine wpAnyK_take (i := 4) (oi := ⟨some 11, _, _, _, _, _⟩) (v := .int .i64 0) rfl (by kernel_rfl) (by kernel_rfl) (by kernel_rfl) (by kernel_rfl) (fun _ _ _ h => h) (.inl ⟨by kernel_rfl, fun W hW => by first | (obtain ⟨z0, z1, z2, z3, z4⟩ := hW; go_simp; done) | (obtain ⟨z0, z1, z2, z3, z4⟩ := hW; go_simp; omega) | (obtain ⟨z0, z1, z2, z3, z4⟩ := hW; go_simp; exact IntWalk.i64_in _ (by omega)) | (obtain ⟨z0, z1, z2, z3, z4⟩ := hW; go_simp; simp [*]; done)⟩) hS_3 ?_
  try simp only [Act.put, List.setIfInBounds_toArray, List.set_cons_zero, List.set_cons_succ]
  refine wpAnyK_take (i := 5) (oi := ⟨some 12, _, _, _, _, _⟩) (v := .int .i64 0) rfl (by kernel_rfl) (by kernel_rfl) (by kernel_rfl) (by kernel_rfl) (fun _ _ _ h => h) (.inl ⟨by kernel_rfl, fun W hW => by first | (obtain ⟨z0, z1, z2, z3, z4⟩ := hW; go_simp; done) | (obtain ⟨z0, z1, z2, z3, z4⟩ := hW; go_simp; omega) | (obtain ⟨z0, z1, z2, z3, z4⟩ := hW; go_simp; exact IntWalk.i64_in _ (by omega)) | (obtain ⟨z0, z1, z2, z3, z4⟩ := hW; go_simp; simp [*]; done)⟩) hS_3 ?_
  try simp only [Act.put, List.setIfInBounds_toArray, List.set_cons_zero, List.set_cons_succ]
  refine wpAnyK_take (i := 6) (oi := ⟨some 2, _, _, _, _, _⟩) (v := .int .i64 0) rfl (by kernel_rfl) (by kernel_rfl) (by kernel_rfl) (by kernel_rfl) (fun _ _ _ h => h) (.inl ⟨by kernel_rfl, fun W hW => by kernel_rfl⟩) hS_3 ?_
  try simp only [Act.put, List.setIfInBounds_toArray, List.set_cons_zero, List.set_cons_succ]
  refine wpAnyK_one  (i := 7) rfl rfl (by kernel_rfl) (fun K hK => ?_)
  go_simp
  refine hK.out _ _ (fun h => absurd rfl h) (fun _ => ?_)
  clear hK K
  try simp only [Act.put, List.setIfInBounds_toArray, List.set_cons_zero, List.set_cons_succ]
  refine wpAnyK_done (by kernel_rfl) ?_ _
  have hb3 := hb2.trans (hb_3.mono hb2.size)
  clear hb_3 hb2
  go_wp2_with fail
  go_ret2
  exact ⟨rfl, hb3⟩
end Lx
end Go.Proofs.YtobdoahdjbmflaaGreatDoor
