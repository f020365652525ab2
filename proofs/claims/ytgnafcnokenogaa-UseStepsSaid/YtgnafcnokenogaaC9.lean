/-
  Texts that lie one behind the other: RefTok SuMy.
-/
import Derived.Test.YtgnafcnokenogaaC8
import Derived.Test.YtgnafcnokenogaaC7
import Derived.Deep.QuietTactic
import Derived.BigQuiet
import Derived.Deep.DeepCutAuto
namespace Go.Proofs.Ytgnafcnokenogaa
open Go.RowKit
namespace Lx
set_option maxRecDepth 100000
theorem run_take_min (P : Int → Bool) : ∀ (l : List UInt8) (n : Nat), run P (l.take n) = min (run P l) n
  | [], n => by simp [run]
  | c :: l, 0 => by simp [run]
  | c :: l, n + 1 => by
    have := run_take_min P l n
    by_cases h : P (c.toNat : Int)
    · simp only [List.take_succ_cons, run, h, if_true, this]; omega
    · simp [run, h]
theorem b48' (c : UInt8) : ((c.toNat : Int) == 48) = decide (c = 48) := b48 c
theorem one_both (s : ByteArray) (k : Nat) (w : World) (hk : k < s.size) (hs : s.size ≤ 140737488351232) :
    Calls Try.prog 62 #[.string s, .int .i64 k] w fun e w' =>
      (∀ kd n t, tokK (s.data.toList.drop k) = .ok (kd, n, t) → e = .returned (tokR kd n t k)) ∧ (∀ x, tokK (s.data.toList.drop k) = .error x → e = .returned (noTokR x)) ∧ Below w.heap.size w w' := by
  have hlen : k < s.data.toList.length := by simpa using hk
  have hb : s.data.toList[k]'hlen = s[k]'hk := by simp [ByteArray.getElem_eq_getElem_data]
  have hD := List.drop_eq_getElem_cons hlen
  rw [hb] at hD
  obtain ⟨c, hc⟩ : ∃ c, s[k]'hk = c := ⟨_, rfl⟩
  rw [hc] at hD
  obtain ⟨D, hDD⟩ : ∃ D, D = s.data.toList.drop k := ⟨_, rfl⟩
  obtain ⟨r, hr⟩ : ∃ r, r = s.data.toList.drop (k + 1) := ⟨_, rfl⟩
  rw [← hDD, ← hr] at hD
  obtain ⟨N, hN⟩ : ∃ N, run ldR D = N := ⟨_, rfl⟩
  have hNle := run_le ldR D
  have hDl : D.length = s.size - k := by rw [hDD, List.length_drop, ← Lib.size_eq]
  rcases Nat.eq_zero_or_pos N with h0 | h0
  · have ht : tokK D = match signOf D with | some g => .ok (5, 0, g) | none => .error 10 := by
      unfold tokK; rw [if_neg (by omega)]
      cases signOf D <;> rfl
    rw [← hDD]
    cases hg : signOf D with
    | none =>
      rw [hg] at ht
      refine (one_none s k w hk hs (by rw [← hDD, hN, h0]) (by rw [← hDD]; unfold sgnV; rw [hg])).mono ?_
      rintro e w' ⟨rfl, hb⟩
      refine ⟨fun kd n t h => ?_, fun x h => ?_, hb⟩
      · rw [ht] at h; cases h
      · rw [ht] at h; cases h; rfl
    | some g =>
      rw [hg] at ht
      have htt := tok_text ht
      refine (one_sign s k w hk hs (by rw [← hDD, hN, h0]) g.length (by rw [← hDD]; unfold sgnV; rw [hg]) htt.1 (by omega)).mono ?_
      rintro e w' ⟨rfl, hb⟩
      refine ⟨fun kd n t h => ?_, fun x h => ?_, hb⟩
      · rw [ht] at h
        simp only [Except.ok.injEq, Prod.mk.injEq] at h
        obtain ⟨rfl, rfl, rfl⟩ := h
        rw [← hDD, htt.2.2]
      · rw [ht] at h; cases h
  · obtain ⟨L, hL⟩ : ∃ L, L = D.take N := ⟨_, rfl⟩
    have hLl : L.length = N := by rw [hL, List.length_take]; omega
    have hLc : ∃ q, L = c :: q := by
      rw [hL, hD]
      obtain ⟨m, rfl⟩ : ∃ m, N = m + 1 := ⟨N - 1, by omega⟩
      exact ⟨_, List.take_succ_cons⟩
    have hdl : run digR L = min (run digR D) N := by rw [hL, run_take_min]
    have ht : tokK D = match runK L with | .ok (k, n) => .ok (k, n, L) | .error e => .error e := by
      unfold tokK; rw [if_pos (by omega), hN, ← hL]
      rcases runK L with e | ⟨a, b⟩ <;> rfl
    have hld : ldR (c.toNat : Int) = true := (run_pos_iff ldR c r).1 (by rw [← hD, hN]; exact h0)
    have hR : ∀ b, decide (run digR D < N) = b → RunAt s k N c b := fun b hb => ⟨hk, hs, hc, by rw [← hDD, hN], by rw [← hDD]; exact hb⟩
    have hLD : (s.data.toList.drop k).take N = L := by rw [← hDD, hL]
    rw [← hDD]
    obtain ⟨q, hq⟩ := hLc
    by_cases hd : digR (c.toNat : Int) = true
    · have h1 : 0 < run digR L := by rw [hq]; exact (run_pos_iff digR c q).2 hd
      have hrk : runK L = numK L := by unfold runK; rw [if_pos h1]
      by_cases hlt : run digR D < N
      · have hn : numK L = .error 10 := by unfold numK; rw [if_pos (by omega)]
        rw [hrk, hn] at ht
        refine (one_err s k N c true w (hR _ (by simpa using hlt)) h0 10 (.inl ⟨hd, rfl, rfl⟩)).mono ?_
        rintro e w' ⟨rfl, hb⟩
        refine ⟨fun kd n t h => ?_, fun x h => ?_, hb⟩
        · rw [ht] at h; cases h
        · rw [ht] at h; cases h; rfl
      · have hRf := hR false (by simpa using hlt)
        have hnd : ¬ run digR L < L.length := by omega
        by_cases h18 : 18 < N
        · have hn : numK L = .error 11 := by unfold numK; rw [if_neg hnd, if_pos (.inl (by omega))]
          rw [hrk, hn] at ht
          refine (one_err s k N c false w hRf h0 11 (.inr (.inl ⟨hd, rfl, h18, rfl⟩))).mono ?_
          rintro e w' ⟨rfl, hb⟩
          refine ⟨fun kd n t h => ?_, fun x h => ?_, hb⟩
          · rw [ht] at h; cases h
          · rw [ht] at h; cases h; rfl
        · by_cases hz : 1 < N ∧ c = 48
          · have hn : numK L = .error 11 := by unfold numK; rw [if_neg hnd, if_pos (.inr ⟨by omega, by rw [hq, hz.2]; rfl⟩)]
            rw [hrk, hn] at ht
            refine (one_err s k N c false w hRf h0 11 (.inr (.inr (.inl ⟨hd, rfl, h18, hz.1, hz.2, rfl⟩)))).mono ?_
            rintro e w' ⟨rfl, hb⟩
            refine ⟨fun kd n t h => ?_, fun x h => ?_, hb⟩
            · rw [ht] at h; cases h
            · rw [ht] at h; cases h; rfl
          · have hn : numK L = .ok (3, numV L) := by
              unfold numK
              rw [if_neg hnd, if_neg]
              rintro (h | ⟨h, h'⟩)
              · omega
              · rw [hq] at h'
                exact hz ⟨by omega, by simpa using h'⟩
            rw [hrk, hn] at ht
            refine (one_num s k N c w hRf h0 hd h18 ?_ (by rw [hLD, hdl]; omega)).mono ?_
            · by_cases h1' : 1 < N
              · refine .inr ⟨h1', ?_⟩
                rw [b48', decide_eq_false]
                exact fun h => hz ⟨h1', h⟩
              · exact .inl (by omega)
            rintro e w' ⟨rfl, hb⟩
            refine ⟨fun kd n t h => ?_, fun x h => ?_, hb⟩
            · rw [ht] at h
              simp only [Except.ok.injEq, Prod.mk.injEq] at h
              obtain ⟨rfl, rfl, rfl⟩ := h
              rw [hLD]
            · rw [ht] at h; cases h
    · have hd' : digR (c.toNat : Int) = false := by simpa using hd
      have h1 : ¬ 0 < run digR L := by rw [hq, run_pos_iff]; exact hd
      obtain ⟨b, hb'⟩ : ∃ b, decide (run digR D < N) = b := ⟨_, rfl⟩
      have hlu : lowR (c.toNat : Int) = true ∨ (lowR (c.toNat : Int) = false ∧ upR (c.toNat : Int) = true) := by
        simp only [ldR, hd', Bool.or_false] at hld
        cases h : lowR (c.toNat : Int)
        · rw [h] at hld; exact .inr ⟨rfl, by simpa using hld⟩
        · exact .inl rfl
      have hcv : clsV (c.toNat : Int) = if 0 < run lowR L then 1 else 2 := by
        rw [hq]
        simp only [run_pos_iff]
        rcases hlu with h | ⟨h, h'⟩
        · simp [clsV, h]
        · simp [clsV, h, h']
      have hc3 : (clsV (c.toNat : Int) == 3) = false := by rw [hcv]; split <;> rfl
      by_cases h16 : 16 < N
      · have hrk : runK L = .error 11 := by unfold runK; rw [if_neg h1, if_pos (by omega)]
        rw [hrk] at ht
        refine (one_err s k N c b w (hR b hb') h0 11 (.inr (.inr (.inr ⟨hd', h16, hc3, rfl⟩)))).mono ?_
        rintro e w' ⟨rfl, hb⟩
        refine ⟨fun kd n t h => ?_, fun x h => ?_, hb⟩
        · rw [ht] at h; cases h
        · rw [ht] at h; cases h; rfl
      · refine (one_word s k N c b w (hR b hb') h0 _ rfl hc3 h16 (wordS L) (by rw [hLD])).mono ?_
        rintro e w' ⟨rfl, hb⟩
        have hrk : runK L = .ok (cond (wordS L) 4 (clsV (c.toNat : Int)), 0) := by
          unfold runK
          rw [if_neg h1, if_neg (by omega), hcv]
          cases wordS L
          · by_cases hp : 0 < run lowR L <;> simp [hp]
          · simp
        rw [hrk] at ht
        refine ⟨fun kd n t h => ?_, fun x h => ?_, hb⟩
        · rw [ht] at h
          simp only [Except.ok.injEq, Prod.mk.injEq] at h
          obtain ⟨rfl, rfl, rfl⟩ := h
          rw [hLD]
        · rw [ht] at h; cases h
end Lx
end Go.Proofs.Ytgnafcnokenogaa
namespace Go.Proofs.Ytgnafcnokenogaa
open Go.RowKit
namespace Lx
set_option maxRecDepth 100000
theorem strE_empty (s : ByteArray) : s.toList.isEmpty = (s.data.toList == []) := by rw [data_list]; cases s.data.toList <;> rfl
def conW (s : ByteArray) : Bool := kindV 2 s.data.toList
set_option maxHeartbeats 2000000 in
theorem con6_any (s : ByteArray) (w : World) (hs : s.size ≤ 140737488351232) :
    Calls Try.prog 45 #[.string s] w fun e w' => e = .returned (.bool (conW s)) ∧ Below w.heap.size w w' := by
  by_cases h0 : s.size = 0
  · have hl : s.data.toList = [] := List.eq_nil_of_length_eq_zero (by rw [← Lib.size_eq]; exact h0)
    have e3 : s.toList = [] := by rw [data_list]; exact hl
    have HF : Hid (conW s = false) := by
      show _ = _
      rw [conW, hl]; rfl
    clear hl h0
    go_enter Try.func45, Try.ntmps45
    go_wp2_with fail
    go_ret
    exact ⟨ret_bool HF.out.symm, Below.refl _ _⟩
  · have hl : s.data.toList ≠ [] := by
      intro e
      have := congrArg List.length e
      rw [← Lib.size_eq] at this
      exact h0 this
    have e3 : s.toList.isEmpty = false := by rw [data_list]; cases h : s.data.toList with | nil => exact absurd h hl | cons _ _ => rfl
    have HK : Hid (refTokV s.data.toList 2 = conW s) := Lib.hid (refTok_kind s.data.toList 2 (.inr rfl) hl)
    have HO := Lib.hid (one_both s 0 w (by omega) hs)
    rw [List.drop_zero] at HO
    cases ht : tokK s.data.toList with
    | error x =>
      have hx := tokK_err ht
      have hx0 : (x == 0) = false := by rcases hx with rfl | rfl <;> rfl
      have hf : refTokV s.data.toList 2 = false := by unfold refTokV; rw [ht]
      have HF := Lib.hid hf
      have HT := Lib.hid ht
      clear ht hf hl h0
      go_enter Try.func45, Try.ntmps45
      go_wp2_with fail
      refine HO.out.mono ?_
      rintro e w2 ⟨_, he, hb2⟩
      have he2 := he x HT.out
      subst he2
      clear he
      unfold noTokR
      go_wp2_with fail
      go_ret
      exact ⟨ret_bool (by rw [← HK.out, HF.out]), hb2.alloc hb2.size _⟩
    | ok r =>
      obtain ⟨kd, n, t⟩ := r
      have hf : refTokV s.data.toList 2 = (decide (kd = 2) && (t == s.data.toList)) := by unfold refTokV; rw [ht]
      have HF := Lib.hid hf
      have HT := Lib.hid ht
      clear ht hf hl h0
      by_cases hkd : kd = 2
      · subst hkd
        go_enter Try.func45, Try.ntmps45
        go_wp2_with fail
        refine HO.out.mono ?_
        rintro e w2 ⟨he, _, hb2⟩
        have he2 := he 2 n t HT.out
        subst he2
        clear he
        unfold tokR
        go_wp2_with fail
        go_ret
        exact ⟨ret_bool (by rw [← HK.out, HF.out, data_list]; simp), hb2.alloc hb2.size _⟩
      · have e1 : (kd == 2) = false := by simpa using hkd
        go_enter Try.func45, Try.ntmps45
        go_wp2_with fail
        refine HO.out.mono ?_
        rintro e w2 ⟨he, _, hb2⟩
        have he2 := he kd n t HT.out
        subst he2
        clear he
        unfold tokR
        go_wp2_with fail
        go_ret
        exact ⟨ret_bool (by rw [← HK.out, HF.out]; simp [hkd]), hb2.alloc hb2.size _⟩
/-- Kind, N, Name and the number of parts. -/
def headR (k n : Int) (s : ByteArray) (m : Nat) (free : Int) (alt : Bool) : Bool :=
  if alt then decide (k = 6) && (conW s && (decide (0 ≤ n) && (decide (n ≤ 8) && decide (m = 1))))
  else if k = 1 then s.toList.isEmpty && (decide (m = 0) && (decide (0 ≤ n) && decide (n < free)))
  else if k = 2 then (s.toList.isEmpty && decide (n = 0)) && decide (m = 1)
  else if k = 3 then (s.toList.isEmpty && decide (n = 0)) && decide (m = 2)
  else if k = 4 then conW s && (decide (n = 0) && decide (m ≤ 8))
  else if k = 5 then (s.toList.isEmpty && decide (n = 0)) && (decide (2 ≤ m) && decide (m ≤ 9))
  else if k = 7 then s.toList.isEmpty && decide (m = 0)
  else if k = 8 then opV s.data.toList && (decide (n = 0) && decide (m = 2))
  else if k = 9 then (s.toList.isEmpty && decide (n = 0)) && decide (m = 0)
  else false
set_option maxHeartbeats 8000000 in
theorem head6_any (k n free : Int) (s : ByteArray) (A : Option Addr) (m c : Nat) (alt : Bool) (w : World) (hs : s.size ≤ 140737488351232) (hm : m ≤ 140737488351232) :
    Calls Try.prog 29 #[.agg #[.int .i64 k, .int .i64 n, .string s, .slice A m c], .int .i64 free, .bool alt] w fun e w' => e = .returned (.bool (headR k n s m free alt)) ∧ Below w.heap.size w w' := by
  obtain ⟨W0, hW0⟩ : ∃ W, W = w.alloc (.cells #[.int .i64 k, .int .i64 n, .string s, .slice A m c] 24) := ⟨_, rfl⟩
  have hb : Below w.heap.size w W0 := by rw [hW0]; exact (Below.refl _ w).alloc (Nat.le_refl _) _
  have l0 : Lies W0 w.heap.size 24 #[.int .i64 k, .int .i64 n, .string s, .slice A m c] := by rw [hW0]; exact Lies.new w _ _
  have HC := Lib.hid (fun X => con6_any s X hs)
  obtain ⟨c0, c1, c2, c3⟩ := l0.four.1
  go_enter Try.func29, Try.ntmps29
  go_upto_region 2 with fail
  rw [← hW0]
  have HB := Lib.hid hb
  have L0 := Lib.hid l0
  clear hW0 hb l0
  go_cut [8] (fun v wx => v = .bool (opV s.data.toList) ∧ wx = W0)
  case first =>
    go_wp2_with fail
    all_goals
      go_meet
      refine ⟨?_, rfl⟩
      rw [← data_list]
      simp_all [opV, Bool.or_assoc]
  case rest =>
    obtain ⟨rfl, rfl⟩ := hcut
    obtain ⟨ob, hob⟩ : ∃ b, b = opV s.data.toList := ⟨_, rfl⟩
    rw [← hob]
    obtain ⟨eb, heb⟩ : ∃ b, b = s.toList.isEmpty := ⟨_, rfl⟩
    have heb' : s.toList.isEmpty = eb := heb.symm
    have HO := Lib.hid hob
    have HE := Lib.hid heb
    clear hob heb
    cases alt
    · rcases (by omega : k = 1 ∨ k = 2 ∨ k = 3 ∨ k = 4 ∨ k = 5 ∨ k = 7 ∨ k = 8 ∨ k = 9 ∨ (k ≠ 1 ∧ k ≠ 2 ∧ k ≠ 3 ∧ k ≠ 4 ∧ k ≠ 5 ∧ k ≠ 7 ∧ k ≠ 8 ∧ k ≠ 9)) with rfl | rfl | rfl | rfl | rfl | rfl | rfl | rfl | hk
      case inr.inr.inr.inl =>
        have HCw := Lib.hid (HC.out wc)
        obtain ⟨cb, hcb⟩ : ∃ b, b = conW s := ⟨_, rfl⟩
        rw [← hcb] at HCw
        have HCB := Lib.hid hcb
        clear hcb HC
        cases cb
        · go_wp2_with fail
          all_goals
            refine HCw.out.mono ?_
            rintro e w2 ⟨rfl, hb2⟩
            go_wp2_with fail
            go_ret
            refine ⟨ret_bool ?_, HB.out.trans (hb2.mono HB.out.size)⟩
            simp [headR, ← HCB.out]
        · by_cases hn : n = 0
          · go_wp2_with fail
            all_goals
              refine HCw.out.mono ?_
              rintro e w2 ⟨rfl, hb2⟩
              have L2 := L0.out.below hb2 L0.out.lt
              obtain ⟨f0, f1, f2, f3⟩ := L2.four.1
              go_wp2_with fail
              all_goals
                go_ret
                refine ⟨ret_bool ?_, HB.out.trans (hb2.mono HB.out.size)⟩
                simp [headR, ← HCB.out, hn]
                try omega
          · have hn' : (n == 0) = false := by simpa using hn
            go_wp2_with fail
            all_goals
              refine HCw.out.mono ?_
              rintro e w2 ⟨rfl, hb2⟩
              have L2 := L0.out.below hb2 L0.out.lt
              obtain ⟨f0, f1, f2, f3⟩ := L2.four.1
              go_wp2_with fail
              all_goals
                go_ret
                refine ⟨ret_bool ?_, HB.out.trans (hb2.mono HB.out.size)⟩
                simp [headR, ← HCB.out, hn]
                try omega
      case inr.inr.inr.inr.inr.inr.inr.inr =>
        obtain ⟨n1, n2, n3, n4, n5, n7, n8, n9⟩ := hk
        have e1 : (k == 1) = false := by simpa using n1
        have e2 : (k == 2) = false := by simpa using n2
        have e3 : (k == 3) = false := by simpa using n3
        have e4 : (k == 4) = false := by simpa using n4
        have e5 : (k == 5) = false := by simpa using n5
        have e7 : (k == 7) = false := by simpa using n7
        have e8 : (k == 8) = false := by simpa using n8
        have e9 : (k == 9) = false := by simpa using n9
        have HF : Hid (headR k n s m free false = false) := by
          refine Lib.hid ?_
          simp [headR, n1, n2, n3, n4, n5, n7, n8, n9]
        clear n1 n2 n3 n4 n5 n7 n8 n9 HC
        go_wp2_with fail
        all_goals
          go_ret
          exact ⟨ret_bool HF.out.symm, HB.out⟩
      all_goals clear HC
      all_goals
        go_wp2_with fail
        all_goals
          go_ret
          refine ⟨ret_bool ?_, HB.out⟩
          have hE := HE.out
          have hO := HO.out
          rw [Bool.eq_iff_iff]
          simp [headR, ← hE, ← hO]
          clear hE hO heb' HE HO
          clear c0 c1 c2 c3 L0 HB
          try (first | omega | grind)
    · by_cases hk : k = 6
      · subst hk
        have HCw := Lib.hid (HC.out wc)
        obtain ⟨cb, hcb⟩ : ∃ b, b = conW s := ⟨_, rfl⟩
        rw [← hcb] at HCw
        have HCB := Lib.hid hcb
        clear hcb HC
        cases cb
        · go_wp2_with fail
          all_goals
            refine HCw.out.mono ?_
            rintro e w2 ⟨rfl, hb2⟩
            go_wp2_with fail
            go_ret
            refine ⟨ret_bool ?_, HB.out.trans (hb2.mono HB.out.size)⟩
            simp [headR, ← HCB.out]
        · by_cases hn0 : 0 ≤ n
          · by_cases hn8 : n ≤ 8
            · go_wp2_with fail
              all_goals
                refine HCw.out.mono ?_
                rintro e w2 ⟨rfl, hb2⟩
                have L2 := L0.out.below hb2 L0.out.lt
                obtain ⟨f0, f1, f2, f3⟩ := L2.four.1
                go_wp2_with fail
                all_goals
                  go_ret
                  refine ⟨ret_bool ?_, HB.out.trans (hb2.mono HB.out.size)⟩
                  rw [Bool.eq_iff_iff]
                  simp [headR, ← HCB.out, hn0, hn8]
                  try omega
            · go_wp2_with fail
              all_goals
                refine HCw.out.mono ?_
                rintro e w2 ⟨rfl, hb2⟩
                have L2 := L0.out.below hb2 L0.out.lt
                obtain ⟨f0, f1, f2, f3⟩ := L2.four.1
                go_wp2_with fail
                all_goals
                  go_ret
                  refine ⟨ret_bool ?_, HB.out.trans (hb2.mono HB.out.size)⟩
                  simp [headR]
                  try (intros; omega)
          · go_wp2_with fail
            all_goals
              refine HCw.out.mono ?_
              rintro e w2 ⟨rfl, hb2⟩
              have L2 := L0.out.below hb2 L0.out.lt
              obtain ⟨f0, f1, f2, f3⟩ := L2.four.1
              go_wp2_with fail
              all_goals
                go_ret
                refine ⟨ret_bool ?_, HB.out.trans (hb2.mono HB.out.size)⟩
                simp [headR]
                try (intros; omega)
      · have e6 : (k == 6) = false := by simpa using hk
        have HF : Hid (headR k n s m free true = false) := by
          refine Lib.hid ?_
          simp [headR, hk]
        clear hk HC
        go_wp2_with fail
        all_goals
          go_ret
          exact ⟨ret_bool HF.out.symm, HB.out⟩
end Lx
end Go.Proofs.Ytgnafcnokenogaa
