/-
  The reference's One answers as the plain function does; token, name, parts.
-/
import Derived.Test.YtnljlocogfacfaaDoorRefOne
import Derived.Test.YtnljlocogfacfaaDoorName
import Derived.Test.YtnljlocogfacfaaDoorDepth
namespace Go.Proofs.YtnljlocogfacfaaDoor
open Go.RowKit
namespace Lx
set_option maxRecDepth 100000
theorem run_take_min (P : Int → Bool) : ∀ (l : List UInt8) (n : Nat), run P (l.take n) = min (run P l) n
  | [], n => by simp [run]
  | c :: l, 0 => by simp [run]
  | c :: l, n + 1 => by
    have := run_take_min P l n
    by_cases h : P (c.toNat : Int)
    · simp only [List.take_succ_cons, run, h, if_true, this]; omega
    · simp [run, h]
theorem b48' (c : UInt8) : ((c.toNat : Int) == 48) = decide (c = 48) := b48 c
theorem one_both (s : ByteArray) (k : Nat) (w : World) (hk : k < s.size) (hs : s.size ≤ 140737488351232) :
    Calls Tryd.prog 37 #[.string s, .int .i64 k] w fun e w' =>
      (∀ kd n t, tokK (s.data.toList.drop k) = .ok (kd, n, t) → e = .returned (tokR kd n t k)) ∧ (∀ x, tokK (s.data.toList.drop k) = .error x → e = .returned (noTokR x)) ∧ Below w.heap.size w w' := by
  have hlen : k < s.data.toList.length := by simpa using hk
  have hb : s.data.toList[k]'hlen = s[k]'hk := by simp [ByteArray.getElem_eq_getElem_data]
  have hD := List.drop_eq_getElem_cons hlen
  rw [hb] at hD
  obtain ⟨c, hc⟩ : ∃ c, s[k]'hk = c := ⟨_, rfl⟩
  rw [hc] at hD
  obtain ⟨D, hDD⟩ : ∃ D, D = s.data.toList.drop k := ⟨_, rfl⟩
  obtain ⟨r, hr⟩ : ∃ r, r = s.data.toList.drop (k + 1) := ⟨_, rfl⟩
  rw [← hDD, ← hr] at hD
  obtain ⟨N, hN⟩ : ∃ N, run ldR D = N := ⟨_, rfl⟩
  have hNle := run_le ldR D
  have hDl : D.length = s.size - k := by rw [hDD, List.length_drop, ← Lib.size_eq]
  rcases Nat.eq_zero_or_pos N with h0 | h0
  · have ht : tokK D = match signOf D with | some g => .ok (5, 0, g) | none => .error 10 := by
      unfold tokK; rw [if_neg (by omega)]
      cases signOf D <;> rfl
    rw [← hDD]
    cases hg : signOf D with
    | none =>
      rw [hg] at ht
      refine (one_none s k w hk hs (by rw [← hDD, hN, h0]) (by rw [← hDD]; unfold sgnV; rw [hg])).mono ?_
      rintro e w' ⟨rfl, hb⟩
      refine ⟨fun kd n t h => ?_, fun x h => ?_, hb⟩
      · rw [ht] at h; cases h
      · rw [ht] at h; cases h; rfl
    | some g =>
      rw [hg] at ht
      have htt := tok_text ht
      refine (one_sign s k w hk hs (by rw [← hDD, hN, h0]) g.length (by rw [← hDD]; unfold sgnV; rw [hg]) htt.1 (by omega)).mono ?_
      rintro e w' ⟨rfl, hb⟩
      refine ⟨fun kd n t h => ?_, fun x h => ?_, hb⟩
      · rw [ht] at h
        simp only [Except.ok.injEq, Prod.mk.injEq] at h
        obtain ⟨rfl, rfl, rfl⟩ := h
        rw [← hDD, htt.2.2]
      · rw [ht] at h; cases h
  · obtain ⟨L, hL⟩ : ∃ L, L = D.take N := ⟨_, rfl⟩
    have hLl : L.length = N := by rw [hL, List.length_take]; omega
    have hLc : ∃ q, L = c :: q := by
      rw [hL, hD]
      obtain ⟨m, rfl⟩ : ∃ m, N = m + 1 := ⟨N - 1, by omega⟩
      exact ⟨_, List.take_succ_cons⟩
    have hdl : run digR L = min (run digR D) N := by rw [hL, run_take_min]
    have ht : tokK D = match runK L with | .ok (k, n) => .ok (k, n, L) | .error e => .error e := by
      unfold tokK; rw [if_pos (by omega), hN, ← hL]
      rcases runK L with e | ⟨a, b⟩ <;> rfl
    have hld : ldR (c.toNat : Int) = true := (run_pos_iff ldR c r).1 (by rw [← hD, hN]; exact h0)
    have hR : ∀ b, decide (run digR D < N) = b → RunAt s k N c b := fun b hb => ⟨hk, hs, hc, by rw [← hDD, hN], by rw [← hDD]; exact hb⟩
    have hLD : (s.data.toList.drop k).take N = L := by rw [← hDD, hL]
    rw [← hDD]
    obtain ⟨q, hq⟩ := hLc
    by_cases hd : digR (c.toNat : Int) = true
    · have h1 : 0 < run digR L := by rw [hq]; exact (run_pos_iff digR c q).2 hd
      have hrk : runK L = numK L := by unfold runK; rw [if_pos h1]
      by_cases hlt : run digR D < N
      · have hn : numK L = .error 10 := by unfold numK; rw [if_pos (by omega)]
        rw [hrk, hn] at ht
        refine (one_err s k N c true w (hR _ (by simpa using hlt)) h0 10 (.inl ⟨hd, rfl, rfl⟩)).mono ?_
        rintro e w' ⟨rfl, hb⟩
        refine ⟨fun kd n t h => ?_, fun x h => ?_, hb⟩
        · rw [ht] at h; cases h
        · rw [ht] at h; cases h; rfl
      · have hRf := hR false (by simpa using hlt)
        have hnd : ¬ run digR L < L.length := by omega
        by_cases h18 : 18 < N
        · have hn : numK L = .error 11 := by unfold numK; rw [if_neg hnd, if_pos (.inl (by omega))]
          rw [hrk, hn] at ht
          refine (one_err s k N c false w hRf h0 11 (.inr (.inl ⟨hd, rfl, h18, rfl⟩))).mono ?_
          rintro e w' ⟨rfl, hb⟩
          refine ⟨fun kd n t h => ?_, fun x h => ?_, hb⟩
          · rw [ht] at h; cases h
          · rw [ht] at h; cases h; rfl
        · by_cases hz : 1 < N ∧ c = 48
          · have hn : numK L = .error 11 := by unfold numK; rw [if_neg hnd, if_pos (.inr ⟨by omega, by rw [hq, hz.2]; rfl⟩)]
            rw [hrk, hn] at ht
            refine (one_err s k N c false w hRf h0 11 (.inr (.inr (.inl ⟨hd, rfl, h18, hz.1, hz.2, rfl⟩)))).mono ?_
            rintro e w' ⟨rfl, hb⟩
            refine ⟨fun kd n t h => ?_, fun x h => ?_, hb⟩
            · rw [ht] at h; cases h
            · rw [ht] at h; cases h; rfl
          · have hn : numK L = .ok (3, numV L) := by
              unfold numK
              rw [if_neg hnd, if_neg]
              rintro (h | ⟨h, h'⟩)
              · omega
              · rw [hq] at h'
                exact hz ⟨by omega, by simpa using h'⟩
            rw [hrk, hn] at ht
            refine (one_num s k N c w hRf h0 hd h18 ?_ (by rw [hLD, hdl]; omega)).mono ?_
            · by_cases h1' : 1 < N
              · refine .inr ⟨h1', ?_⟩
                rw [b48', decide_eq_false]
                exact fun h => hz ⟨h1', h⟩
              · exact .inl (by omega)
            rintro e w' ⟨rfl, hb⟩
            refine ⟨fun kd n t h => ?_, fun x h => ?_, hb⟩
            · rw [ht] at h
              simp only [Except.ok.injEq, Prod.mk.injEq] at h
              obtain ⟨rfl, rfl, rfl⟩ := h
              rw [hLD]
            · rw [ht] at h; cases h
    · have hd' : digR (c.toNat : Int) = false := by simpa using hd
      have h1 : ¬ 0 < run digR L := by rw [hq, run_pos_iff]; exact hd
      obtain ⟨b, hb'⟩ : ∃ b, decide (run digR D < N) = b := ⟨_, rfl⟩
      have hlu : lowR (c.toNat : Int) = true ∨ (lowR (c.toNat : Int) = false ∧ upR (c.toNat : Int) = true) := by
        simp only [ldR, hd', Bool.or_false] at hld
        cases h : lowR (c.toNat : Int)
        · rw [h] at hld; exact .inr ⟨rfl, by simpa using hld⟩
        · exact .inl rfl
      have hcv : clsV (c.toNat : Int) = if 0 < run lowR L then 1 else 2 := by
        rw [hq]
        simp only [run_pos_iff]
        rcases hlu with h | ⟨h, h'⟩
        · simp [clsV, h]
        · simp [clsV, h, h']
      have hc3 : (clsV (c.toNat : Int) == 3) = false := by rw [hcv]; split <;> rfl
      by_cases h16 : 16 < N
      · have hrk : runK L = .error 11 := by unfold runK; rw [if_neg h1, if_pos (by omega)]
        rw [hrk] at ht
        refine (one_err s k N c b w (hR b hb') h0 11 (.inr (.inr (.inr ⟨hd', h16, hc3, rfl⟩)))).mono ?_
        rintro e w' ⟨rfl, hb⟩
        refine ⟨fun kd n t h => ?_, fun x h => ?_, hb⟩
        · rw [ht] at h; cases h
        · rw [ht] at h; cases h; rfl
      · refine (one_word s k N c b w (hR b hb') h0 _ rfl hc3 h16 (wordS L) (by rw [hLD])).mono ?_
        rintro e w' ⟨rfl, hb⟩
        have hrk : runK L = .ok (cond (wordS L) 4 (clsV (c.toNat : Int)), 0) := by
          unfold runK
          rw [if_neg h1, if_neg (by omega), hcv]
          cases wordS L
          · by_cases hp : 0 < run lowR L <;> simp [hp]
          · simp
        rw [hrk] at ht
        refine ⟨fun kd n t h => ?_, fun x h => ?_, hb⟩
        · rw [ht] at h
          simp only [Except.ok.injEq, Prod.mk.injEq] at h
          obtain ⟨rfl, rfl, rfl⟩ := h
          rw [hLD]
        · rw [ht] at h; cases h
set_option maxHeartbeats 2000000 in
theorem rtoken_any (s : ByteArray) (k : Int) (w : World) (hk : k = 1 ∨ k = 2) (hs : s.size ≤ 140737488351232) :
    Calls Tryd.prog 68 #[.string s, .int .i64 k] w fun e w' => e = .returned (.bool (kindV k s.data.toList)) ∧ Below w.heap.size w w' := by
  by_cases h0 : s.size = 0
  · have hl : s.data.toList = [] := List.eq_nil_of_length_eq_zero (by rw [← Lib.size_eq]; exact h0)
    have e3 : s.toList = [] := by rw [data_list]; exact hl
    have HF : Hid (kindV k s.data.toList = false) := by
      show _ = _
      rw [hl]; rcases hk with rfl | rfl <;> rfl
    clear hl h0
    go_enter Tryd.func68, Tryd.ntmps68
    go_wp2_with fail
    go_ret
    exact ⟨ret_bool HF.out.symm, Below.refl _ _⟩
  · have hl : s.data.toList ≠ [] := by
      intro e
      have := congrArg List.length e
      rw [← Lib.size_eq] at this
      exact h0 this
    have e3 : s.toList.isEmpty = false := by rw [data_list]; cases h : s.data.toList with | nil => exact absurd h hl | cons _ _ => rfl
    have HK := Lib.hid (refTok_kind s.data.toList k hk hl)
    have HO := Lib.hid (one_both s 0 w (by omega) hs)
    rw [List.drop_zero] at HO
    cases ht : tokK s.data.toList with
    | error x =>
      have hx := tokK_err ht
      have hx0 : (x == 0) = false := by rcases hx with rfl | rfl <;> rfl
      have hf : refTokV s.data.toList k = false := by unfold refTokV; rw [ht]
      have HF := Lib.hid hf
      have HT := Lib.hid ht
      clear ht hf hl h0
      go_enter Tryd.func68, Tryd.ntmps68
      go_wp2_with fail
      refine HO.out.mono ?_
      rintro e w2 ⟨_, he, hb2⟩
      have he2 := he x HT.out
      subst he2
      clear he
      unfold noTokR
      go_wp2_with fail
      go_ret
      exact ⟨ret_bool (by rw [← HK.out, HF.out]), hb2.alloc hb2.size _⟩
    | ok r =>
      obtain ⟨kd, n, t⟩ := r
      have hf : refTokV s.data.toList k = (decide (kd = k) && (t == s.data.toList)) := by unfold refTokV; rw [ht]
      have HF := Lib.hid hf
      have HT := Lib.hid ht
      clear ht hf hl h0
      by_cases hkd : kd = k
      · subst hkd
        go_enter Tryd.func68, Tryd.ntmps68
        go_wp2_with fail
        refine HO.out.mono ?_
        rintro e w2 ⟨he, _, hb2⟩
        have he2 := he kd n t HT.out
        subst he2
        clear he
        unfold tokR
        go_wp2_with fail
        go_ret
        exact ⟨ret_bool (by rw [← HK.out, HF.out, data_list]; simp), hb2.alloc hb2.size _⟩
      · have e1 : (kd == k) = false := by simpa using hkd
        go_enter Tryd.func68, Tryd.ntmps68
        go_wp2_with fail
        refine HO.out.mono ?_
        rintro e w2 ⟨he, _, hb2⟩
        have he2 := he kd n t HT.out
        subst he2
        clear he
        unfold tokR
        go_wp2_with fail
        go_ret
        exact ⟨ret_bool (by rw [← HK.out, HF.out]; simp [hkd]), hb2.alloc hb2.size _⟩
end Lx
end Go.Proofs.YtnljlocogfacfaaDoor
