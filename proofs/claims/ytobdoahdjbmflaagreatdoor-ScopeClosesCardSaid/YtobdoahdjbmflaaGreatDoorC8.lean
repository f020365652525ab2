/-
  Texts that lie one behind the other: Name Depth AllRow MayL Map May MayTop.
-/
import Derived.Test.YtobdoahdjbmflaaGreatDoorC7
import Derived.Test.YtobdoahdjbmflaaGreatDoorC1
import Derived.Test.YtobdoahdjbmflaaGreatDoorC3
import Derived.Test.YtobdoahdjbmflaaGreatDoorC4
import Derived.Deep.RegionHeld3
import Derived.Deep.DrawnRows
import Derived.Maps.Own
import Derived.Deep.QuietTactic
import Derived.BigQuiet
namespace Go.Proofs.YtobdoahdjbmflaaGreatDoor
namespace Lx
set_option maxRecDepth 100000
/-- The program's reckoning, and the reference's. -/
def isTokV (l : List UInt8) (k : Int) : Bool := match allK l with | .ok [t] => decide (t.kind = k) && (t.text == l) | _ => false
def refTokV (l : List UInt8) (k : Int) : Bool := match tokK l with | .ok (kd, _, t) => decide (kd = k) && (t == l) | .error _ => false
def kindV (k : Int) (l : List UInt8) : Bool := if k = 1 then nameV l else conV l

theorem tok_cons {c : UInt8} {r : List UInt8} {kd n : Int} (h : tokK (c :: r) = .ok (kd, n, c :: r)) : allK (c :: r) = .ok [⟨kd, c :: r, n, 0⟩] := by
  have hb := blk_head h
  have h0 : run blkR (c :: r) = 0 := by simp [run, hb]
  unfold allK
  rw [h0, List.drop_zero]
  simp only [List.length_cons]
  rw [scan]
  simp only [h]
  have hd : List.drop (c :: r).length (c :: r) = [] := List.drop_length
  rw [hd]
  simp [run, scan_end]
theorem all_single {l : List UInt8} {t : Tok} (hl : l ≠ []) (h : allK l = .ok [t]) (ht : t.text = l) : ∃ n, tokK l = .ok (t.kind, n, l) := by
  unfold allK at h
  rw [scan] at h
  split at h
  · cases h
  · split at h
    · cases h
    · rename_i kd n x hx
      have h1 := tok_text hx
      split at h
      · cases h
      · rename_i rest hr
        have h2 := Except.ok.inj h
        have h3 := (List.cons.inj h2).1
        rw [← h3] at ht ⊢
        have ht' : x = l := ht
        rw [ht'] at h1 hx
        have hlen := h1.2.1
        simp only [List.length_drop] at hlen
        have hpos := List.length_pos_iff.2 hl
        have h0 : run blkR l = 0 := by omega
        rw [h0, List.drop_zero] at hx
        exact ⟨n, hx⟩
theorem allK_nil : allK [] = .ok [] := rfl
theorem isTok_ref (l : List UInt8) (k : Int) (hl : l ≠ []) : isTokV l k = refTokV l k := by
  unfold isTokV refTokV
  cases ht : tokK l with
  | error x =>
    simp only
    split
    · rename_i t ha
      by_cases he : t.text = l
      · obtain ⟨n, h⟩ := all_single hl ha he
        rw [ht] at h; cases h
      · simp [he]
    · rfl
  | ok r =>
    obtain ⟨kd, n, x⟩ := r
    simp only
    by_cases hx : x = l
    · subst hx
      obtain ⟨c, q, rfl⟩ := List.exists_cons_of_ne_nil hl
      rw [tok_cons ht]
    · have e : (x == l) = false := by simpa using hx
      rw [e, Bool.and_false]
      split
      · rename_i t ha
        by_cases he : t.text = l
        · obtain ⟨n', h⟩ := all_single hl ha he
          rw [ht] at h
          simp only [Except.ok.injEq, Prod.mk.injEq] at h
          exact absurd h.2.2 hx
        · simp [he]
      · rfl
theorem isTok_nil (k : Int) : isTokV [] k = false := rfl

theorem run_pos_iff (P : Int → Bool) (c : UInt8) (r : List UInt8) : (0 < run P (c :: r)) ↔ P (c.toNat : Int) = true := by
  cases h : P (c.toNat : Int) <;> simp [run, h]
theorem numK_kind {l : List UInt8} {kd n : Int} (h : numK l = .ok (kd, n)) : kd = 3 := by
  unfold numK at h
  split at h
  · cases h
  · split at h
    · cases h
    · cases h; rfl
theorem refTok_kind (l : List UInt8) (k : Int) (hk : k = 1 ∨ k = 2) (hl : l ≠ []) : refTokV l k = kindV k l := by
  obtain ⟨c, q, rfl⟩ := List.exists_cons_of_ne_nil hl
  have hle := run_le ldR (c :: q)
  unfold refTokV
  by_cases hw : run ldR (c :: q) = (c :: q).length
  · have hp : 0 < run ldR (c :: q) := by rw [hw]; simp
    have ht : (c :: q).take (run ldR (c :: q)) = c :: q := by rw [hw]; exact List.take_length
    have hL : ldR (c.toNat : Int) = true := (run_pos_iff _ _ _).1 hp
    unfold tokK
    rw [if_pos hp, ht]
    unfold kindV nameV conV
    rw [hw]
    unfold runK
    simp only [run_pos_iff]
    by_cases hd : digR (c.toNat : Int) = true
    · have e1 : lowR (c.toNat : Int) = false := by simp [digR] at hd; simp [lowR]; omega
      have e2 : upR (c.toNat : Int) = false := by simp [digR] at hd; simp [upR]; omega
      rw [if_pos hd]
      cases hn : numK (c :: q) with
      | error x => simp [e1, e2]
      | ok r =>
        obtain ⟨kd, n⟩ := r
        have := numK_kind hn
        subst this
        rcases hk with rfl | rfl <;> simp [e1, e2]
    · rw [if_neg hd]
      by_cases h16 : 16 < (c :: q).length
      · rw [if_pos h16]
        have e : decide ((c :: q).length ≤ 16) = false := by simp only [decide_eq_false_iff_not]; omega
        rcases hk with rfl | rfl <;> simp only [e] <;> simp
      · rw [if_neg h16]
        have e : decide ((c :: q).length ≤ 16) = true := by simp only [decide_eq_true_eq]; omega
        by_cases hwd : wordS (c :: q) = true
        · rw [if_pos hwd]
          have hlow : lowR (c.toNat : Int) = true := by
            simp [wordS] at hwd
            rcases hwd with ⟨rfl, _⟩ | ⟨rfl, _⟩ | ⟨rfl, _⟩ | ⟨rfl, _⟩ | ⟨rfl, _⟩ <;> rfl
          have hup : upR (c.toNat : Int) = false := by simp [lowR] at hlow; simp [upR]; omega
          rcases hk with rfl | rfl <;> simp [hwd, hup]
        · rw [if_neg hwd]
          have hwd' : wordS (c :: q) = false := by simpa using hwd
          cases hlow : lowR (c.toNat : Int)
          · have hup : upR (c.toNat : Int) = true := by
              simp [ldR, hlow, hd] at hL
              exact hL
            rcases hk with rfl | rfl <;> simp only [e, hup, hwd'] <;> simp
          · have hup : upR (c.toNat : Int) = false := by simp [lowR] at hlow; simp [upR]; omega
            rcases hk with rfl | rfl <;> simp only [e, hup, hwd'] <;> simp
  · have hf : kindV k (c :: q) = false := by
      unfold kindV nameV conV
      have e : decide (run ldR (c :: q) = (c :: q).length) = false := by simpa using hw
      rcases hk with rfl | rfl <;> simp only [e] <;> simp
    rw [hf]
    cases ht : tokK (c :: q) with
    | error x => rfl
    | ok r =>
      obtain ⟨kd, n, x⟩ := r
      simp only
      unfold tokK at ht
      split at ht
      · split at ht
        · simp only [Except.ok.injEq, Prod.mk.injEq] at ht
          obtain ⟨rfl, rfl, rfl⟩ := ht
          have e : ((c :: q).take (run ldR (c :: q)) == c :: q) = false := by
            rw [beq_eq_false_iff_ne]
            intro e
            have := congrArg List.length e
            rw [List.length_take] at this
            omega
          rw [e, Bool.and_false]
        · cases ht
      · split at ht
        · simp only [Except.ok.injEq, Prod.mk.injEq] at ht
          obtain ⟨rfl, rfl, rfl⟩ := ht
          rcases hk with rfl | rfl <;> rfl
        · cases ht
theorem isTok_kind (l : List UInt8) (k : Int) (hk : k = 1 ∨ k = 2) : isTokV l k = kindV k l := by
  by_cases hl : l = []
  · subst hl; rcases hk with rfl | rfl <;> rfl
  · rw [isTok_ref l k hl, refTok_kind l k hk hl]
theorem kindV_long (l : List UInt8) (k : Int) (h : 16 < l.length) : kindV k l = false := by
  unfold kindV nameV conV
  have e : decide (l.length ≤ 16) = false := by simp only [decide_eq_false_iff_not]; omega
  split <;> simp [e]
end Lx
end Go.Proofs.YtobdoahdjbmflaaGreatDoor
namespace Go.Proofs.YtobdoahdjbmflaaGreatDoor
open Go.RowKit
namespace Lx
set_option maxRecDepth 100000
theorem below_al {w wr w2 : World} {o : Obj} (hbw : Below w.heap.size w wr) (hb2 : Below (wr.alloc o).heap.size (wr.alloc o) w2) : Below w.heap.size w w2 :=
  (hbw.alloc hbw.size _).trans (hb2.mono (by have := hbw.size; simp; omega))
set_option maxHeartbeats 1000000 in
theorem rdepth_any (d : Nat) : ∀ (t : Tr) (A : Option Addr) (c : Nat) (w : World), depthT t ≤ d → sizeT t ≤ 100000 → TIn w Any t A →
    Calls Tryz.prog 17 #[tv t A c] w fun e w' => e = .returned (.int .i64 (depthT t)) ∧ Below w.heap.size w w' := by
  induction d with
  | zero => intro t A c w h; have := depth_pos t; omega
  | succ d ih =>
    intro t A c w hd hs hI
    obtain ⟨k, s, n, a, l⟩ := t
    have hdL : depthL l ≤ d := by rw [depthT] at hd; omega
    have hsL : sizeL l ≤ 100000 := by rw [sizeT] at hs; omega
    have hlen := sizeL_len l
    have hdl := depthL_le_size l
    have HI := Lib.hid hI
    have HE : Hid (depthT (.node k s n a l) = depthL l + 1) := by rw [depthT]; exact rfl
    clear hI hd hs
    show Calls Tryz.prog 17 #[.agg #[.int .i64 k, .string s, .int .i64 n, .int .i64 a, .slice A l.length (capF l.length c)]] w _
    generalize capF l.length c = c
    obtain ⟨m, hm⟩ : ∃ m, m = l.length := ⟨_, rfl⟩
    rw [← hm]
    have hm1 : m ≤ l.length := by omega
    have hm2 : l.length ≤ m := by omega
    clear hm
    go_enter Tryz.func17, Tryz.ntmps17
    go_wp2_with fail
    go_loopw [3, 4] (fun v x wr => ∃ i : Nat, i ≤ m ∧ x = .int .i64 i ∧ v = .int .i64 (depthL (l.take i)) ∧ Below (w.heap.size + 1) (w.alloc (.cells #[.int .i64 k, .string s, .int .i64 n, .int .i64 a, .slice A m c] 24)) wr) (fun _ x _ => m - (intOf x).toNat)
    case atStart => exact ⟨0, by omega, rfl, by simp [depthL], Below.refl _ _⟩
    case round =>
      obtain ⟨i, hi, rfl, rfl, hbx⟩ := hrel
      have hbw : Below w.heap.size w wr := below_ac (by simpa using hbx)
      have c4 := ((Lies.new w 24 #[.int .i64 k, .string s, .int .i64 n, .int .i64 a, .slice A m c]).below hbx (by omega)).cell 4
      have hbxs := hbx.size
      simp at c4 hbxs
      have hbs := hbw.size
      have hdt := depthL_take l i
      by_cases hlt : i < m
      · have hia : i < l.length := by omega
        obtain ⟨g, o, A', c', ⟨hA, _⟩, d0, d1, d2, d3, d4, hIn⟩ := TIn.part (TIn.below _ HI.out hbw (Nat.le_refl _)) i hia
        subst hA
        have hm3 := depthL_mem l (l[i]'hia) (List.getElem_mem hia)
        have hm4 := sizeL_mem l (l[i]'hia) (List.getElem_mem hia)
        have HS : Hid (depthL (l.take (i + 1)) = max (depthL (l.take i)) (depthT (l[i]'hia))) := by
          rw [List.take_succ_eq_append_getElem hia]; exact depthL_snoc _ _
        simp only [Tr.parts] at d0 d1 d2 d3 d4 hIn
        obtain ⟨tr, hu⟩ : ∃ tr, tr = l[i]'hia := ⟨_, rfl⟩
        rw [← hu] at d0 d1 d2 d3 d4 hIn hm3 hm4 HS
        clear hu
        obtain ⟨tk, ts, tn, ta, tl⟩ := tr
        simp only [Tr.kind, Tr.name, Tr.n, Tr.place] at d0 d1 d2 d3 d4
        go_wp2_with fail
        refine (ih (.node tk ts tn ta tl) A' c' _ (by omega) (by omega) hIn).mono ?_
        rintro e w2 ⟨rfl, hb2⟩
        go_wp2_with fail
        go_roundw
        case rel => exact ⟨i + 1, by omega, by go_num, by rw [HS.out]; exact congrArg (Value.int .i64) (by omega), hbx.trans (hb2.mono (by omega))⟩
        case measure => simp [intOf]; omega
      · go_wp2_with fail
        go_ret
        obtain rfl : i = m := by omega
        refine ⟨?_, hbw⟩
        rw [List.take_of_length_le (by omega)]
        rw [HE.out]
        exact ret_int (by omega)
end Lx
end Go.Proofs.YtobdoahdjbmflaaGreatDoor
namespace Go.Proofs.YtobdoahdjbmflaaGreatDoor
open Go.RowKit
namespace Lx
set_option maxRecDepth 100000
theorem all_good' (s : ByteArray) (ts : List Tok) (n : Nat) (hn : ts.length = n) (w : World) (hs : s.size ≤ 60000) (hg : Signs w) (h : allK s.data.toList = .ok ts) :
    Calls Tryz.prog 106 #[.string s] w fun e w' => ∃ A c, e = .returned (.tuple #[.slice A n c, .int .i64 0, .int .i64 0]) ∧ Row w' A ts ∧ Below w.heap.size w w' := by
  subst hn
  refine (all_good s ts w hs hg h).mono ?_
  rintro e w' ⟨A, c, rfl, hown, hb⟩
  exact ⟨A, c, rfl, Row.of_own hown, hb⟩
end Lx
end Go.Proofs.YtobdoahdjbmflaaGreatDoor
namespace Go.Proofs.YtobdoahdjbmflaaGreatDoor
open Go.RowKit
namespace Lx
set_option maxRecDepth 100000
set_option maxHeartbeats 1000000 in
theorem stands_any (k n a p : Int) (s : ByteArray) (A : Option Addr) (m c i : Nat) (w : World) :
    Calls Tryz.prog 64 #[.agg #[.int .i64 k, .string s, .int .i64 n, .int .i64 a, .slice A m c], .int .i64 i, .int .i64 p] w fun e w' => e = .returned (.bool (standsV k n i p)) ∧ Below w.heap.size w w' := by
  have hb : Below w.heap.size w (w.alloc (.cells #[.int .i64 k, .string s, .int .i64 n, .int .i64 a, .slice A m c] 24)) := (Below.refl _ w).alloc (Nat.le_refl _) _
  by_cases h7 : k = 7
  · subst h7
    by_cases hi : 0 < i
    · have hi' : (0 : Int) < (i : Int) := by omega
      go_enter Tryz.func64, Tryz.ntmps64
      go_wp2_with fail
      go_ret
      refine ⟨ret_bool ?_, hb⟩
      simp [standsV, hi]; try rfl
    · have hi' : ¬ (0 : Int) < (i : Int) := by omega
      go_enter Tryz.func64, Tryz.ntmps64
      go_wp2_with fail
      go_ret
      refine ⟨ret_bool ?_, hb⟩
      simp [standsV, hi]; try rfl
  · have e7 : (k == 7) = false := by simpa using h7
    by_cases h8 : k = 8
    · subst h8
      by_cases hi : (i : Int) < n
      · go_enter Tryz.func64, Tryz.ntmps64
        go_wp2_with fail
        go_ret
        refine ⟨ret_bool ?_, hb⟩
        simp [standsV, hi]; try rfl
      · go_enter Tryz.func64, Tryz.ntmps64
        go_wp2_with fail
        go_ret
        refine ⟨ret_bool ?_, hb⟩
        unfold standsV
        rw [if_neg (by omega), if_neg (by omega)]
        by_cases hp : p = 8 <;> simp [hp]
    · have e8 : (k == 8) = false := by simpa using h8
      go_enter Tryz.func64, Tryz.ntmps64
      go_wp2_with fail
      go_ret
      refine ⟨ret_bool ?_, hb⟩
      simp [standsV, h7, h8]; try rfl
theorem oper_any (s : ByteArray) (w : World) : Calls Tryz.prog 104 #[.string s] w fun e w' => e = .returned (.bool (opV s.data.toList)) ∧ w = w' := by
  go_enter Tryz.func104, Tryz.ntmps104
  go_wp2
  all_goals
    go_ret
    refine ⟨ret_bool ?_, rfl⟩
    rw [← data_list]
    simp_all [opV]
theorem zero_lt_of {n : Nat} (h : n = 1) : 0 < n := by omega
set_option maxHeartbeats 2000000 in
theorem isToken_any (s : ByteArray) (k : Int) (w : World) (hk : k = 1 ∨ k = 2) (hg : Signs w) :
    Calls Tryz.prog 103 #[.string s, .int .i64 k] w fun e w' => e = .returned (.bool (kindV k s.data.toList)) ∧ Below w.heap.size w w' := by
  by_cases h16 : 16 < s.size
  · have HF := Lib.hid (kindV_long s.data.toList k (by simpa using h16))
    have h16' : (16 : Int) < (s.size : Int) := by omega
    go_enter Tryz.func103, Tryz.ntmps103
    go_wp2_with fail
    go_ret
    exact ⟨ret_bool HF.out.symm, Below.refl _ _⟩
  · have HT := Lib.hid (isTok_kind s.data.toList k hk)
    have h16' : ¬ (16 : Int) < (s.size : Int) := by omega
    cases ha : allK s.data.toList with
    | error px =>
      obtain ⟨p, x⟩ := px
      have hx := err_code ha
      have hf : isTokV s.data.toList k = false := by unfold isTokV; rw [ha]
      have HF := Lib.hid hf
      have HA := Lib.hid ha
      have hx0 : (x == 0) = false := by rcases hx with rfl | rfl <;> rfl
      clear hf ha
      go_enter Tryz.func103, Tryz.ntmps103
      go_wp2_with fail
      refine (all_bad s p x _ (by omega) hg HA.out).mono ?_
      rintro e w2 ⟨rfl, hb2⟩
      go_wp2_with fail
      go_ret
      exact ⟨ret_bool (by rw [← HT.out, HF.out]), hb2⟩
    | ok ts =>
      have HA := Lib.hid ha
      obtain ⟨n, hn⟩ : ∃ n, ts.length = n := ⟨_, rfl⟩
      have HN := Lib.hid hn
      by_cases h1 : n = 1
      · subst h1
        obtain ⟨t, rfl⟩ : ∃ t, ts = [t] := by
          match ts, hn with
          | [t], _ => exact ⟨t, rfl⟩
        have hf : isTokV s.data.toList k = (decide (t.kind = k) && (t.text == s.data.toList)) := by unfold isTokV; rw [ha]
        have HF := Lib.hid hf
        clear hf ha hn
        have hf2 : ∀ w2 A, Row w2 A [t] → ∃ g o, A = some ⟨g, o, none⟩ ∧ w2.cell? ⟨g, o, none⟩ = some (.int .i64 t.kind) ∧ w2.cell? ⟨g, o + 1, none⟩ = some (.string ⟨t.text.toArray⟩) := fun w2 A hr => by
          obtain ⟨g, o, hA, d0, d1, _, _⟩ := hr.at_ (i := 0) (by simp)
          simp only [Nat.zero_mul, Nat.add_zero] at d0 d1
          exact ⟨g, o, hA, d0, d1⟩
        have HR := Lib.hid hf2
        clear hf2
        by_cases hkd : t.kind = k
        · have e1 : (t.kind == k) = true := by simpa using hkd
          go_enter Tryz.func103, Tryz.ntmps103
          go_wp2_with fail
          refine (all_good' s [t] 1 HN.out _ (by omega) hg HA.out).mono ?_
          rintro e w2 ⟨A, c, rfl, hr, hb2⟩
          obtain ⟨g, o, rfl, d0, d1⟩ := HR.out _ _ hr
          clear hr
          go_wp2_with fail
          go_ret
          exact ⟨ret_bool (by rw [← HT.out, HF.out, data_list]; simp [hkd]), hb2⟩
        · have e1 : (t.kind == k) = false := by simpa using hkd
          go_enter Tryz.func103, Tryz.ntmps103
          go_wp2_with fail
          refine (all_good' s [t] 1 HN.out _ (by omega) hg HA.out).mono ?_
          rintro e w2 ⟨A, c, rfl, hr, hb2⟩
          obtain ⟨g, o, rfl, d0, d1⟩ := HR.out _ _ hr
          clear hr
          go_wp2_with fail
          go_ret
          exact ⟨ret_bool (by rw [← HT.out, HF.out]; simp [hkd]), hb2⟩
      · have hf : isTokV s.data.toList k = false := by
          unfold isTokV; rw [ha]
          split
          · rename_i t h
            have := Except.ok.inj h
            subst this
            exact absurd hn.symm h1
          · rfl
        have HF := Lib.hid hf
        have hn1 : ((n : Int) == 1) = false := by simp; omega
        clear hf ha hn
        go_enter Tryz.func103, Tryz.ntmps103
        go_wp2_with fail
        refine (all_good' s ts n HN.out _ (by omega) hg HA.out).mono ?_
        rintro e w2 ⟨A, c, rfl, hr, hb2⟩
        clear hr
        go_wp2_with fail
        go_ret
        exact ⟨ret_bool (by rw [← HT.out, HF.out]), hb2⟩
theorem str_empty (s : ByteArray) : (s.toList == []) = (s.data.toList == []) := by rw [data_list]
set_option maxHeartbeats 1000000 in
theorem isName_any (s : ByteArray) (v : Int) (w : World) (hg : Signs w) :
    Calls Tryz.prog 93 #[.string s, .int .i64 v] w fun e w' => e = .returned (.bool (whatV v s.data.toList)) ∧ Below w.heap.size w w' := by
  by_cases h1 : v = 1
  · subst h1
    have HT := Lib.hid (isToken_any s 1 w (.inl rfl) hg)
    go_enter Tryz.func93, Tryz.ntmps93
    go_wp2_with fail
    refine HT.out.mono ?_
    rintro e w2 ⟨rfl, hb2⟩
    go_wp2_with fail
    go_ret
    exact ⟨ret_bool (by simp [whatV, kindV]), hb2⟩
  · have e1 : (v == 1) = false := by simpa using h1
    by_cases h2 : v = 2
    · subst h2
      have HT := Lib.hid (isToken_any s 2 w (.inr rfl) hg)
      go_enter Tryz.func93, Tryz.ntmps93
      go_wp2_with fail
      refine HT.out.mono ?_
      rintro e w2 ⟨rfl, hb2⟩
      go_wp2_with fail
      go_ret
      exact ⟨ret_bool (by simp [whatV, kindV]), hb2⟩
    · have e2 : (v == 2) = false := by simpa using h2
      by_cases h3 : v = 3
      · subst h3
        go_enter Tryz.func93, Tryz.ntmps93
        go_wp2_with fail
        refine (oper_any s _).mono ?_
        rintro e w2 ⟨rfl, rfl⟩
        go_wp2_with fail
        go_ret
        exact ⟨ret_bool (by simp [whatV]), Below.refl _ _⟩
      · have e3 : (v == 3) = false := by simpa using h3
        have HE := Lib.hid (str_empty s)
        go_enter Tryz.func93, Tryz.ntmps93
        go_wp2_with fail
        go_ret
        refine ⟨ret_bool ?_, Below.refl _ _⟩
        unfold whatV
        rw [if_neg h1, if_neg h2, if_neg h3, ← HE.out]
        first | rfl | (cases s.toList <;> rfl)

set_option maxHeartbeats 2000000 in
theorem fits_any (hn hN hl hm k n a : Int) (s : ByteArray) (A : Option Addr) (m c : Nat) (w : World) (hg : Signs w) (_hmm : m ≤ 140737488351232) (hN9 : hN ≤ 999999999999999999) :
    Calls Tryz.prog 63 #[.agg #[.int .i64 hn, .int .i64 hN, .int .i64 hl, .int .i64 hm], .agg #[.int .i64 k, .string s, .int .i64 n, .int .i64 a, .slice A m c]] w fun e w' =>
      e = .returned (.bool (fitsV (hn, hN, hl, hm) k s.data.toList n a m)) ∧ Below w.heap.size w w' := by
  have hb : Below w.heap.size w ((w.alloc (.cells #[.int .i64 hn, .int .i64 hN, .int .i64 hl, .int .i64 hm] 92)).alloc (.cells #[.int .i64 k, .string s, .int .i64 n, .int .i64 a, .slice A m c] 24)) :=
    ((Below.refl _ w).alloc (Nat.le_refl _) _).alloc (by simp) _
  by_cases h1 : a < 0 ∨ n < 0 ∨ hN < n
  · have HF : Hid (fitsV (hn, hN, hl, hm) k s.data.toList n a m = false) := by
      show _ = _
      unfold fitsV
      rw [if_pos h1]
    rcases (by omega : a < 0 ∨ (¬ a < 0 ∧ n < 0) ∨ (¬ a < 0 ∧ ¬ n < 0 ∧ hN < n)) with q1 | ⟨q1, q2⟩ | ⟨q1, q2, q3⟩
    all_goals
      clear h1
      go_enter Tryz.func63, Tryz.ntmps63
      go_wp2_with fail
      go_ret
      exact ⟨ret_bool HF.out.symm, hb⟩
  · have q1 : ¬ a < 0 := by omega
    have q2 : ¬ n < 0 := by omega
    have q3 : ¬ hN < n := by omega
    by_cases h2 : (m : Int) < hl ∨ hm < (m : Int)
    · have HF : Hid (fitsV (hn, hN, hl, hm) k s.data.toList n a m = false) := by
        show _ = _
        unfold fitsV
        rw [if_neg h1, if_pos h2]
      rcases (by omega : (m : Int) < hl ∨ (¬ (m : Int) < hl ∧ hm < (m : Int))) with p1 | ⟨p1, p2⟩
      all_goals
        clear h1 h2
        go_enter Tryz.func63, Tryz.ntmps63
        go_wp2_with fail
        go_ret
        exact ⟨ret_bool HF.out.symm, hb⟩
    · have p1 : ¬ (m : Int) < hl := by omega
      have p2 : ¬ hm < (m : Int) := by omega
      by_cases h3 : k = 8 ∧ (m : Int) ≠ n + 1
      · have HF : Hid (fitsV (hn, hN, hl, hm) k s.data.toList n a m = false) := by
          show _ = _
          unfold fitsV
          rw [if_neg h1, if_neg h2, if_pos h3]
        obtain ⟨rfl, h4⟩ := h3
        have e4 : ((m : Int) != n + 1) = true := by simpa using h4
        clear h1 h2 h4
        go_enter Tryz.func63, Tryz.ntmps63
        go_wp2_with fail
        go_ret
        exact ⟨ret_bool HF.out.symm, hb⟩
      · have HF : Hid (fitsV (hn, hN, hl, hm) k s.data.toList n a m = whatV hn s.data.toList) := by
          show _ = _
          unfold fitsV
          rw [if_neg h1, if_neg h2, if_neg h3]
        have hg' : Signs ((w.alloc (.cells #[.int .i64 hn, .int .i64 hN, .int .i64 hl, .int .i64 hm] 92)).alloc (.cells #[.int .i64 k, .string s, .int .i64 n, .int .i64 a, .slice A m c] 24)) := hg.below hb hg.pos
        have HT := Lib.hid (isName_any s hn _ hg')
        by_cases h8 : k = 8
        · subst h8
          have h4 : (m : Int) = n + 1 := Classical.byContradiction fun h => h3 ⟨rfl, h⟩
          have e4 : ((m : Int) != n + 1) = false := by simp [h4]
          clear h1 h2 h3 hg hg'
          have H4 := Lib.hid h4
          clear h4
          go_enter Tryz.func63, Tryz.ntmps63
          go_wp2_with fail
          refine HT.out.mono ?_
          rintro e w2 ⟨rfl, hb2⟩
          go_wp2_with fail
          go_ret
          exact ⟨ret_bool HF.out.symm, hb.trans (hb2.mono (by simp; omega))⟩
        · have e8 : (k == 8) = false := by simpa using h8
          clear h1 h2 h3 hg hg' h8
          go_enter Tryz.func63, Tryz.ntmps63
          go_wp2_with fail
          refine HT.out.mono ?_
          rintro e w2 ⟨rfl, hb2⟩
          go_wp2_with fail
          go_ret
          exact ⟨ret_bool HF.out.symm, hb.trans (hb2.mono (by simp; omega))⟩
end Lx
end Go.Proofs.YtobdoahdjbmflaaGreatDoor
namespace Go.Proofs.YtobdoahdjbmflaaGreatDoor
open Go.RowKit
namespace Lx
set_option maxRecDepth 100000
theorem run_insert_new {P : Program} (W : World) (t kt et : TypeId) (b clock : Nat) (es : Array MapEntry) (k : Int) (val : Value) (hm : P.underlying t = some (.map kt et)) (hk : P.underlying kt = some (.int .i64)) (hb : W.heap[b]? = some (.map es clock))
    (hf : Instr.findNow (.int .i64) (.int .i64 k) es.toList 0 = some none) :
    (Instr.mapUpdate t (.map (some b)) (.int .i64 k) val).run P W = .ok () { W with heap := W.heap.setIfInBounds b (.map (es.push { key := .int .i64 k, val := val, born := clock }) (clock + 1)) } := by
  have hc : (Instr.checkKey false 10000 kt (.int .i64 k)).run P W = .ok () W := MapKept.run_checkKey (k := .int .i64 k) hk (by simp [MapKept.IsKey]) false 9999
  simp [Instr.mapUpdate, run_underlying hm, MapKept.run_getObj_map hb, hc, MapKept.run_findKey hk hf, MapKept.run_setObj_map _ hb, Result.andThen]
theorem wpList_insert_new {P : Program} {ops : Array Oper} {rest : List Oper} {o : Oper} {a : Act} {Q : Exit → Act → World → Prop} {W : World} (hgd : o.guard = none) (m x v : Operand) (t kt et : TypeId) (hop : o.op = .insert t m x v)
    (hm : P.underlying t = some (.map kt et)) (hk : P.underlying kt = some (.int .i64)) (b clock : Nat) (es : Array MapEntry) (k : Int) (val : Value) (em : a.eval m = .map (some b)) (ex : a.eval x = .int .i64 k) (ev : a.eval v = val)
    (hb : W.heap[b]? = some (.map es clock)) (hf : Instr.findNow (.int .i64) (.int .i64 k) es.toList 0 = some none)
    (h : ∀ W', W'.heap[b]? = some (.map (es.push { key := .int .i64 k, val := val, born := clock }) (clock + 1)) → Below b W W' → wpList P ops Q rest (a.put o.dst undef) W') : wpList P ops Q (o :: rest) a W := by
  have hlt := (Array.getElem?_eq_some_iff.1 hb).1
  refine wpList_plain hgd fun K hK => ?_
  unfold Oper.wp execOp
  simp only [hop, em, ex, ev, Sem.run_bind, Sem.run_pure, run_insert_new W t kt et b clock es k val hm hk hb hf, Result.andThen_ok]
  refine hK _ _ (h _ (by simp [hlt]) ⟨rfl, rfl, rfl, by simp, fun i hi => ?_⟩)
  simp [Array.getElem?_setIfInBounds_ne (by omega : b ≠ i)]
/-- The entries of the map of shapes. -/
def shapesE : Array MapEntry := #[{ key := .int .i64 1, val := .agg #[.int .i64 1, .int .i64 0, .int .i64 0, .int .i64 0], born := 0 }, { key := .int .i64 2, val := .agg #[.int .i64 1, .int .i64 0, .int .i64 1, .int .i64 1], born := 1 }, { key := .int .i64 3, val := .agg #[.int .i64 0, .int .i64 0, .int .i64 2, .int .i64 2], born := 2 }, { key := .int .i64 4, val := .agg #[.int .i64 1, .int .i64 0, .int .i64 2, .int .i64 2], born := 3 }, { key := .int .i64 5, val := .agg #[.int .i64 1, .int .i64 0, .int .i64 2, .int .i64 2], born := 4 }, { key := .int .i64 6, val := .agg #[.int .i64 2, .int .i64 0, .int .i64 0, .int .i64 8], born := 5 }, { key := .int .i64 7, val := .agg #[.int .i64 0, .int .i64 0, .int .i64 2, .int .i64 9], born := 6 }, { key := .int .i64 8, val := .agg #[.int .i64 2, .int .i64 8, .int .i64 1, .int .i64 9], born := 7 }, { key := .int .i64 9, val := .agg #[.int .i64 0, .int .i64 999999999999999999, .int .i64 0, .int .i64 0], born := 8 }, { key := .int .i64 10, val := .agg #[.int .i64 3, .int .i64 0, .int .i64 2, .int .i64 2], born := 9 }]
/-- Block b is the map of shapes. -/
def MapAt (w : World) (b : Nat) : Prop := w.heap[b]? = some (.map shapesE 10)
theorem MapAt.lt {w : World} {b : Nat} (h : MapAt w b) : b < w.heap.size := (Array.getElem?_eq_some_iff.1 h).1
theorem MapAt.below {w w' : World} {b B : Nat} (h : MapAt w b) (hb : Below B w w') (hB : b < B) : MapAt w' b := (hb.block b hB).trans h
theorem MapAt.old {w : World} {b : Nat} (h : MapAt w b) (o : Obj) : MapAt (w.alloc o) b := (Below.heap_alloc w o b h.lt).trans h
set_option maxHeartbeats 2000000 in
theorem shapes_any (w : World) : Calls Tryz.prog 39 #[] w fun e w' => e = .returned (.map (some w.heap.size)) ∧ MapAt w' w.heap.size ∧ Below w.heap.size w w' := by
  have hmm := @run_makeMap Tryz.prog
  have h0 : (w.alloc (.map #[] 0)).heap[w.heap.size]? = some (.map #[] 0) := heap_alloc_new w _
  go_enter Tryz.func39, Tryz.ntmps39
  go_wp2_with (first
    | (refine wpList_insert_new rfl _ (.const (.int .i64 1)) _ 73 _ _ rfl Tryz.underlying73 Tryz.underlying3 w.heap.size _ _ 1 _ rfl rfl rfl h0 (by rfl) ?_; intro w1 h1 b1)
    | (refine wpList_insert_new rfl _ (.const (.int .i64 2)) _ 73 _ _ rfl Tryz.underlying73 Tryz.underlying3 w.heap.size _ _ 2 _ rfl rfl rfl h1 (by rfl) ?_; intro w2 h2 b2)
    | (refine wpList_insert_new rfl _ (.const (.int .i64 3)) _ 73 _ _ rfl Tryz.underlying73 Tryz.underlying3 w.heap.size _ _ 3 _ rfl rfl rfl h2 (by rfl) ?_; intro w3 h3 b3)
    | (refine wpList_insert_new rfl _ (.const (.int .i64 4)) _ 73 _ _ rfl Tryz.underlying73 Tryz.underlying3 w.heap.size _ _ 4 _ rfl rfl rfl h3 (by rfl) ?_; intro w4 h4 b4)
    | (refine wpList_insert_new rfl _ (.const (.int .i64 5)) _ 73 _ _ rfl Tryz.underlying73 Tryz.underlying3 w.heap.size _ _ 5 _ rfl rfl rfl h4 (by rfl) ?_; intro w5 h5 b5)
    | (refine wpList_insert_new rfl _ (.const (.int .i64 6)) _ 73 _ _ rfl Tryz.underlying73 Tryz.underlying3 w.heap.size _ _ 6 _ rfl rfl rfl h5 (by rfl) ?_; intro w6 h6 b6)
    | (refine wpList_insert_new rfl _ (.const (.int .i64 7)) _ 73 _ _ rfl Tryz.underlying73 Tryz.underlying3 w.heap.size _ _ 7 _ rfl rfl rfl h6 (by rfl) ?_; intro w7 h7 b7)
    | (refine wpList_insert_new rfl _ (.const (.int .i64 8)) _ 73 _ _ rfl Tryz.underlying73 Tryz.underlying3 w.heap.size _ _ 8 _ rfl rfl rfl h7 (by rfl) ?_; intro w8 h8 b8)
    | (refine wpList_insert_new rfl _ (.const (.int .i64 9)) _ 73 _ _ rfl Tryz.underlying73 Tryz.underlying3 w.heap.size _ _ 9 _ rfl rfl rfl h8 (by rfl) ?_; intro w9 h9 b9)
    | (refine wpList_insert_new rfl _ (.const (.int .i64 10)) _ 73 _ _ rfl Tryz.underlying73 Tryz.underlying3 w.heap.size _ _ 10 _ rfl rfl rfl h9 (by rfl) ?_; intro w10 h10 b10))
  go_ret
  have hB := (((((((((((Below.refl _ w).alloc (Nat.le_refl _) (.map #[] 0)).trans b1).trans b2).trans b3).trans b4).trans b5).trans b6).trans b7).trans b8).trans b9).trans b10
  exact ⟨rfl, h10, hB⟩

/-- What is looked up in the map of shapes. -/
def lookV (k : Int) : Value := match shapeV k with
  | some (a, b, c, d) => .tuple #[.agg #[.int .i64 a, .int .i64 b, .int .i64 c, .int .i64 d], .bool true]
  | none => .tuple #[.agg #[.int .i64 0, .int .i64 0, .int .i64 0, .int .i64 0], .bool false]
theorem zeroS (w : World) : (zeroValue 92).run Tryz.prog w = .ok (.agg #[.int .i64 0, .int .i64 0, .int .i64 0, .int .i64 0]) w := by kernel_rfl
theorem run_lookup_hit (W : World) (b k : Nat) (j : Int) (v : Value) (hb : MapAt W b) (hf : Instr.findNow (.int .i64) (.int .i64 j) shapesE.toList 0 = some (some (k, v))) :
    (Instr.lookup 73 (.map (some b)) (.int .i64 j) true).run Tryz.prog W = .ok (.tuple #[v, .bool true]) W := by
  have hc : (Instr.checkKey shapesE.isEmpty 10000 3 (.int .i64 j)).run Tryz.prog W = .ok () W := MapKept.run_checkKey (k := .int .i64 j) Tryz.underlying3 (by simp [MapKept.IsKey]) _ 9999
  simp [Instr.lookup, run_underlying Tryz.underlying73, MapKept.run_getObj_map hb, hc, MapKept.run_findKey Tryz.underlying3 hf, Result.andThen]
theorem run_lookup_miss (W : World) (b : Nat) (j : Int) (hb : MapAt W b) (hf : Instr.findNow (.int .i64) (.int .i64 j) shapesE.toList 0 = some none) :
    (Instr.lookup 73 (.map (some b)) (.int .i64 j) true).run Tryz.prog W = .ok (.tuple #[.agg #[.int .i64 0, .int .i64 0, .int .i64 0, .int .i64 0], .bool false]) W := by
  have hc : (Instr.checkKey shapesE.isEmpty 10000 3 (.int .i64 j)).run Tryz.prog W = .ok () W := MapKept.run_checkKey (k := .int .i64 j) Tryz.underlying3 (by simp [MapKept.IsKey]) _ 9999
  simp [Instr.lookup, run_underlying Tryz.underlying73, MapKept.run_getObj_map hb, hc, MapKept.run_findKey Tryz.underlying3 hf, Result.andThen]
theorem find_miss (j : Int) (h : j < 1 ∨ 10 < j) : Instr.findNow (.int .i64) (.int .i64 j) shapesE.toList 0 = some none := by
  have e : ∀ i : Int, 1 ≤ i → i ≤ 10 → (j == i) = false := fun i h1 h2 => by simp; omega
  simp [shapesE, Instr.findNow, Instr.sameNow, e 1, e 2, e 3, e 4, e 5, e 6, e 7, e 8, e 9, e 10]
theorem run_look (W : World) (b : Nat) (j : Int) (hb : MapAt W b) : (Instr.lookup 73 (.map (some b)) (.int .i64 j) true).run Tryz.prog W = .ok (lookV j) W := by
  rcases (by omega : j = 1 ∨ j = 2 ∨ j = 3 ∨ j = 4 ∨ j = 5 ∨ j = 6 ∨ j = 7 ∨ j = 8 ∨ j = 9 ∨ j = 10 ∨ (j < 1 ∨ 10 < j)) with rfl | rfl | rfl | rfl | rfl | rfl | rfl | rfl | rfl | rfl | h
  case inr.inr.inr.inr.inr.inr.inr.inr.inr.inr =>
    rw [run_lookup_miss W b j hb (find_miss j h)]
    have e : shapeV j = none := by
      have e : ∀ i : Int, 1 ≤ i → i ≤ 10 → j ≠ i := by omega
      simp [shapeV, e 1, e 2, e 3, e 4, e 5, e 6, e 7, e 8, e 9, e 10]
    rw [lookV, e]
  all_goals exact run_lookup_hit W b _ _ _ hb rfl
end Lx
end Go.Proofs.YtobdoahdjbmflaaGreatDoor
namespace Go.Proofs.YtobdoahdjbmflaaGreatDoor
open Go.RowKit
namespace Lx
set_option maxRecDepth 100000
theorem shape_bd {k a b c d : Int} (h : shapeV k = some (a, b, c, d)) : b ≤ 999999999999999999 := by
  unfold shapeV at h
  split at h
  · cases h; omega
  · split at h
    · cases h; omega
    · split at h
      · cases h; omega
      · split at h
        · cases h; omega
        · split at h
          · cases h; omega
          · split at h
            · cases h; omega
            · split at h
              · cases h; omega
              · split at h
                · cases h; omega
                · split at h
                  · cases h; omega
                  · split at h
                    · cases h; omega
                    · cases h

set_option maxHeartbeats 2000000 in
theorem pmay_any (d : Nat) : ∀ (t : Tr) (A : Option Addr) (c b : Nat) (w : World), depthT t ≤ d → TIn w Any t A → MapAt w b → Signs w →
    Calls Tryz.prog 38 #[tv t A c, .map (some b)] w fun e w' => e = .returned (.bool (mayT t)) ∧ Below w.heap.size w w' := by
  induction d with
  | zero => intro t A c b w h; have := depth_pos t; omega
  | succ d ih =>
    intro t A c b w hd hI hM hg
    obtain ⟨k, s, n, a, l⟩ := t
    have hdL : depthL l ≤ d := by rw [depthT] at hd; omega
    have hlen : l.length ≤ 140737488351232 := by rw [TIn] at hI; exact hI.2.1
    have HI := Lib.hid hI
    clear hI hd
    show Calls Tryz.prog 38 #[.agg #[.int .i64 k, .string s, .int .i64 n, .int .i64 a, .slice A l.length (capF l.length c)], .map (some b)] w _
    generalize capF l.length c = c
    have hlk := run_look (w.alloc (.cells #[.int .i64 k, .string s, .int .i64 n, .int .i64 a, .slice A l.length c] 24)) b k (hM.old _)
    unfold lookV at hlk
    cases hs : shapeV k with
    | none =>
      rw [hs] at hlk
      have HE : Hid (mayT (.node k s n a l) = false) := by
        show _ = _
        rw [mayT, hs]
      clear hs hlen
      go_enter Tryz.func38, Tryz.ntmps38
      go_wp2_with fail
      go_ret
      exact ⟨ret_bool HE.out.symm, ((Below.refl _ w).alloc (Nat.le_refl _) _).alloc (by simp) _⟩
    | some h =>
      obtain ⟨hn, hN, hl, hm⟩ := h
      rw [hs] at hlk
      have hbd := shape_bd hs
      have HE : Hid (mayT (.node k s n a l) = (fitsV (hn, hN, hl, hm) k s.data.toList n a l.length && mayL k n 0 l)) := by
        show _ = _
        rw [mayT, hs]
      have hlk' : (Instr.lookup 73 (.map (some b)) (.int .i64 k) true).run Tryz.prog (w.alloc (.cells #[.int .i64 k, .string s, .int .i64 n, .int .i64 a, .slice A l.length c] 24)) = .ok (.tuple #[.agg #[.int .i64 hn, .int .i64 hN, .int .i64 hl, .int .i64 hm], .bool true]) (w.alloc (.cells #[.int .i64 k, .string s, .int .i64 n, .int .i64 a, .slice A l.length c] 24)) := hlk
      clear hs hlk
      have hb0 : Below w.heap.size w ((w.alloc (.cells #[.int .i64 k, .string s, .int .i64 n, .int .i64 a, .slice A l.length c] 24)).alloc (.cells #[.int .i64 hn, .int .i64 hN, .int .i64 hl, .int .i64 hm] 92)) := ((Below.refl _ w).alloc (Nat.le_refl _) _).alloc (by simp) _
      have HF := Lib.hid (fits_any hn hN hl hm k n a s A l.length c _ (hg.below hb0 hg.pos) hlen hbd)
      obtain ⟨m, hm'⟩ : ∃ m, m = l.length := ⟨_, rfl⟩
      rw [← hm'] at hlen hlk' HF HE hb0 ⊢
      have hm1 : m ≤ l.length := by omega
      have hm2 : l.length ≤ m := by omega
      clear hm'
      cases hfit : fitsV (hn, hN, hl, hm) k s.data.toList n a m
      · have HX := Lib.hid hfit
        rw [hfit] at HF HE
        clear hfit
        go_enter Tryz.func38, Tryz.ntmps38
        go_wp2_with fail
        refine HF.out.mono ?_
        rintro e w2 ⟨rfl, hb2⟩
        go_wp2_with fail
        go_ret
        exact ⟨ret_bool (by rw [HE.out, Bool.false_and]), hb0.trans (hb2.mono (by simp; omega))⟩
      · have HX := Lib.hid hfit
        rw [hfit] at HF HE
        clear hfit
        have hL0 := (Lies.new w 24 #[.int .i64 k, .string s, .int .i64 n, .int .i64 a, .slice A m c]).old (.cells #[.int .i64 hn, .int .i64 hN, .int .i64 hl, .int .i64 hm] 92)
        go_enter Tryz.func38, Tryz.ntmps38
        go_wp2_with fail
        refine HF.out.mono ?_
        rintro e w2 ⟨rfl, hb2⟩
        have hbw2 := hb0.trans (hb2.mono (by simp; omega))
        have hL2 := hL0.below hb2 (by simp; omega)
        have c4 := hL2.five.1.2.2.2.2
        clear hlk' hb0 hb2 hL0
        go_wp2_with fail
        go_loopw [27] (fun x wr => ∃ i : Nat, i ≤ m ∧ x = .int .i64 i ∧ Hid (mayL k n 0 l = mayL k n i (l.drop i)) ∧ Lies wr w.heap.size 24 #[.int .i64 k, .string s, .int .i64 n, .int .i64 a, .slice A m c] ∧ Below w.heap.size w wr) (fun x _ => m - (intOf x).toNat)
        case atStart => exact ⟨0, by omega, rfl, by exact rfl, hL2, hbw2⟩
        case round =>
          obtain ⟨i, hi, rfl, HQ, hL, hbw⟩ := hrel
          by_cases hlt : i < m
          · have hia : i < l.length := by omega
            obtain ⟨g, o, A', c', ⟨hA, _⟩, d0, d1, d2, d3, d4, hIn⟩ := TIn.part (TIn.below _ HI.out hbw (Nat.le_refl _)) i hia
            subst hA
            have hm3 := depthL_mem l (l[i]'hia) (List.getElem_mem hia)
            have HS : Hid (mayL k n i (l.drop i) = (standsV k n i (l[i]'hia).kind && (mayT (l[i]'hia) && mayL k n (i + 1) (l.drop (i + 1))))) := by
              show _ = _
              rw [List.drop_eq_getElem_cons hia, mayL]
            simp only [Tr.parts] at d0 d1 d2 d3 d4 hIn
            obtain ⟨tr, hu⟩ : ∃ tr, tr = l[i]'hia := ⟨_, rfl⟩
            rw [← hu] at d0 d1 d2 d3 d4 hIn hm3 HS
            clear hu c4
            obtain ⟨tk, ts, tn, ta, tl⟩ := tr
            simp only [Tr.kind, Tr.name, Tr.n, Tr.place] at d0 d1 d2 d3 d4 HS
            obtain ⟨b0, b1, b2, b3, b4⟩ := (hL.old (.cells #[.int .i64 tk, .string ts, .int .i64 tn, .int .i64 ta, .slice A' tl.length (capF tl.length c')] 24)).five.1
            have hgr : Signs wr := hg.below hbw hg.pos
            have hMr : MapAt wr b := hM.below hbw hM.lt
            cases hst : standsV k n i tk
            · have HST := Lib.hid (stands_any k n a tk s (some ⟨g, o, none⟩) m c i (wr.alloc (.cells #[.int .i64 tk, .string ts, .int .i64 tn, .int .i64 ta, .slice A' tl.length (capF tl.length c')] 24)))
              rw [hst] at HST HS
              clear hst
              go_wp2_with fail
              refine HST.out.mono ?_
              rintro e w3 ⟨rfl, hb3⟩
              go_wp2_with fail
              go_ret
              exact ⟨ret_bool (by rw [HE.out, HQ.out, HS.out]; simp), below_al hbw hb3⟩
            · have HST := Lib.hid (stands_any k n a tk s (some ⟨g, o, none⟩) m c i (wr.alloc (.cells #[.int .i64 tk, .string ts, .int .i64 tn, .int .i64 ta, .slice A' tl.length (capF tl.length c')] 24)))
              rw [hst] at HST HS
              clear hst
              have hbs := hbw.size
              go_wp2_with fail
              refine HST.out.mono ?_
              rintro e w3 ⟨rfl, hb3⟩
              have hb3w := below_al hbw hb3
              have hbr : Below wr.heap.size wr w3 := ((Below.refl _ wr).alloc (Nat.le_refl _) _).trans (hb3.mono (by simp))
              have hn3 := (Lies.new wr 24 #[.int .i64 tk, .string ts, .int .i64 tn, .int .i64 ta, .slice A' tl.length (capF tl.length c')]).below hb3 (by simp)
              obtain ⟨n0, n1, n2, n3, n4⟩ := hn3.five.1
              have HM := Lib.hid (ih (.node tk ts tn ta tl) A' c' b w3 (by omega) (TIn.below _ hIn hbr (Nat.le_refl _)) (hMr.below hbr hMr.lt) (hgr.below hbr hgr.pos))
              have hL3 := hL.below hbr hL.lt
              have hbs3 := hbr.size
              clear d0 d1 d2 d3 d4 b0 b1 b2 b3 b4 hn3 hb3
              cases hmt : mayT (.node tk ts tn ta tl)
              · rw [hmt] at HM HS
                clear hmt
                go_wp2_with fail
                refine HM.out.mono ?_
                rintro e w4 ⟨rfl, hb4⟩
                go_wp2_with fail
                go_ret
                exact ⟨ret_bool (by rw [HE.out, HQ.out, HS.out]; simp), hb3w.trans (hb4.mono hb3w.size)⟩
              · rw [hmt] at HM HS
                clear hmt
                go_wp2_with fail
                refine HM.out.mono ?_
                rintro e w4 ⟨rfl, hb4⟩
                go_wp2_with fail
                go_roundw
                case rel =>
                  refine ⟨i + 1, by omega, by go_num, ?_, hL3.below hb4 hL3.lt, hb3w.trans (hb4.mono hb3w.size)⟩
                  show _ = _
                  rw [HQ.out, HS.out]; simp
                case measure => simp [intOf]; omega
          · clear c4
            go_wp2_with fail
            go_ret
            obtain rfl : i = m := by omega
            exact ⟨ret_bool (by rw [HE.out, HQ.out, List.drop_eq_nil_of_le (by omega), mayL]; rfl), hbw⟩
end Lx
end Go.Proofs.YtobdoahdjbmflaaGreatDoor
namespace Go.Proofs.YtobdoahdjbmflaaGreatDoor
open Go.RowKit
namespace Lx
set_option maxRecDepth 100000
/-- May a tree be, as a whole one? -/
def mayV (t : Tr) : Bool := decide (t.kind ≠ 8) && mayT t
set_option maxHeartbeats 2000000 in
theorem tmay_any (t : Tr) (A : Option Addr) (c : Nat) (w : World) (hI : TIn w Any t A) (hg : Signs w) :
    Calls Tryz.prog 25 #[tv t A c] w fun e w' => e = .returned (.bool (mayV t)) ∧ Below w.heap.size w w' := by
  obtain ⟨k, s, n, a, l⟩ := t
  show Calls Tryz.prog 25 #[.agg #[.int .i64 k, .string s, .int .i64 n, .int .i64 a, .slice A l.length (capF l.length c)]] w _
  have HI := Lib.hid hI
  clear hI
  have hb0 : Below w.heap.size w (w.alloc (.cells #[.int .i64 k, .string s, .int .i64 n, .int .i64 a, .slice A l.length (capF l.length c)] 24)) := (Below.refl _ w).alloc (Nat.le_refl _) _
  by_cases h8 : k = 8
  · have HE : Hid (mayV (.node k s n a l) = false) := by
      show _ = _
      unfold mayV
      simp [Tr.kind, h8]
    subst h8
    go_enter Tryz.func25, Tryz.ntmps25
    go_wp2_with fail
    go_quiet (fail)
    go_wp2_with fail
    go_ret
    exact ⟨ret_bool HE.out.symm, below_drewN hb0 _⟩
  · have e8 : (k != 8) = true := by simpa using h8
    have HE : Hid (mayV (.node k s n a l) = mayT (.node k s n a l)) := by
      show _ = _
      unfold mayV
      simp [Tr.kind, h8]
    obtain ⟨W, hW⟩ : ∃ W, W = w.alloc (.cells #[.int .i64 k, .string s, .int .i64 n, .int .i64 a, .slice A l.length (capF l.length c)] 24) := ⟨_, rfl⟩
    have hL : Lies W w.heap.size 24 #[.int .i64 k, .string s, .int .i64 n, .int .i64 a, .slice A l.length (capF l.length c)] := by rw [hW]; exact Lies.new w _ _
    go_enter Tryz.func25, Tryz.ntmps25
    go_wp2_with fail
    rw [← hW] at hb0 ⊢
    obtain ⟨b0, b1, b2, b3, b4⟩ := hL.five.1
    have hl := hL.lt
    have hgW := hg.below hb0 hg.pos
    have hIW := TIn.below _ HI.out hb0 (Nat.le_refl _)
    clear hW h8
    go_region_held3 (fun V => V.cell? ⟨w.heap.size, 0, none⟩ = some (.int .i64 k) ∧ V.cell? ⟨w.heap.size, 1, none⟩ = some (.string s) ∧ V.cell? ⟨w.heap.size, 2, none⟩ = some (.int .i64 n) ∧ V.cell? ⟨w.heap.size, 3, none⟩ = some (.int .i64 a) ∧ V.cell? ⟨w.heap.size, 4, none⟩ = some (.slice A l.length (capF l.length c)))
      (first | go_keep)
      ((first
        | (go_at_call 39
           refine (shapes_any W.drew).mono ?_
           rintro e w2 ⟨rfl, hM2, hb2⟩
           have hbr : Below W.heap.size W w2 := (Below.refl _ W).drew.trans hb2
           have v0 := (hbr.cell (p := ⟨w.heap.size, 0, none⟩) hl).trans b0
           have v1 := (hbr.cell (p := ⟨w.heap.size, 1, none⟩) hl).trans b1
           have v2 := (hbr.cell (p := ⟨w.heap.size, 2, none⟩) hl).trans b2
           have v3 := (hbr.cell (p := ⟨w.heap.size, 3, none⟩) hl).trans b3
           have v4 := (hbr.cell (p := ⟨w.heap.size, 4, none⟩) hl).trans b4
           have hl2 : w.heap.size < w2.heap.size := by have := hbr.size; omega)
        | (go_at_call 38
           refine (pmay_any (depthT (.node k s n a l)) (.node k s n a l) A c _ w2 (Nat.le_refl _) (TIn.below _ hIW hbr (Nat.le_refl _)) hM2 (hgW.below hbr hgW.pos)).mono ?_
           rintro e w3 ⟨rfl, hb3⟩
           have v0' := (hb3.cell (p := ⟨w.heap.size, 0, none⟩) hl2).trans v0
           have v1' := (hb3.cell (p := ⟨w.heap.size, 1, none⟩) hl2).trans v1
           have v2' := (hb3.cell (p := ⟨w.heap.size, 2, none⟩) hl2).trans v2
           have v3' := (hb3.cell (p := ⟨w.heap.size, 3, none⟩) hl2).trans v3
           have v4' := (hb3.cell (p := ⟨w.heap.size, 4, none⟩) hl2).trans v4)))
    go_wp2_with fail
    go_ret
    exact ⟨ret_bool HE.out.symm, (hb0.trans (hbr.mono hb0.size)).trans (hb3.mono (by have := hb0.size; have := hbr.size; omega))⟩
end Lx
end Go.Proofs.YtobdoahdjbmflaaGreatDoor
