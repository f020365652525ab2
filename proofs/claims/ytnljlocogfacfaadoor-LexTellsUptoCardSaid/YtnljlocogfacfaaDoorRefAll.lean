/-
  The lex reference's All.
-/
import Derived.Test.YtnljlocogfacfaaDoorRefTok
import Derived.Test.YtnljlocogfacfaaDoorAgain
import Derived.Test.YtnljlocogfacfaaDoorToks
import Derived.Test.YtnljlocogfacfaaDoorAll
import Derived.Test.YtnljlocogfacfaaDoorRows4
import Derived.Deep.AppendLies
namespace Go.Proofs.YtnljlocogfacfaaDoor
open Go.RowKit
namespace Lx
set_option maxRecDepth 100000
/-- Where the blanks end. -/
def blkEnd (l : List UInt8) (k : Nat) : Nat := k + run blkR (l.drop k)
theorem blkEnd_le (l : List UInt8) (k : Nat) (h : k ≤ l.length) : blkEnd l k ≤ l.length := by
  have := run_le blkR (l.drop k)
  rw [List.length_drop] at this
  unfold blkEnd
  omega
theorem blkEnd_step {l : List UInt8} {k : Nat} {c : UInt8} {r : List UInt8} (h : l.drop k = c :: r) (hr : l.drop (k + 1) = r) (hc : blkR (c.toNat : Int) = true) : blkEnd l k = blkEnd l (k + 1) := by
  unfold blkEnd
  rw [h, hr, run]
  simp [hc]
  omega
theorem blkEnd_stop {l : List UInt8} {k : Nat} {c : UInt8} {r : List UInt8} (h : l.drop k = c :: r) (hc : blkR (c.toNat : Int) = false) : blkEnd l k = k := by
  unfold blkEnd
  rw [h, run]
  simp [hc]
theorem cls_blank (c : UInt8) : (clsV (c.toNat : Int) == 4) = blkR (c.toNat : Int) := by
  have := c.toNat_lt
  unfold clsV
  cases h1 : lowR (c.toNat : Int)
  · cases h2 : upR (c.toNat : Int)
    · cases h3 : digR (c.toNat : Int)
      · cases h4 : blkR (c.toNat : Int) <;> simp
      · have h4 : blkR (c.toNat : Int) = false := by simp [digR] at h3; simp [blkR]; omega
        simp [h4]
    · have h4 : blkR (c.toNat : Int) = false := by simp [upR] at h2; simp [blkR]; omega
      simp [h4]
  · have h4 : blkR (c.toNat : Int) = false := by simp [lowR] at h1; simp [blkR]; omega
    simp [h4]
theorem res_three {fn : Func} {p q r : Tmp} (h : fn.results = #[.tmp p, .tmp q, .tmp r]) {tmps : Array Value} {x y z : Value} (hp : tmps.getD p undef = x) (hq : tmps.getD q undef = y) (hr : tmps.getD r undef = z) {w : World} :
    (results fn tmps).run Tryd.prog w = .ok (.tuple #[x, y, z]) w := by
  subst hp hq hr
  simp only [results, h]
  simp
/-- What R.All answers. -/
def RAllPost (w : World) (r : Except (Int × Int) (List Tok)) (e : Ending) (w' : World) : Prop :=
  (∀ ts, r = .ok ts → ∃ A c, e = .returned (.tuple #[.slice A ts.length c, .int .i64 0, .int .i64 0]) ∧ Row w' A ts) ∧
  (∀ p x, r = .error (p, x) → e = .returned (.tuple #[.slice none 0 0, .int .i64 p, .int .i64 x])) ∧ Below w.heap.size w w'
set_option maxHeartbeats 4000000 in
theorem rall_any (s : ByteArray) (w : World) (hs : s.size ≤ 60000) :
    Calls Tryd.prog 13 #[.string s] w fun e w' => RAllPost w (allK s.data.toList) e w' := by
  have hl0 := Lib.hid (Lib.size_eq s)
  go_enter Tryd.func13, Tryd.ntmps13
  go_wp2_with fail
  go_loopw [5, 6] (fun v a wr => ∃ (k f : Nat) (acc : List Tok), k ≤ s.size ∧ a = .int .i64 k ∧ s.size < blkEnd s.data.toList k + f ∧ acc.length ≤ k ∧ wr.ownsRow w.heap.size 48 4 v acc.length (cellsOf acc) ∧ Below w.heap.size w wr ∧ Hid (allK s.data.toList = glue acc (scan f (s.data.toList.drop (blkEnd s.data.toList k)) (blkEnd s.data.toList k)))) (fun _ a _ => s.size - (intOf a).toNat)
  case atStart =>
    refine ⟨0, s.size + 1, [], by omega, rfl, by omega, by simp, World.ownsRow_made w #[] 0 (Nat.le_refl _) (by simp [maxLen]) rfl, (Below.refl _ w).alloc (Nat.le_refl _) _, ?_⟩
    show allK s.data.toList = _
    have e : blkEnd s.data.toList 0 = run blkR s.data.toList := by simp [blkEnd]
    unfold allK
    rw [e, ← hl0.out]
    cases scan (s.size + 1) (s.data.toList.drop (run blkR s.data.toList)) (run blkR s.data.toList) <;> simp [glue]
  case round =>
    obtain ⟨k, f, acc, hk, rfl, hf, ha, hown, hbw, HS⟩ := hrel
    have hbs := hbw.size
    by_cases hlt : k < s.size
    · have hlen : k < s.data.toList.length := by simpa using hlt
      have hb : s.data.toList[k]'hlen = s[k]'hlt := by simp [ByteArray.getElem_eq_getElem_data]
      have hD := List.drop_eq_getElem_cons hlen
      rw [hb] at hD
      obtain ⟨c, hc⟩ : ∃ c, s[k]'hlt = c := ⟨_, rfl⟩
      rw [hc] at hD
      have HC := fun w => Lib.hid (class_any (c.toNat : Int) w (u8_bd c).1 (u8_bd c).2)
      have HCB := Lib.hid (cls_blank c)
      obtain ⟨v0, hv0⟩ : ∃ v, v = clsV (c.toNat : Int) := ⟨_, rfl⟩
      rw [← hv0] at HC HCB
      clear hv0
      cases hbk : blkR (c.toNat : Int) with
      | true =>
        have hv4 : (v0 == 4) = true := by rw [HCB.out, hbk]
        have HE := Lib.hid (blkEnd_step hD rfl hbk)
        clear hbk
        go_wp2_with fail
        refine (HC _).out.mono ?_
        rintro e w2 ⟨rfl, rfl⟩
        go_wp2_with fail
        go_roundw
        case rel => exact ⟨k + 1, f, acc, by omega, by go_num, by rw [← HE.out]; exact hf, by omega, hown, hbw, by rw [← HE.out]; exact HS⟩
        case measure => simp [intOf]; omega
      | false =>
        have hv4 : (v0 == 4) = false := by rw [HCB.out, hbk]
        have hE := blkEnd_stop hD hbk
        rw [hE] at hf HS
        clear hbk hE
        obtain ⟨f, rfl⟩ : ∃ f', f = f' + 1 := ⟨f - 1, by omega⟩
        have HO := fun w => Lib.hid (one_both s k w hlt (by omega))
        cases htk : tokK (s.data.toList.drop k) with
        | error x =>
          have hx0 : (x == 0) = false := by rcases tokK_err htk with rfl | rfl <;> rfl
          have HE := Lib.hid (scan_bad (f := f) (k := k) (by intro e; have := congrArg List.length e; simp at this; omega) htk)
          have HT := Lib.hid htk
          clear htk
          go_wp2_with fail
          refine (HC _).out.mono ?_
          rintro e w2 ⟨rfl, rfl⟩
          go_wp2_with fail
          refine (HO _).out.mono ?_
          rintro e w2 ⟨_, he, hb2⟩
          obtain rfl := he x HT.out
          unfold noTokR
          go_wp2_with fail
          refine bodyPost_ret (res_three (p := 2) (q := 3) (r := 4) Tryd.results13 rfl rfl rfl) rfl ?_
          refine ⟨fun ts h => ?_, fun p y h => ?_, (hbw.trans (hb2.mono hbs)).alloc (Nat.le_trans hbs hb2.size) _⟩
          · rw [HS.out, HE.out] at h; cases h
          · rw [HS.out, HE.out] at h
            simp only [glue, Except.error.injEq, Prod.mk.injEq] at h
            rw [← h.1, ← h.2]
            try rfl
        | ok r =>
          obtain ⟨kd, n, t⟩ := r
          have hst := scan_step (l := s.data.toList) (by rw [← hl0.out]; exact hlt) (by rw [← hl0.out]; omega) ha htk HS.out
          rw [← hl0.out] at hst
          obtain ⟨s1, s2, s3, s4, s5⟩ := hst
          have HS5 := Lib.hid s5
          have ht1 := (tok_text htk).1
          have ht2 := (tok_text htk).2.1
          rw [List.length_drop, ← hl0.out] at ht2
          have HT := Lib.hid htk
          clear htk s5 HS
          go_wp2_with fail
          refine (HC _).out.mono ?_
          rintro e w2 ⟨rfl, rfl⟩
          go_wp2_with fail
          refine (HO _).out.mono ?_
          rintro e w2 ⟨he, _, hb2⟩
          obtain rfl := he kd n t HT.out
          unfold tokR
          have hown2 := own_below hown hb2 (Nat.le_refl _)
          have hsz2 := hb2.size
          obtain ⟨i0, hi, hz0, hz1, hz2⟩ := info_parts info33
          clear HC HCB HO hD hc hb
          go_wp2_with (at_builtin; refine wpList_append_own _ rfl _ _ 22 rfl w.heap.size 48 i0 _ 4 40 Tryd.underlying22 hi hz0 hz1 hz2 rfl (by decide) _ _ _ rfl ((hown2.alloc _).alloc _) ⟨w2.heap.size + 1, 0, none⟩ 1 1 [.int .i64 kd, .string ⟨t.toArray⟩, .int .i64 n, .int .i64 k] rfl rfl ?c1 ?c2 ?c3 ?c4 ?c5 ?_)
          case c1 => exact new_cells _ 48 [.int .i64 kd, .string ⟨t.toArray⟩, .int .i64 n, .int .i64 k] _ (by simp)
          case c2 => intro u hu; simp at hu; rcases hu with rfl | rfl | rfl | rfl <;> rfl
          case c3 => simp only [maxLen]; omega
          case c4 => omega
          case c5 => simp; omega
          intro v' w3 hown3 hg3 _
          have hL : Lies w3 w2.heap.size 48 #[.int .i64 kd, .string ⟨t.toArray⟩, .int .i64 n, .int .i64 k] :=
            ((Lies.new w2 48 _).old _).grown hg3 (fun e => by have := hown2.lt _ e.symm; omega)
          have hB3 : Below w.heap.size w w3 := ((((hbw.trans (hb2.mono hbs)).alloc (by omega) _).alloc (by simp; omega) _)).grown hg3 (by simp; omega) (fun q hq => (hown2.lt q hq).1)
          clear hi hz0 hz1 hz2 hg3 hown2
          obtain ⟨⟨_, c1, _, _⟩, _⟩ := hL.four
          go_wp2_with fail
          go_roundw
          case rel =>
            refine ⟨k + t.length, f, acc ++ [⟨kd, t, n, k⟩], by omega, by go_num, s3, by simp; omega, ?_, hB3, HS5⟩
            rw [cellsOf_snoc, List.length_append]
            exact hown3
          case measure => simp [intOf]; omega
    · go_wp2_with fail
      refine bodyPost_ret (res_three (p := 2) (q := 3) (r := 4) Tryd.results13 rfl rfl rfl) rfl ?_
      have hkk : k = s.size := by omega
      have hE : blkEnd s.data.toList k = k := by
        unfold blkEnd
        rw [List.drop_eq_nil_of_le (by rw [← hl0.out]; omega)]
        rfl
      have hH := HS.out
      rw [hE, List.drop_eq_nil_of_le (by rw [← hl0.out]; omega), scan_end] at hH
      simp only [glue, List.append_nil] at hH
      refine ⟨fun ts h => ?_, fun p x h => ?_, hbw⟩
      · rw [hH] at h
        cases h
        obtain ⟨A, c, rfl⟩ := own_slice hown
        exact ⟨A, c, rfl, Row.of_own hown⟩
      · rw [hH] at h; cases h
end Lx
end Go.Proofs.YtnljlocogfacfaaDoor
