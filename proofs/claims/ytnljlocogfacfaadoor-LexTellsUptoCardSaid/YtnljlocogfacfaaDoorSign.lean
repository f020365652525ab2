/-
  Walks of lex.token: what stands at a place of a text.
-/
import Derived.Test.YtnljlocogfacfaaDoorTok
import Derived.Lib.IndexBytes
namespace Go.Proofs.YtnljlocogfacfaaDoor
open Go.RowKit
namespace Lx
set_option maxRecDepth 100000
/-- The cells of the package's table of signs. -/
def signCells : Array Value := (signsS.map fun g => Value.string ⟨g.toArray⟩).toArray
/-- The table of signs, in its variable. -/
def Signs (w : World) : Prop := ∃ t fr, w.heap[0]? = some (.cells signCells t fr)
theorem Signs.pos {w : World} (h : Signs w) : 0 < w.heap.size := by
  obtain ⟨t, fr, h⟩ := h
  exact (Array.getElem?_eq_some_iff.1 h).1
theorem Signs.below {w w' : World} {B : Nat} (h : Signs w) (hb : Below B w w') (hB : 0 < B) : Signs w' := by
  obtain ⟨t, fr, h⟩ := h
  exact ⟨t, fr, (hb.block 0 hB).trans h⟩
theorem sign_at (k : Nat) (h : k < 15) (w : World) : (Instr.index 90 (.agg signCells) (.int .i64 k)).run Tryd.prog w = .ok (.string ⟨(signsS.getD k []).toArray⟩) w := by
  have i0 : (Instr.index 90 (.agg signCells) (.int .i64 0)).run Tryd.prog w = .ok (.string ⟨(signsS.getD 0 []).toArray⟩) w := by kernel_rfl
  have i1 : (Instr.index 90 (.agg signCells) (.int .i64 1)).run Tryd.prog w = .ok (.string ⟨(signsS.getD 1 []).toArray⟩) w := by kernel_rfl
  have i2 : (Instr.index 90 (.agg signCells) (.int .i64 2)).run Tryd.prog w = .ok (.string ⟨(signsS.getD 2 []).toArray⟩) w := by kernel_rfl
  have i3 : (Instr.index 90 (.agg signCells) (.int .i64 3)).run Tryd.prog w = .ok (.string ⟨(signsS.getD 3 []).toArray⟩) w := by kernel_rfl
  have i4 : (Instr.index 90 (.agg signCells) (.int .i64 4)).run Tryd.prog w = .ok (.string ⟨(signsS.getD 4 []).toArray⟩) w := by kernel_rfl
  have i5 : (Instr.index 90 (.agg signCells) (.int .i64 5)).run Tryd.prog w = .ok (.string ⟨(signsS.getD 5 []).toArray⟩) w := by kernel_rfl
  have i6 : (Instr.index 90 (.agg signCells) (.int .i64 6)).run Tryd.prog w = .ok (.string ⟨(signsS.getD 6 []).toArray⟩) w := by kernel_rfl
  have i7 : (Instr.index 90 (.agg signCells) (.int .i64 7)).run Tryd.prog w = .ok (.string ⟨(signsS.getD 7 []).toArray⟩) w := by kernel_rfl
  have i8 : (Instr.index 90 (.agg signCells) (.int .i64 8)).run Tryd.prog w = .ok (.string ⟨(signsS.getD 8 []).toArray⟩) w := by kernel_rfl
  have i9 : (Instr.index 90 (.agg signCells) (.int .i64 9)).run Tryd.prog w = .ok (.string ⟨(signsS.getD 9 []).toArray⟩) w := by kernel_rfl
  have i10 : (Instr.index 90 (.agg signCells) (.int .i64 10)).run Tryd.prog w = .ok (.string ⟨(signsS.getD 10 []).toArray⟩) w := by kernel_rfl
  have i11 : (Instr.index 90 (.agg signCells) (.int .i64 11)).run Tryd.prog w = .ok (.string ⟨(signsS.getD 11 []).toArray⟩) w := by kernel_rfl
  have i12 : (Instr.index 90 (.agg signCells) (.int .i64 12)).run Tryd.prog w = .ok (.string ⟨(signsS.getD 12 []).toArray⟩) w := by kernel_rfl
  have i13 : (Instr.index 90 (.agg signCells) (.int .i64 13)).run Tryd.prog w = .ok (.string ⟨(signsS.getD 13 []).toArray⟩) w := by kernel_rfl
  have i14 : (Instr.index 90 (.agg signCells) (.int .i64 14)).run Tryd.prog w = .ok (.string ⟨(signsS.getD 14 []).toArray⟩) w := by kernel_rfl
  match k, h with
  | 0, _ => exact i0
  | 1, _ => exact i1
  | 2, _ => exact i2
  | 3, _ => exact i3
  | 4, _ => exact i4
  | 5, _ => exact i5
  | 6, _ => exact i6
  | 7, _ => exact i7
  | 8, _ => exact i8
  | 9, _ => exact i9
  | 10, _ => exact i10
  | 11, _ => exact i11
  | 12, _ => exact i12
  | 13, _ => exact i13
  | 14, _ => exact i14

theorem span_ld_from (s : ByteArray) (k : Nat) (w : World) : Calls Tryd.prog 48 #[.string (s.extract k s.size), .func (.func 63) #[] #[]] w fun e w' => e = .returned (.int .i64 (run ldR (s.data.toList.drop k))) ∧ Below w.heap.size w w' := by
  have h := span_ld (s.extract k s.size) w
  rw [Lib.extract_to_end] at h
  exact h

def SignPost (l : List UInt8) (at_ : Int) (e : Ending) : Prop :=
  (∀ g, signOf l = some g → e = .returned (.agg #[.int .i64 5, .string ⟨g.toArray⟩, .int .i64 0, .int .i64 at_])) ∧
  (signOf l = none → e = .panicked [{ v := noTok at_ 10, recovered := false }])

theorem prefix_from (s : ByteArray) (k m : Nat) (w : World) : Calls Tryd.prog 65 #[.string (s.extract k s.size), .string ⟨(signsS.getD m []).toArray⟩] w fun e w' =>
    e = .returned (.bool (Lib.hasPrefix (s.data.toList.drop k) (signsS.getD m []))) ∧ w = w' := by
  refine (Tryd.strings_HasPrefix _ _ w).mono ?_
  rintro e w' ⟨rfl, rfl⟩
  rw [Lib.extract_to_end]
  exact ⟨rfl, rfl⟩

set_option maxHeartbeats 1000000 in
theorem token_sign (s : ByteArray) (k : Nat) (w : World) (hk : k ≤ s.size) (hg : Signs w) (h0 : ¬ 0 < run ldR (s.data.toList.drop k)) :
    Calls Tryd.prog 50 #[.string s, .int .i64 k] w fun e w' => SignPost (s.data.toList.drop k) k e ∧ Below w.heap.size w w' := by
  have hpos := hg.pos
  go_enter Tryd.func50, Tryd.ntmps50
  go_wp2_with fail
  refine (span_ld_from _ _ _).mono ?_
  rintro e w1 ⟨rfl, hb1⟩
  have hg1 : Signs w1 := (hg.below ((Below.refl _ w).alloc (Nat.le_refl _) _) hpos).below hb1 (by simp)
  obtain ⟨tt, fr, hg1'⟩ := hg1
  have hL : Lies w1 w.heap.size 48 #[.int .i64 0, .string ⟨#[]⟩, .int .i64 0, .int .i64 0] := (Lies.new w 48 _).below hb1 (by simp)
  have hB : Below w.heap.size w w1 := below_ac hb1
  clear hb1 hg
  go_wp2_with (refine wpList_load_row rfl 90 _ rfl 0 rfl tt _ fr _ hg1' Tryd.underlying90 rfl (by kernel_rfl) ?_)
  clear hg1'
  go_loop [22] (fun v => ∃ m : Nat, m ≤ 15 ∧ v = .int .i64 m ∧ Hid (∀ j, j < m → Lib.hasPrefix (s.data.toList.drop k) (signsS.getD j []) = false)) (fun v => 15 - (intOf v).toNat)
  case atStart => exact ⟨0, by omega, rfl, fun j hj => by omega⟩
  case round =>
    obtain ⟨m, hm, rfl, HF⟩ := hrel
    by_cases hlt : m < 15
    · have hix := sign_at m hlt w1
      cases hp : Lib.hasPrefix (s.data.toList.drop k) (signsS.getD m [])
      · have HP := Lib.hid hp
        clear hp
        go_wp2_with fail
        refine (prefix_from _ _ _ _).mono ?_
        rintro e w' ⟨rfl, rfl⟩
        rw [HP.out]
        go_wp2_with fail
        go_round
        case rel =>
          refine ⟨m + 1, by omega, by go_num, fun j hj => ?_⟩
          rcases Nat.lt_or_ge j m with h1 | h1
          · exact HF.out j h1
          · obtain rfl : j = m := by omega
            exact HP.out
        case measure => simp [intOf]; omega
      · have HP := Lib.hid hp
        clear hp
        obtain ⟨⟨c0, c1, c2, c3⟩, f0, f1, f2, f3⟩ := hL.four
        go_wp2_with fail
        refine (prefix_from _ _ _ _).mono ?_
        rintro e w' ⟨rfl, rfl⟩
        rw [HP.out]
        go_wp2_with fail
        refine bodyPost_ret (res_tok (p := 4) Tryd.results50 rfl (hL.all _ _ _ _)) rfl ⟨⟨fun g hg => ?_, fun hg => ?_⟩, Below.all hB (Nat.le_refl _) _ _ _ _⟩
        · have := find_first (fun g => Lib.hasPrefix (s.data.toList.drop k) g) [] signsS m hlt HF.out HP.out
          unfold signOf at hg
          rw [this] at hg
          rw [← Option.some.inj hg, List.getD_eq_getElem?_getD]
        · have := find_first (fun g => Lib.hasPrefix (s.data.toList.drop k) g) [] signsS m hlt HF.out HP.out
          unfold signOf at hg
          rw [this] at hg
          cases hg
    · go_wp2_with fail
      refine ⟨rfl, ⟨fun g hg => ?_, fun hg => rfl⟩, hB⟩
      have := find_none (fun g => Lib.hasPrefix (s.data.toList.drop k) g) [] signsS (fun j hj => HF.out j (by have h15 : signsS.length = 15 := rfl; omega))
      unfold signOf at hg
      rw [this] at hg
      cases hg

theorem toBytes (s : ByteArray) : (⟨s.data.toList.toArray⟩ : ByteArray) = s := by
  cases s; simp
theorem cut_twice (s : ByteArray) (k n : Nat) : ((s.extract k s.size).extract 0 n).data.toList = (s.data.toList.drop k).take n := by
  rw [Lib.extract_data, Lib.extract_to_end]
  simp
theorem cut_eq (s : ByteArray) (k n : Nat) : (s.extract k s.size).extract 0 n = ⟨((s.data.toList.drop k).take n).toArray⟩ := by
  rw [← cut_twice, toBytes]

set_option maxHeartbeats 1000000 in
theorem token_run (s : ByteArray) (k : Nat) (kd n : Int) (w : World) (hk : k ≤ s.size) (h0 : 0 < run ldR (s.data.toList.drop k)) (h : runK ((s.data.toList.drop k).take (run ldR (s.data.toList.drop k))) = .ok (kd, n)) :
    Calls Tryd.prog 50 #[.string s, .int .i64 k] w fun e w' =>
      e = .returned (.agg #[.int .i64 kd, .string ⟨((s.data.toList.drop k).take (run ldR (s.data.toList.drop k))).toArray⟩, .int .i64 n, .int .i64 k]) ∧ Below w.heap.size w w' := by
  have hle := run_le ldR (s.data.toList.drop k)
  have hle2 : run ldR (s.data.toList.drop k) ≤ s.size - k := by simpa using hle
  clear hle
  have HR := fun w => run_good ((s.extract k s.size).extract 0 (run ldR (s.data.toList.drop k))) k kd n w (by rw [cut_twice]; exact h)
  have HH := Lib.hid HR
  clear HR h
  go_enter Tryd.func50, Tryd.ntmps50
  go_wp2_with fail
  refine (span_ld_from _ _ _).mono ?_
  rintro e w1 ⟨rfl, hb1⟩
  go_wp2_with fail
  refine (HH.out _).mono ?_
  rintro e w2 ⟨rfl, hb2⟩
  have hsz := hb1.size
  have hL : Lies w2 w.heap.size 48 #[.int .i64 0, .string ⟨#[]⟩, .int .i64 0, .int .i64 0] :=
    ((Lies.new w 48 _).below hb1 (by simp)).below hb2 (by simp at hsz ⊢; omega)
  obtain ⟨⟨c0, c1, c2, c3⟩, f0, f1, f2, f3⟩ := hL.four
  have hB : Below w.heap.size w w2 := (below_ac hb1).trans (hb2.mono (by simp at hsz ⊢; omega))
  go_wp2_with fail
  exact bodyPost_ret (res_tok (p := 4) Tryd.results50 rfl (hL.all _ _ _ _)) rfl ⟨by rw [cut_eq], Below.all hB (Nat.le_refl _) _ _ _ _⟩

set_option maxHeartbeats 1000000 in
theorem token_run_bad (s : ByteArray) (k : Nat) (x : Int) (w : World) (hk : k ≤ s.size) (h0 : 0 < run ldR (s.data.toList.drop k)) (h : runK ((s.data.toList.drop k).take (run ldR (s.data.toList.drop k))) = .error x) :
    Calls Tryd.prog 50 #[.string s, .int .i64 k] w fun e w' => e = .panicked [{ v := noTok k x, recovered := false }] ∧ Below w.heap.size w w' := by
  have hle := run_le ldR (s.data.toList.drop k)
  have hle2 : run ldR (s.data.toList.drop k) ≤ s.size - k := by simpa using hle
  clear hle
  have HR := fun w => run_bad ((s.extract k s.size).extract 0 (run ldR (s.data.toList.drop k))) k x w (by rw [cut_twice]; exact h)
  have HH := Lib.hid HR
  clear HR h
  go_enter Tryd.func50, Tryd.ntmps50
  go_wp2_with fail
  refine (span_ld_from _ _ _).mono ?_
  rintro e w1 ⟨rfl, hb1⟩
  go_wp2_with fail
  refine (HH.out _).mono ?_
  rintro e w2 ⟨rfl, hb2⟩
  have hsz := hb1.size
  have hB : Below w.heap.size w w2 := (below_ac hb1).trans (hb2.mono (by simp at hsz ⊢; omega))
  go_wp2_with fail
  exact ⟨rfl, rfl, hB⟩

theorem token_good (s : ByteArray) (k : Nat) (kd n : Int) (t : List UInt8) (w : World) (hk : k ≤ s.size) (hg : Signs w) (h : tokK (s.data.toList.drop k) = .ok (kd, n, t)) :
    Calls Tryd.prog 50 #[.string s, .int .i64 k] w fun e w' => e = .returned (.agg #[.int .i64 kd, .string ⟨t.toArray⟩, .int .i64 n, .int .i64 k]) ∧ Below w.heap.size w w' := by
  unfold tokK at h
  split at h
  · rename_i h0
    split at h
    · rename_i k' n' h1
      simp only [Except.ok.injEq, Prod.mk.injEq] at h
      obtain ⟨rfl, rfl, rfl⟩ := h
      exact token_run s k _ _ w hk h0 h1
    · cases h
  · rename_i h0
    split at h
    · rename_i g h1
      simp only [Except.ok.injEq, Prod.mk.injEq] at h
      obtain ⟨rfl, rfl, rfl⟩ := h
      refine (token_sign s k w hk hg h0).mono ?_
      rintro e w' ⟨he, hb⟩
      exact ⟨he.1 _ h1, hb⟩
    · cases h
theorem token_bad (s : ByteArray) (k : Nat) (x : Int) (w : World) (hk : k ≤ s.size) (hg : Signs w) (h : tokK (s.data.toList.drop k) = .error x) :
    Calls Tryd.prog 50 #[.string s, .int .i64 k] w fun e w' => e = .panicked [{ v := noTok k x, recovered := false }] ∧ Below w.heap.size w w' := by
  unfold tokK at h
  split at h
  · rename_i h0
    split at h
    · cases h
    · rename_i e1 h1
      cases h
      exact token_run_bad s k _ w hk h0 h1
  · rename_i h0
    split at h
    · cases h
    · rename_i h1
      cases h
      refine (token_sign s k w hk hg h0).mono ?_
      rintro e w' ⟨he, hb⟩
      exact ⟨he.2 h1, hb⟩
end Lx
end Go.Proofs.YtnljlocogfacfaaDoor
