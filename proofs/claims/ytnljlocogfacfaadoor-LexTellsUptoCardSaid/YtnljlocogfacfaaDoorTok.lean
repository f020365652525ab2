/-
  Walks of lex.number, lex.run, lex.token: one token.
-/
import Derived.Test.YtnljlocogfacfaaDoorLeaf
import Derived.Test.YtnljlocogfacfaaDoorShelf
import Derived.Test.YtnljlocogfacfaaDoorWords
namespace Go.Proofs.YtnljlocogfacfaaDoor
open Go.RowKit
namespace Lx
set_option maxRecDepth 100000
/-- A result that lies in a block of four cells, of type 33. -/
theorem res_tok {fn : Func} {p : Tmp} (h : fn.results = #[.cell p 48]) {tmps : Array Value} {g : Nat} {a b c d : Value} {w : World} (hp : tmps.getD p undef = .pointer (some ⟨g, 0, none⟩)) (L : Lies w g 48 #[a, b, c, d]) :
    (results fn tmps).run Tryd.prog w = .ok (.agg #[a, b, c, d]) w := by
  have hl := run_loadVar_row (P := Tryd.prog) w g 48 48 #[a, b, c, d] (0, 0) _ L Tryd.underlying48 rfl (by kernel_rfl)
  have hp' : tmps[p]?.getD undef = .pointer (some ⟨g, 0, none⟩) := by simpa using hp
  simp only [results, h]
  simp [hp', asAddr, hl]
theorem Lies.all {w : World} {g : Nat} {t : TypeId} {a b c d : Value} (h : Lies w g t #[a, b, c, d]) (x y z u : Value) : Lies ((((w.setCell ⟨g, 0, none⟩ x).setCell ⟨g, 1, none⟩ y).setCell ⟨g, 2, none⟩ z).setCell ⟨g, 3, none⟩ u) g t #[x, y, z, u] := by
  simpa using (((h.put 0 x).put 1 y).put 2 z).put 3 u
theorem Below.all {B : Nat} {a w : World} (h : Below B a w) {g : Nat} (hg : B ≤ g) (x y z u : Value) : Below B a ((((w.setCell ⟨g, 0, none⟩ x).setCell ⟨g, 1, none⟩ y).setCell ⟨g, 2, none⟩ z).setCell ⟨g, 3, none⟩ u) :=
  (((h.setCell (p := ⟨g, 0, none⟩) hg x).setCell (p := ⟨g, 1, none⟩) hg y).setCell (p := ⟨g, 2, none⟩) hg z).setCell (p := ⟨g, 3, none⟩) hg u

theorem clone_any (s : ByteArray) (w : World) (hs : s.size ≤ 281474976710656) : Calls Tryd.prog 43 #[.string s] w fun e w' => e = .returned (.string s) ∧ Below w.heap.size w w' := by
  go_enter Tryd.func43, Tryd.ntmps43
  go_wp2_with fail
  refine (Tryd.stringslite_Clone s _ hs).mono ?_
  rintro e w1 ⟨rfl, hb1⟩
  go_wp2_with fail
  go_ret
  exact ⟨rfl, hb1⟩

set_option maxHeartbeats 1000000 in
theorem number_ok (s : ByteArray) (at_ : Int) (w : World) (hd : run digR s.data.toList = s.data.toList.length) (h18 : s.size ≤ 18)
    (h0 : s.size ≤ 1 ∨ ∃ h : 1 < s.size, (((s[0]'(by omega)).toNat : Int) == 48) = false) :
    Calls Tryd.prog 77 #[.string s, .int .i64 at_] w fun e w' => e = .returned (.agg #[.int .i64 3, .string s, .int .i64 (numV s.data.toList), .int .i64 at_]) ∧ Below w.heap.size w w' := by
  have HD := Lib.hid hd
  clear hd
  rcases h0 with h0 | ⟨h1, h0⟩
  all_goals
    go_enter Tryd.func77, Tryd.ntmps77
    go_wp2_with fail
    refine (span_dig _ _).mono ?_
    rintro e w1 ⟨rfl, hb1⟩
    rw [HD.out]
    go_wp2_with fail
    go_loopw [5] (fun n wr => ∃ k : Nat, k ≤ s.size ∧ wr = w1.iter s k ∧ n = .int .i64 (numV (s.data.toList.take k))) (fun _ wr => s.size - wr.iterPos w1.heap.size)
    case atStart => exact ⟨0, Nat.zero_le _, rfl, rfl⟩
    case round =>
      obtain ⟨k, hk, rfl, rfl⟩ := hrel
      by_cases hlt : k < s.size
      · have hlen : k < s.data.toList.length := by simpa using hlt
        have hb : s.data.toList[k]'hlen = s[k] := by simp [ByteArray.getElem_eq_getElem_data]
        have hmem := dig_of digR _ HD.out (s.data.toList[k]'hlen) (List.getElem_mem hlen)
        have HS := Lib.hid (take_snoc s.data.toList k hlen)
        have hbd := numV_bd k (s.data.toList.take k) (by simp; omega) (fun c hc => dig_of digR _ HD.out c (List.mem_of_mem_take hc))
        have hp := pow_le17 k (by omega)
        rw [hb] at hmem HS
        have hd2 : 48 ≤ ((s[k]'hlt).toNat : Int) ∧ ((s[k]'hlt).toNat : Int) ≤ 57 := by simpa [digR] using hmem
        obtain ⟨hd3, hd4⟩ := hd2
        obtain ⟨hb3, hb4⟩ := hbd
        have hb5 : numV (s.data.toList.take k) ≤ 100000000000000000 := by omega
        clear hp hb4 hmem hb
        have hnx : ∀ ty, (Instr.next (.pointer (some ⟨w1.heap.size, 0, none⟩)) true ty).run Tryd.prog (w1.iter s k) = _ := fun ty => run_next_ascii w1 s k ty hlt (by omega)
        go_wp2_with fail
        go_roundw
        case rel =>
          refine ⟨k + 1, by omega, rfl, ?_⟩
          rw [HS.out, numV_snoc]
        case measure => simp; omega
      · have hnx : ∀ ty, (Instr.next (.pointer (some ⟨w1.heap.size, 0, none⟩)) true ty).run Tryd.prog (w1.iter s k) = _ := fun ty => run_next_end w1 s k ty hlt
        go_wp2_with fail
        refine (clone_any _ _ (by omega)).mono ?_
        rintro e w2 ⟨rfl, hb2⟩
        have hsz := hb1.size
        have hL : Lies w2 w.heap.size 48 #[.int .i64 0, .string ⟨#[]⟩, .int .i64 0, .int .i64 0] :=
          (((Lies.new w 48 _).below hb1 (by simp)).old (.stringIter s k)).below hb2 (by simp [World.iter] at hsz ⊢; omega)
        obtain ⟨⟨c0, c1, c2, c3⟩, f0, f1, f2, f3⟩ := hL.four
        have hB : Below w.heap.size w w2 := ((((Below.refl _ w).alloc (Nat.le_refl _) _).trans (hb1.mono (by simp))).alloc (by simp at hsz; omega) _).trans (hb2.mono (by simp [World.iter] at hsz ⊢; omega))
        have HT := Lib.hid (List.take_of_length_le (l := s.data.toList) (i := k) (by simp; omega))
        go_wp2_with fail
        exact bodyPost_ret (res_tok (p := 4) Tryd.results77 rfl (hL.all _ _ _ _)) rfl ⟨by rw [HT.out], Below.all hB (Nat.le_refl _) _ _ _ _⟩

theorem data_list (s : ByteArray) : s.toList = s.data.toList := by
  have := Lib.extract_toList s 0 s.size
  rw [ByteArray.extract_zero_size] at this
  rw [this]
  exact List.take_of_length_le (by show s.data.toList.length ≤ s.size; rw [Lib.size_eq]; exact Nat.le_refl _)
theorem below_ac {w w1 : World} {o : Obj} (hb : Below (w.alloc o).heap.size (w.alloc o) w1) : Below w.heap.size w w1 :=
  ((Below.refl _ w).alloc (Nat.le_refl _) _).trans (hb.mono (by simp))
/-- What the reader panics with. -/
def noTok (at_ e : Int) : Value := .iface 50 (.agg #[.int .i64 at_, .int .i64 e])
set_option maxHeartbeats 1000000 in
theorem number_char (s : ByteArray) (at_ : Int) (w : World) (hd : run digR s.data.toList < s.data.toList.length) :
    Calls Tryd.prog 77 #[.string s, .int .i64 at_] w fun e w' => e = .panicked [{ v := noTok at_ 10, recovered := false }] ∧ Below w.heap.size w w' := by
  have hd' : run digR s.data.toList < s.size := by simpa using hd
  clear hd
  unfold noTok
  go_enter Tryd.func77, Tryd.ntmps77
  go_wp2_with fail
  refine (span_dig _ _).mono ?_
  rintro e w1 ⟨rfl, hb1⟩
  go_wp2_with fail
  exact ⟨rfl, rfl, below_ac hb1⟩
set_option maxHeartbeats 1000000 in
theorem number_long (s : ByteArray) (at_ : Int) (w : World) (hd : run digR s.data.toList = s.data.toList.length)
    (h0 : 18 < s.size ∨ (s.size ≤ 18 ∧ ∃ h : 1 < s.size, (((s[0]'(by omega)).toNat : Int) == 48) = true)) :
    Calls Tryd.prog 77 #[.string s, .int .i64 at_] w fun e w' => e = .panicked [{ v := noTok at_ 11, recovered := false }] ∧ Below w.heap.size w w' := by
  have HD := Lib.hid hd
  clear hd
  unfold noTok
  rcases h0 with h0 | ⟨h18, h1, h0⟩
  all_goals
    go_enter Tryd.func77, Tryd.ntmps77
    go_wp2_with fail
    refine (span_dig _ _).mono ?_
    rintro e w1 ⟨rfl, hb1⟩
    rw [HD.out]
    go_wp2_with fail
    exact ⟨rfl, rfl, below_ac hb1⟩

theorem word_any (s : ByteArray) (w : World) : Calls Tryd.prog 17 #[.string s] w fun e w' => e = .returned (.bool (wordS s.data.toList)) ∧ w = w' := by
  go_enter Tryd.func17, Tryd.ntmps17
  go_wp2
  all_goals
    go_ret
    refine ⟨ret_bool ?_, rfl⟩
    rw [← data_list]
    simp_all [wordS]

theorem head_eq (s : ByteArray) (h : 0 < s.size) : s.data.toList.head? = some (s[0]'h) := by
  obtain ⟨⟨l⟩⟩ := s
  cases l with
  | nil => simp [ByteArray.size] at h
  | cons a r => rfl
theorem b48 (c : UInt8) : ((c.toNat : Int) == 48) = decide (c = 48) := by
  rw [Bool.eq_iff_iff]
  simp only [beq_iff_eq, decide_eq_true_eq]
  constructor
  · intro h; apply UInt8.toNat_inj.1; simp; omega
  · rintro rfl; rfl

theorem num_good (s : ByteArray) (at_ k n : Int) (w : World) (h : numK s.data.toList = .ok (k, n)) :
    Calls Tryd.prog 77 #[.string s, .int .i64 at_] w fun e w' => e = .returned (.agg #[.int .i64 k, .string s, .int .i64 n, .int .i64 at_]) ∧ Below w.heap.size w w' := by
  unfold numK at h
  have hr := run_le digR s.data.toList
  split at h
  · cases h
  · split at h
    · cases h
    · rename_i h1 h2
      simp only [Except.ok.injEq, Prod.mk.injEq] at h
      obtain ⟨rfl, rfl⟩ := h
      rw [← Lib.size_eq] at h2
      refine number_ok s at_ w (by omega) (by omega) ?_
      by_cases h3 : 1 < s.size
      · refine .inr ⟨h3, ?_⟩
        rw [b48, decide_eq_false]
        intro h4
        exact h2 (.inr ⟨h3, by rw [head_eq s (by omega), h4]⟩)
      · exact .inl (by omega)

theorem num_bad (s : ByteArray) (at_ x : Int) (w : World) (h : numK s.data.toList = .error x) :
    Calls Tryd.prog 77 #[.string s, .int .i64 at_] w fun e w' => e = .panicked [{ v := noTok at_ x, recovered := false }] ∧ Below w.heap.size w w' := by
  unfold numK at h
  have hr := run_le digR s.data.toList
  split at h
  · rename_i h1
    cases h
    exact number_char s at_ w h1
  · rename_i h1
    split at h
    · rename_i h2
      cases h
      rw [← Lib.size_eq] at h2
      refine number_long s at_ w (by omega) ?_
      by_cases h18 : 18 < s.size
      · exact .inl h18
      · obtain ⟨h3, h4⟩ : 1 < s.size ∧ s.data.toList.head? = some 48 := h2.resolve_left h18
        refine .inr ⟨by omega, h3, ?_⟩
        rw [head_eq s (by omega)] at h4
        rw [b48, decide_eq_true_eq]
        exact Option.some.inj h4
    · cases h

set_option maxHeartbeats 1000000 in
theorem run_num (s : ByteArray) (at_ k n : Int) (w : World) (h0 : 0 < run digR s.data.toList) (h : numK s.data.toList = .ok (k, n)) :
    Calls Tryd.prog 64 #[.string s, .int .i64 at_] w fun e w' => e = .returned (.agg #[.int .i64 k, .string s, .int .i64 n, .int .i64 at_]) ∧ Below w.heap.size w w' := by
  have HH := Lib.hid h
  clear h
  go_enter Tryd.func64, Tryd.ntmps64
  go_wp2_with fail
  refine (span_dig _ _).mono ?_
  rintro e w1 ⟨rfl, hb1⟩
  go_wp2_with fail
  refine (num_good s at_ k n _ HH.out).mono ?_
  rintro e w2 ⟨rfl, hb2⟩
  have hsz := hb1.size
  have hL : Lies w2 w.heap.size 48 #[.int .i64 0, .string ⟨#[]⟩, .int .i64 0, .int .i64 0] :=
    ((Lies.new w 48 _).below hb1 (by simp)).below hb2 (by simp at hsz ⊢; omega)
  obtain ⟨⟨c0, c1, c2, c3⟩, f0, f1, f2, f3⟩ := hL.four
  have hB : Below w.heap.size w w2 := (below_ac hb1).trans (hb2.mono (by simp at hsz ⊢; omega))
  go_wp2_with fail
  exact bodyPost_ret (res_tok (p := 4) Tryd.results64 rfl (hL.all _ _ _ _)) rfl ⟨rfl, Below.all hB (Nat.le_refl _) _ _ _ _⟩

set_option maxHeartbeats 1000000 in
theorem run_num_bad (s : ByteArray) (at_ x : Int) (w : World) (h0 : 0 < run digR s.data.toList) (h : numK s.data.toList = .error x) :
    Calls Tryd.prog 64 #[.string s, .int .i64 at_] w fun e w' => e = .panicked [{ v := noTok at_ x, recovered := false }] ∧ Below w.heap.size w w' := by
  have HH := Lib.hid h
  clear h
  go_enter Tryd.func64, Tryd.ntmps64
  go_wp2_with fail
  refine (span_dig _ _).mono ?_
  rintro e w1 ⟨rfl, hb1⟩
  go_wp2_with fail
  refine (num_bad s at_ x _ HH.out).mono ?_
  rintro e w2 ⟨rfl, hb2⟩
  have hsz := hb1.size
  have hB : Below w.heap.size w w2 := (below_ac hb1).trans (hb2.mono (by simp at hsz ⊢; omega))
  go_wp2_with fail
  exact ⟨rfl, rfl, hB⟩

set_option maxHeartbeats 1000000 in
theorem run_long (s : ByteArray) (at_ : Int) (w : World) (h0 : ¬ 0 < run digR s.data.toList) (h : 16 < s.size) :
    Calls Tryd.prog 64 #[.string s, .int .i64 at_] w fun e w' => e = .panicked [{ v := noTok at_ 11, recovered := false }] ∧ Below w.heap.size w w' := by
  unfold noTok
  go_enter Tryd.func64, Tryd.ntmps64
  go_wp2_with fail
  refine (span_dig _ _).mono ?_
  rintro e w1 ⟨rfl, hb1⟩
  go_wp2_with fail
  exact ⟨rfl, rfl, below_ac hb1⟩

set_option maxHeartbeats 1000000 in
theorem run_word (s : ByteArray) (at_ : Int) (w : World) (h0 : ¬ 0 < run digR s.data.toList) (h : s.size ≤ 16) (hw : wordS s.data.toList = true) :
    Calls Tryd.prog 64 #[.string s, .int .i64 at_] w fun e w' => e = .returned (.agg #[.int .i64 4, .string s, .int .i64 0, .int .i64 at_]) ∧ Below w.heap.size w w' := by
  have HW := Lib.hid hw
  clear hw
  go_enter Tryd.func64, Tryd.ntmps64
  go_wp2_with fail
  refine (span_dig _ _).mono ?_
  rintro e w1 ⟨rfl, hb1⟩
  go_wp2_with fail
  refine (word_any s _).mono ?_
  rintro e w' ⟨rfl, rfl⟩
  rw [HW.out]
  go_wp2_with fail
  refine (clone_any s _ (by omega)).mono ?_
  rintro e w2 ⟨rfl, hb2⟩
  have hsz := hb1.size
  have hL : Lies w2 w.heap.size 48 #[.int .i64 0, .string ⟨#[]⟩, .int .i64 0, .int .i64 0] :=
    ((Lies.new w 48 _).below hb1 (by simp)).below hb2 (by simp at hsz ⊢; omega)
  obtain ⟨⟨c0, c1, c2, c3⟩, f0, f1, f2, f3⟩ := hL.four
  have hB : Below w.heap.size w w2 := (below_ac hb1).trans (hb2.mono (by simp at hsz ⊢; omega))
  go_wp2_with fail
  exact bodyPost_ret (res_tok (p := 4) Tryd.results64 rfl (hL.all _ _ _ _)) rfl ⟨rfl, Below.all hB (Nat.le_refl _) _ _ _ _⟩

set_option maxHeartbeats 1000000 in
theorem run_name (s : ByteArray) (at_ k : Int) (w : World) (h0 : ¬ 0 < run digR s.data.toList) (h : s.size ≤ 16) (hw : wordS s.data.toList = false)
    (hk : (0 < run lowR s.data.toList ∧ k = 1) ∨ (¬ 0 < run lowR s.data.toList ∧ k = 2)) :
    Calls Tryd.prog 64 #[.string s, .int .i64 at_] w fun e w' => e = .returned (.agg #[.int .i64 k, .string s, .int .i64 0, .int .i64 at_]) ∧ Below w.heap.size w w' := by
  have HW := Lib.hid hw
  clear hw
  rcases hk with ⟨hk, rfl⟩ | ⟨hk, rfl⟩
  all_goals
    go_enter Tryd.func64, Tryd.ntmps64
    go_wp2_with fail
    refine (span_dig _ _).mono ?_
    rintro e w1 ⟨rfl, hb1⟩
    go_wp2_with fail
    refine (word_any s _).mono ?_
    rintro e w' ⟨rfl, rfl⟩
    rw [HW.out]
    go_wp2_with fail
    refine (span_low _ _).mono ?_
    rintro e w3 ⟨rfl, hb3⟩
    go_wp2_with fail
    refine (clone_any s _ (by omega)).mono ?_
    rintro e w2 ⟨rfl, hb2⟩
    have hsz := hb1.size
    have hsz3 := hb3.size
    have hL : Lies w2 w.heap.size 48 #[.int .i64 0, .string ⟨#[]⟩, .int .i64 0, .int .i64 0] :=
      (((Lies.new w 48 _).below hb1 (by simp)).below hb3 (by simp at hsz ⊢; omega)).below hb2 (by simp at hsz ⊢; omega)
    obtain ⟨⟨c0, c1, c2, c3⟩, f0, f1, f2, f3⟩ := hL.four
    have hB : Below w.heap.size w w2 := ((below_ac hb1).trans (hb3.mono (by simp at hsz ⊢; omega))).trans (hb2.mono (by simp at hsz ⊢; omega))
    go_wp2_with fail
    exact bodyPost_ret (res_tok (p := 4) Tryd.results64 rfl (hL.all _ _ _ _)) rfl ⟨rfl, Below.all hB (Nat.le_refl _) _ _ _ _⟩

theorem run_good (s : ByteArray) (at_ k n : Int) (w : World) (h : runK s.data.toList = .ok (k, n)) :
    Calls Tryd.prog 64 #[.string s, .int .i64 at_] w fun e w' => e = .returned (.agg #[.int .i64 k, .string s, .int .i64 n, .int .i64 at_]) ∧ Below w.heap.size w w' := by
  unfold runK at h
  split at h
  · rename_i h0
    exact run_num s at_ k n w h0 h
  · rename_i h0
    split at h
    · cases h
    · rename_i h1
      rw [← Lib.size_eq] at h1
      split at h
      · rename_i h2
        cases h
        exact run_word s at_ w h0 (by omega) h2
      · rename_i h2
        have h2' : wordS s.data.toList = false := by simpa using h2
        split at h
        · rename_i h3
          cases h
          exact run_name s at_ 1 w h0 (by omega) h2' (.inl ⟨h3, rfl⟩)
        · rename_i h3
          cases h
          exact run_name s at_ 2 w h0 (by omega) h2' (.inr ⟨h3, rfl⟩)
theorem run_bad (s : ByteArray) (at_ x : Int) (w : World) (h : runK s.data.toList = .error x) :
    Calls Tryd.prog 64 #[.string s, .int .i64 at_] w fun e w' => e = .panicked [{ v := noTok at_ x, recovered := false }] ∧ Below w.heap.size w w' := by
  unfold runK at h
  split at h
  · rename_i h0
    exact run_num_bad s at_ x w h0 h
  · rename_i h0
    split at h
    · rename_i h1
      rw [← Lib.size_eq] at h1
      cases h
      exact run_long s at_ w h0 h1
    · split at h
      · cases h
      · split at h <;> cases h
end Lx
end Go.Proofs.YtnljlocogfacfaaDoor
