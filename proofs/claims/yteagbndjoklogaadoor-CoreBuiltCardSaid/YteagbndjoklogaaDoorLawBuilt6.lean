/-
  Walk of the law CoreBuilt.
-/
import Derived.Test.YteagbndjoklogaaDoorKJ
import Derived.Test.YteagbndjoklogaaDoorKL
namespace Go.Proofs.YteagbndjoklogaaDoor
open Go.RowKit Go.Sort
namespace Lx
set_option maxRecDepth 100000
/-- What is made of the two terms. -/
def madeE (t u : Te) : List Te := [.node 3 0 e0B [t, u], .node 4 0 aB [t, u], .node 8 0 ⟨#[60]⟩ [t, u], .node 5 0 e0B [t, .node 6 0 aB [u]]]
theorem made_may (t u : Te) (f : Int) (hf : 0 ≤ f) : ∀ x ∈ madeE t u, mayV6 x f = (mayV6 t f && mayV6 u f) := by
  intro x hx
  simp only [madeE, List.mem_cons, List.not_mem_nil, or_false] at hx
  rcases hx with rfl | rfl | rfl | rfl
  · exact app_may t u f hf
  · exact con_may t u f hf
  · exact op_may t u f hf
  · exact case_may t u f hf
theorem made_deep (t u : Te) : ∀ x ∈ madeE t u, depthE x ≤ max (depthE t) (depthE u) + 2 := by
  intro x hx
  simp only [madeE, List.mem_cons, List.not_mem_nil, or_false] at hx
  rcases hx with rfl | rfl | rfl | rfl <;> simp only [depthE, depthEL] <;> omega
/-- The alternative. -/
theorem alt_box {w V : World} {g g' : Nat} {k n : Int} {s : ByteArray} {l : List Te} {A : Option Addr} {c : Nat} {k' n' : Int} {s' : ByteArray} {l' : List Te} {A' : Option Addr} {c' : Nat} (h : Bx6 w V g k n s l A c) (h' : Bx6 w V g' k' n' s' l' A' c') :
    Bx6 w ((V.alloc (.cells #[.int .i64 k', .int .i64 n', .string s', .slice A' l'.length (capF l'.length c')] 24)).alloc (.cells #[.int .i64 6, .int .i64 0, .string aB, .slice (some ⟨V.heap.size, 0, none⟩) 1 1] 24)) g k n s l A c ∧ Bx6 w ((V.alloc (.cells #[.int .i64 k', .int .i64 n', .string s', .slice A' l'.length (capF l'.length c')] 24)).alloc (.cells #[.int .i64 6, .int .i64 0, .string aB, .slice (some ⟨V.heap.size, 0, none⟩) 1 1] 24)) g' k' n' s' l' A' c' ∧ Bx6 w ((V.alloc (.cells #[.int .i64 k', .int .i64 n', .string s', .slice A' l'.length (capF l'.length c')] 24)).alloc (.cells #[.int .i64 6, .int .i64 0, .string aB, .slice (some ⟨V.heap.size, 0, none⟩) 1 1] 24)) (V.heap.size + 1) 6 0 aB [.node k' n' s' l'] (some ⟨V.heap.size, 0, none⟩) 1 := by
  have h3 := (h.old (.cells #[.int .i64 k', .int .i64 n', .string s', .slice A' l'.length (capF l'.length c')] 24)).old (.cells #[.int .i64 6, .int .i64 0, .string aB, .slice (some ⟨V.heap.size, 0, none⟩) 1 1] 24)
  have h4 := (h'.old (.cells #[.int .i64 k', .int .i64 n', .string s', .slice A' l'.length (capF l'.length c')] 24)).old (.cells #[.int .i64 6, .int .i64 0, .string aB, .slice (some ⟨V.heap.size, 0, none⟩) 1 1] 24)
  have L1 := (Lies.new V 24 #[.int .i64 k', .int .i64 n', .string s', .slice A' l'.length (capF l'.length c')]).old (.cells #[.int .i64 6, .int .i64 0, .string aB, .slice (some ⟨V.heap.size, 0, none⟩) 1 1] 24)
  have L2 := Lies.new (V.alloc (.cells #[.int .i64 k', .int .i64 n', .string s', .slice A' l'.length (capF l'.length c')] 24)) 24 #[.int .i64 6, .int .i64 0, .string aB, .slice (some ⟨V.heap.size, 0, none⟩) 1 1]
  rw [show (V.alloc (.cells #[.int .i64 k', .int .i64 n', .string s', .slice A' l'.length (capF l'.length c')] 24)).heap.size = V.heap.size + 1 from by simp] at L2
  exact ⟨h3, h4, L2, EIn.mk (by decide) (by decide) (by decide) (by simp) (ELIn.one (t1 := .node k' n' s' l') (A1 := A') (c1 := c') L1 rfl trivial h4.tin), h3.tb, h3.bw⟩
/-- The row of what is made. -/
theorem made_row {w V : World} {g g' S G : Nat} {k n : Int} {s : ByteArray} {l : List Te} {A : Option Addr} {c : Nat} {k' n' : Int} {s' : ByteArray} {l' : List Te} {A' : Option Addr} {c' : Nat} (h : Bx6 w V g k n s l A c) (h' : Bx6 w V g' k' n' s' l' A' c') (ha : Bx6 w V G 6 0 aB [.node k' n' s' l'] (some ⟨S, 0, none⟩) 1) :
    Below V.heap.size V (((((V.alloc (.cells #[.int .i64 k, .int .i64 n, .string s, .slice A l.length (capF l.length c), .int .i64 k', .int .i64 n', .string s', .slice A' l'.length (capF l'.length c')] 24)).alloc (.cells #[.int .i64 k, .int .i64 n, .string s, .slice A l.length (capF l.length c), .int .i64 k', .int .i64 n', .string s', .slice A' l'.length (capF l'.length c')] 24)).alloc (.cells #[.int .i64 k, .int .i64 n, .string s, .slice A l.length (capF l.length c), .int .i64 k', .int .i64 n', .string s', .slice A' l'.length (capF l'.length c')] 24)).alloc (.cells #[.int .i64 k, .int .i64 n, .string s, .slice A l.length (capF l.length c), .int .i64 6, .int .i64 0, .string aB, .slice (some ⟨S, 0, none⟩) 1 1] 24)).alloc (.cells #[.int .i64 3, .int .i64 0, .string e0B, .slice (some ⟨V.heap.size, 0, none⟩) 2 2, .int .i64 4, .int .i64 0, .string aB, .slice (some ⟨V.heap.size + 1, 0, none⟩) 2 2, .int .i64 8, .int .i64 0, .string ⟨#[60]⟩, .slice (some ⟨V.heap.size + 1 + 1, 0, none⟩) 2 2, .int .i64 5, .int .i64 0, .string e0B, .slice (some ⟨V.heap.size + 1 + 1 + 1, 0, none⟩) 2 2] 24)) ∧ ELIn (((((V.alloc (.cells #[.int .i64 k, .int .i64 n, .string s, .slice A l.length (capF l.length c), .int .i64 k', .int .i64 n', .string s', .slice A' l'.length (capF l'.length c')] 24)).alloc (.cells #[.int .i64 k, .int .i64 n, .string s, .slice A l.length (capF l.length c), .int .i64 k', .int .i64 n', .string s', .slice A' l'.length (capF l'.length c')] 24)).alloc (.cells #[.int .i64 k, .int .i64 n, .string s, .slice A l.length (capF l.length c), .int .i64 k', .int .i64 n', .string s', .slice A' l'.length (capF l'.length c')] 24)).alloc (.cells #[.int .i64 k, .int .i64 n, .string s, .slice A l.length (capF l.length c), .int .i64 6, .int .i64 0, .string aB, .slice (some ⟨S, 0, none⟩) 1 1] 24)).alloc (.cells #[.int .i64 3, .int .i64 0, .string e0B, .slice (some ⟨V.heap.size, 0, none⟩) 2 2, .int .i64 4, .int .i64 0, .string aB, .slice (some ⟨V.heap.size + 1, 0, none⟩) 2 2, .int .i64 8, .int .i64 0, .string ⟨#[60]⟩, .slice (some ⟨V.heap.size + 1 + 1, 0, none⟩) 2 2, .int .i64 5, .int .i64 0, .string e0B, .slice (some ⟨V.heap.size + 1 + 1 + 1, 0, none⟩) 2 2] 24)) Any (madeE (.node k n s l) (.node k' n' s' l')) (some ⟨V.heap.size + 1 + 1 + 1 + 1, 0, none⟩) 0 := by
  obtain ⟨O1, h1⟩ : ∃ O, O = Obj.cells #[.int .i64 k, .int .i64 n, .string s, .slice A l.length (capF l.length c), .int .i64 k', .int .i64 n', .string s', .slice A' l'.length (capF l'.length c')] 24 := ⟨_, rfl⟩
  obtain ⟨O4, h4⟩ : ∃ O, O = Obj.cells #[.int .i64 k, .int .i64 n, .string s, .slice A l.length (capF l.length c), .int .i64 6, .int .i64 0, .string aB, .slice (some ⟨S, 0, none⟩) 1 1] 24 := ⟨_, rfl⟩
  obtain ⟨O5, h5⟩ : ∃ O, O = Obj.cells #[.int .i64 3, .int .i64 0, .string e0B, .slice (some ⟨V.heap.size, 0, none⟩) 2 2, .int .i64 4, .int .i64 0, .string aB, .slice (some ⟨V.heap.size + 1, 0, none⟩) 2 2, .int .i64 8, .int .i64 0, .string ⟨#[60]⟩, .slice (some ⟨V.heap.size + 1 + 1, 0, none⟩) 2 2, .int .i64 5, .int .i64 0, .string e0B, .slice (some ⟨V.heap.size + 1 + 1 + 1, 0, none⟩) 2 2] 24 := ⟨_, rfl⟩
  rw [← h1, ← h4, ← h5]
  have hb : Below V.heap.size V (((((V.alloc O1).alloc O1).alloc O1).alloc O4).alloc O5) := ((((((Below.refl _ V).alloc (Nat.le_refl _) _).alloc (by simp) _).alloc (by simp; omega) _).alloc (by simp; omega) _).alloc (by simp; omega) _)
  have z1 : (V.alloc O1).heap.size = V.heap.size + 1 := by simp
  have z2 : ((V.alloc O1).alloc O1).heap.size = V.heap.size + 1 + 1 := by simp
  have z3 : (((V.alloc O1).alloc O1).alloc O1).heap.size = V.heap.size + 1 + 1 + 1 := by simp
  have z4 : ((((V.alloc O1).alloc O1).alloc O1).alloc O4).heap.size = V.heap.size + 1 + 1 + 1 + 1 := by simp
  have L1 : Lies (V.alloc O1) V.heap.size 24 #[.int .i64 k, .int .i64 n, .string s, .slice A l.length (capF l.length c), .int .i64 k', .int .i64 n', .string s', .slice A' l'.length (capF l'.length c')] := by rw [h1]; exact Lies.new V _ _
  have L2 : Lies ((V.alloc O1).alloc O1) (V.heap.size + 1) 24 #[.int .i64 k, .int .i64 n, .string s, .slice A l.length (capF l.length c), .int .i64 k', .int .i64 n', .string s', .slice A' l'.length (capF l'.length c')] := by rw [← z1, h1]; exact Lies.new _ _ _
  have L3 : Lies (((V.alloc O1).alloc O1).alloc O1) (V.heap.size + 1 + 1) 24 #[.int .i64 k, .int .i64 n, .string s, .slice A l.length (capF l.length c), .int .i64 k', .int .i64 n', .string s', .slice A' l'.length (capF l'.length c')] := by rw [← z2, h1]; exact Lies.new _ _ _
  have L4 : Lies ((((V.alloc O1).alloc O1).alloc O1).alloc O4) (V.heap.size + 1 + 1 + 1) 24 #[.int .i64 k, .int .i64 n, .string s, .slice A l.length (capF l.length c), .int .i64 6, .int .i64 0, .string aB, .slice (some ⟨S, 0, none⟩) 1 1] := by rw [← z3, h4]; exact Lies.new _ _ _
  have L5 : Lies (((((V.alloc O1).alloc O1).alloc O1).alloc O4).alloc O5) (V.heap.size + 1 + 1 + 1 + 1) 24 #[.int .i64 3, .int .i64 0, .string e0B, .slice (some ⟨V.heap.size, 0, none⟩) 2 2, .int .i64 4, .int .i64 0, .string aB, .slice (some ⟨V.heap.size + 1, 0, none⟩) 2 2, .int .i64 8, .int .i64 0, .string ⟨#[60]⟩, .slice (some ⟨V.heap.size + 1 + 1, 0, none⟩) 2 2, .int .i64 5, .int .i64 0, .string e0B, .slice (some ⟨V.heap.size + 1 + 1 + 1, 0, none⟩) 2 2] := by rw [← z4, h5]; exact Lies.new _ _ _
  have M1 := (((L1.old O1).old O1).old O4).old O5
  have M2 := ((L2.old O1).old O4).old O5
  have M3 := (L3.old O4).old O5
  have M4 := L4.old O5
  obtain ⟨W, hW⟩ : ∃ W, W = ((((V.alloc O1).alloc O1).alloc O1).alloc O4).alloc O5 := ⟨_, rfl⟩
  rw [← hW] at hb M1 M2 M3 M4 L5 ⊢
  have ta := (h.step hb).tin
  have tb := (h'.step hb).tin
  have tc := (ha.step hb).tin
  have p : ∀ (kk : Int) (nm : ByteArray) (G0 : Nat), nm.size ≤ 140737488351232 → Lies W G0 24 #[.int .i64 k, .int .i64 n, .string s, .slice A l.length (capF l.length c), .int .i64 k', .int .i64 n', .string s', .slice A' l'.length (capF l'.length c')] → EIn W Any (.node kk 0 nm [.node k n s l, .node k' n' s' l']) (some ⟨G0, 0, none⟩) := fun kk nm G0 hs L =>
    EIn.mk hs (by decide) (by decide) (by simp) (ELIn.two (t1 := .node k n s l) (t2 := .node k' n' s' l') (A1 := A) (c1 := c) (A2 := A') (c2 := c') L rfl trivial ta tb)
  have p4 : EIn W Any (.node 5 0 e0B [.node k n s l, .node 6 0 aB [.node k' n' s' l']]) (some ⟨V.heap.size + 1 + 1 + 1, 0, none⟩) :=
    EIn.mk e0B_size (by decide) (by decide) (by simp) (ELIn.two (t1 := .node k n s l) (t2 := .node 6 0 aB [.node k' n' s' l']) (A1 := A) (c1 := c) (A2 := some ⟨S, 0, none⟩) (c2 := 1) M4 rfl trivial ta tc)
  refine ⟨hb, ELIn.of_lies (((((RowTe.nil W Any).snoc (c := 2) (p 3 e0B _ (by decide) M1)).snoc (c := 2) (p 4 aB _ (by decide) M2)).snoc (c := 2) (p 8 ⟨#[60]⟩ _ (by decide) M3)).snoc (c := 2) p4) L5 (by rfl) trivial⟩
set_option maxHeartbeats 32000000 in
theorem built6_any (t t' : Te) (A A' : Option Addr) (c c' : Nat) (free num : Int) (w : World) (hI : EIn w Any t A) (hI' : EIn w Any t' A') (hg : Tabs6 w) (hm0 : -9223372036854775808 ≤ num) (hm1 : num ≤ 9223372036854775807) :
    Calls Tryd.prog 6 #[ev t A c, ev t' A' c', .agg #[.int .i64 free, .int .i64 num]] w fun e w' => e = .returned (.bool true) ∧ Below w.heap.size w w' := by
  obtain ⟨k, n, s, l⟩ := t
  obtain ⟨k', n', s', l'⟩ := t'
  show Calls Tryd.prog 6 #[.agg #[.int .i64 k, .int .i64 n, .string s, .slice A l.length (capF l.length c)], .agg #[.int .i64 k', .int .i64 n', .string s', .slice A' l'.length (capF l'.length c')], .agg #[.int .i64 free, .int .i64 num]] w _
  have hXa := ((Bx6.new (c := c) hI hg (Below.refl _ w)).old (.cells #[.int .i64 k', .int .i64 n', .string s', .slice A' l'.length (capF l'.length c')] 24)).old (.cells #[.int .i64 free, .int .i64 num] 32)
  have hXb := (Bx6.new (c := c') hI' hg ((Below.refl _ w).alloc (Nat.le_refl _) (.cells #[.int .i64 k, .int .i64 n, .string s, .slice A l.length (capF l.length c)] 24))).old (.cells #[.int .i64 free, .int .i64 num] 32)
  have hP := Lies.new ((w.alloc (.cells #[.int .i64 k, .int .i64 n, .string s, .slice A l.length (capF l.length c)] 24)).alloc (.cells #[.int .i64 k', .int .i64 n', .string s', .slice A' l'.length (capF l'.length c')] 24)) 32 #[.int .i64 free, .int .i64 num]
  rw [show (w.alloc (.cells #[.int .i64 k, .int .i64 n, .string s, .slice A l.length (capF l.length c)] 24)).heap.size = w.heap.size + 1 from by simp] at hXb
  rw [show ((w.alloc (.cells #[.int .i64 k, .int .i64 n, .string s, .slice A l.length (capF l.length c)] 24)).alloc (.cells #[.int .i64 k', .int .i64 n', .string s', .slice A' l'.length (capF l'.length c')] 24)).heap.size = w.heap.size + 1 + 1 from by simp] at hP
  have HXa := Lib.hid hXa
  have HXb := Lib.hid hXb
  have HP := Lib.hid hP
  have HN0 := Lib.hid hm0
  have HN1 := Lib.hid hm1
  clear hXa hXb hP hI hI' hg hm0 hm1
  go_enter Tryd.func6, Tryd.ntmps6
  go_wp2_with fail
  refine (fix6_any _ HXa.out.tb).mono ?_
  rintro e w1 ⟨rfl, hb1⟩
  have HXa := Lib.hid (HXa.out.step hb1)
  have HXb := Lib.hid (HXb.out.step hb1)
  have HP := Lib.hid (HP.out.below hb1 HP.out.lt)
  clear hb1
  have p0 := HP.out.cell 0
  have p1 := HP.out.cell 1
  simp at p0 p1
  go_wp2_with fail
  go_quiet (fail)
  have hdq : Below w1.heap.size w1 (w1.drewN nq) := ⟨rfl, rfl, rfl, Nat.le_refl _, fun _ _ => rfl⟩
  have HXa := Lib.hid (HXa.out.step hdq)
  have HXb := Lib.hid (HXb.out.step hdq)
  clear p0 p1 HP hdq
  go_wp2_with fail
  refine (fix6_any _ HXa.out.tb).mono ?_
  rintro e w2 ⟨rfl, hb2⟩
  have HXa := Lib.hid (HXa.out.step hb2)
  have HXb := Lib.hid (HXb.out.step hb2)
  clear hb2
  obtain ⟨a0, a1, a2, a3⟩ := HXa.out.four
  obtain ⟨b0, b1, b2, b3⟩ := HXb.out.four
  have HC1 := Lib.hid (HXa.out.small 300 (by omega) (by omega))
  cases hcd : decide (0 ≤ fewE (.node k n s l) 300 600)
  · rw [hcd] at HC1
    clear hcd
    go_wp2_with fail
    refine HC1.out.mono ?_
    rintro e v1 ⟨rfl, hb1⟩
    have HXa := Lib.hid (HXa.out.step hb1)
    have HXb := Lib.hid (HXb.out.step hb1)
    clear hb1 HC1
    clear a0 a1 a2 a3
    clear b0 b1 b2 b3
    go_wp2_with fail
    refine (fix6_any _ HXa.out.tb).mono ?_
    rintro e wf ⟨rfl, hbf⟩
    go_wp2_with fail
    go_ret
    exact ⟨rfl, HXa.out.bw.trans (hbf.mono HXa.out.bw.size)⟩
  · rw [hcd] at HC1
    have HZa := Lib.hid (small6_size hcd (by omega))
    clear hcd
    go_wp2_with fail
    refine HC1.out.mono ?_
    rintro e v1 ⟨rfl, hb1⟩
    have HXa := Lib.hid (HXa.out.step hb1)
    have HXb := Lib.hid (HXb.out.step hb1)
    clear hb1 HC1
    clear a0 a1 a2 a3
    clear b0 b1 b2 b3
    obtain ⟨a0, a1, a2, a3⟩ := HXa.out.four
    obtain ⟨b0, b1, b2, b3⟩ := HXb.out.four
    have HC2 := Lib.hid (HXb.out.small 300 (by omega) (by omega))
    cases hcd : decide (0 ≤ fewE (.node k' n' s' l') 300 600)
    · rw [hcd] at HC2
      clear hcd
      go_wp2_with fail
      refine HC2.out.mono ?_
      rintro e v2 ⟨rfl, hb2⟩
      have HXa := Lib.hid (HXa.out.step hb2)
      have HXb := Lib.hid (HXb.out.step hb2)
      clear hb2 HC2
      clear a0 a1 a2 a3
      clear b0 b1 b2 b3
      go_wp2_with fail
      refine (fix6_any _ HXa.out.tb).mono ?_
      rintro e wf ⟨rfl, hbf⟩
      go_wp2_with fail
      go_ret
      exact ⟨rfl, HXa.out.bw.trans (hbf.mono HXa.out.bw.size)⟩
    · rw [hcd] at HC2
      have HZb := Lib.hid (small6_size hcd (by omega))
      clear hcd
      go_wp2_with fail
      refine HC2.out.mono ?_
      rintro e v2 ⟨rfl, hb2⟩
      have HXa := Lib.hid (HXa.out.step hb2)
      have HXb := Lib.hid (HXb.out.step hb2)
      clear hb2 HC2
      clear a0 a1 a2 a3
      clear b0 b1 b2 b3
      by_cases hab : free < 0 ∨ 1000 < free
      · rcases (by omega : free < 0 ∨ (¬ free < 0 ∧ 1000 < free)) with q | ⟨q, q2⟩
        all_goals
          clear hab
          go_wp2_with fail
          refine (fix6_any _ HXa.out.tb).mono ?_
          rintro e wf ⟨rfl, hbf⟩
          go_wp2_with fail
          go_ret
          exact ⟨rfl, HXa.out.bw.trans (hbf.mono HXa.out.bw.size)⟩
      · have q1 : ¬ free < 0 := by omega
        have q2 : ¬ 1000 < free := by omega
        clear hab
        go_upto_region 6 with fail
        have hd0 : Below v2.heap.size v2 v2.drew := (Below.refl _ v2).drew
        have HS := Lib.hid (fun (V' : World) (h : Below v2.heap.size v2 V') => (by have x := (HXa.out.step h).four; have y := (HXb.out.step h).four; exact ⟨x.1, x.2.1, x.2.2.1, x.2.2.2, y.1, y.2.1, y.2.2.1, y.2.2.2⟩ : (fun V' => (V'.cell? ⟨w.heap.size, 0, none⟩ = some (.int .i64 k) ∧ V'.cell? ⟨w.heap.size, 1, none⟩ = some (.int .i64 n) ∧ V'.cell? ⟨w.heap.size, 2, none⟩ = some (.string s) ∧ V'.cell? ⟨w.heap.size, 3, none⟩ = some (.slice A l.length (capF l.length c)) ∧ V'.cell? ⟨w.heap.size + 1, 0, none⟩ = some (.int .i64 k') ∧ V'.cell? ⟨w.heap.size + 1, 1, none⟩ = some (.int .i64 n') ∧ V'.cell? ⟨w.heap.size + 1, 2, none⟩ = some (.string s') ∧ V'.cell? ⟨w.heap.size + 1, 3, none⟩ = some (.slice A' l'.length (capF l'.length c')))) V'))
        have hS0 := HS.out _ hd0
        have HPa := Lib.hid ((fun (V' : World) (h : Below v2.heap.size v2 V') => Calls.fromB h h.size ((HXa.out.step h).may (by have := HZa.out; omega) free)))
        have HQb := Lib.hid ((fun (V' : World) (h : Below v2.heap.size v2 V') => Calls.fromB h h.size ((HXb.out.step h).may (by have := HZb.out; omega) free)))
        obtain ⟨p, hp⟩ : ∃ p, p = mayV6 (.node k n s l) free := ⟨_, rfl⟩
        obtain ⟨q, hq⟩ : ∃ q, q = mayV6 (.node k' n' s' l') free := ⟨_, rfl⟩
        rw [← hp] at HPa
        rw [← hq] at HQb
        have HPQ : Hid (∀ x ∈ madeE (.node k n s l) (.node k' n' s' l'), mayV6 x free = (p && q)) := Lib.hid (fun x hx => by rw [made_may _ _ free (by omega) x hx, ← hp, ← hq])
        clear hp hq
        refine wp_region_held_drew (S := (fun V' => (V'.cell? ⟨w.heap.size, 0, none⟩ = some (.int .i64 k) ∧ V'.cell? ⟨w.heap.size, 1, none⟩ = some (.int .i64 n) ∧ V'.cell? ⟨w.heap.size, 2, none⟩ = some (.string s) ∧ V'.cell? ⟨w.heap.size, 3, none⟩ = some (.slice A l.length (capF l.length c)) ∧ V'.cell? ⟨w.heap.size + 1, 0, none⟩ = some (.int .i64 k') ∧ V'.cell? ⟨w.heap.size + 1, 1, none⟩ = some (.int .i64 n') ∧ V'.cell? ⟨w.heap.size + 1, 2, none⟩ = some (.string s') ∧ V'.cell? ⟨w.heap.size + 1, 3, none⟩ = some (.slice A' l'.length (capF l'.length c'))))) rfl hS0 (fun hSs => ?_)
        change wpAnyH _ _ _ _ _ 8 (Array.replicate 8 false) _ _
        refine wpAnyH_take (i := 0) (oi := ⟨some 41, _, _, _, _, _⟩) (v := .agg #[.int .i64 k, .int .i64 n, .string s, .slice A l.length (capF l.length c)]) rfl (by kernel_rfl) (by kernel_rfl) (by kernel_rfl) (fun _ _ _ h => h) (.inl ⟨by kernel_rfl, fun W hW => by first | (obtain ⟨a0, a1, a2, a3, b0, b1, b2, b3⟩ := hW; go_simp; done) | (obtain ⟨a0, a1, a2, a3, b0, b1, b2, b3⟩ := hW; go_simp; omega) | (obtain ⟨a0, a1, a2, a3, b0, b1, b2, b3⟩ := hW; go_simp; simp [*]; done)⟩) hSs ?_
        try simp only [Act.put, List.setIfInBounds_toArray, List.set_cons_zero, List.set_cons_succ]
        refine wpAnyH_take (i := 1) (oi := ⟨some 42, _, _, _, _, _⟩) (v := .int .i64 free) rfl (by kernel_rfl) (by kernel_rfl) (by kernel_rfl) (fun _ _ _ h => h) (.inl ⟨by kernel_rfl, fun W hW => by kernel_rfl⟩) hSs ?_
        try simp only [Act.put, List.setIfInBounds_toArray, List.set_cons_zero, List.set_cons_succ]
        refine wpAnyH_take (i := 3) (oi := ⟨some 44, _, _, _, _, _⟩) (v := .agg #[.int .i64 k', .int .i64 n', .string s', .slice A' l'.length (capF l'.length c')]) rfl (by kernel_rfl) (by kernel_rfl) (by kernel_rfl) (fun _ _ _ h => h) (.inl ⟨by kernel_rfl, fun W hW => by first | (obtain ⟨a0, a1, a2, a3, b0, b1, b2, b3⟩ := hW; go_simp; done) | (obtain ⟨a0, a1, a2, a3, b0, b1, b2, b3⟩ := hW; go_simp; omega) | (obtain ⟨a0, a1, a2, a3, b0, b1, b2, b3⟩ := hW; go_simp; simp [*]; done)⟩) hSs ?_
        try simp only [Act.put, List.setIfInBounds_toArray, List.set_cons_zero, List.set_cons_succ]
        refine wpAnyH_take (i := 4) (oi := ⟨some 45, _, _, _, _, _⟩) (v := .int .i64 free) rfl (by kernel_rfl) (by kernel_rfl) (by kernel_rfl) (fun _ _ _ h => h) (.inl ⟨by kernel_rfl, fun W hW => by kernel_rfl⟩) hSs ?_
        try simp only [Act.put, List.setIfInBounds_toArray, List.set_cons_zero, List.set_cons_succ]
        refine wpAnyH_ready (rs := [2]) (by kernel_rfl) (by simp) (AllReadyH.cons rfl (fun K hK => ?_) AllReadyH.nil)
        go_simp
        refine (HPa.out _ hd0).mono ?_
        rintro e u1 ⟨rfl, hd1⟩
        refine hK.out _ _ (HS.out _ hd1) (fun hS1 => ?_)
        clear hK K
        try simp only [Act.put, List.setIfInBounds_toArray, List.set_cons_zero, List.set_cons_succ]
        refine wpAnyH_ready (rs := [5]) (by kernel_rfl) (by simp) (AllReadyH.cons rfl (fun K hK => ?_) AllReadyH.nil)
        go_simp
        refine (HQb.out _ hd1).mono ?_
        rintro e u2 ⟨rfl, hd2⟩
        refine hK.out _ _ (HS.out _ hd2) (fun hS2 => ?_)
        clear hK K
        try simp only [Act.put, List.setIfInBounds_toArray, List.set_cons_zero, List.set_cons_succ]
        refine wpAnyH_take (i := 6) (oi := ⟨some 9, _, _, _, _, _⟩) (v := .bool p) rfl (by kernel_rfl) (by kernel_rfl) (by kernel_rfl) (fun _ _ _ h => h) (.inl ⟨by kernel_rfl, fun W hW => by kernel_rfl⟩) hS2 ?_
        try simp only [Act.put, List.setIfInBounds_toArray, List.set_cons_zero, List.set_cons_succ]
        refine wpAnyH_take (i := 7) (oi := ⟨some 10, _, _, _, _, _⟩) (v := .bool q) rfl (by kernel_rfl) (by kernel_rfl) (by kernel_rfl) (fun _ _ _ h => h) (.inl ⟨by kernel_rfl, fun W hW => by kernel_rfl⟩) hS2 ?_
        try simp only [Act.put, List.setIfInBounds_toArray, List.set_cons_zero, List.set_cons_succ]
        refine wpAnyH_done (by kernel_rfl) ?_ _
        have HXa := Lib.hid (HXa.out.step hd2)
        have HXb := Lib.hid (HXb.out.step hd2)
        clear HS hS0 HPa HQb hSs hS1 hS2 hd0 hd1 hd2
        obtain ⟨V, hV⟩ : ∃ V, V = u2 := ⟨_, rfl⟩
        rw [← hV] at HXa HXb ⊢
        clear hV
        obtain ⟨b0, b1, b2, b3⟩ := HXb.out.four
        have hF := alt_box HXa.out HXb.out
        obtain ⟨W7, hW7⟩ : ∃ W, W = (V.alloc (.cells #[.int .i64 k', .int .i64 n', .string s', .slice A' l'.length (capF l'.length c')] 24)).alloc (.cells #[.int .i64 6, .int .i64 0, .string aB, .slice (some ⟨V.heap.size, 0, none⟩) 1 1] 24) := ⟨_, rfl⟩
        have HW7 := Lib.hid hW7
        rw [← hW7] at hF
        have HXa7 := Lib.hid hF.1
        have HXb7 := Lib.hid hF.2.1
        have HXt7 := Lib.hid hF.2.2
        have HMV := Lib.hid (by have := eMay_any (.node 1 num e0B []) none 0 free W7 (EIn.leaf e0B_size HN0.out HN1.out) hF.1.tb.sg (by simp [depthE, depthEL]); rw [var_may _ _ (by omega)] at this; exact this : Calls Tryd.prog 10 #[.agg #[.int .i64 1, .int .i64 num, .string e0B, .slice none 0 0], .int .i64 free] W7 fun e w' => e = .returned (.bool (decide (0 ≤ num) && decide (num < free))) ∧ Below W7.heap.size W7 w')
        obtain ⟨S, hS⟩ : ∃ S, S = V.heap.size := ⟨_, rfl⟩
        obtain ⟨G, hG⟩ : ∃ G, G = V.heap.size + 1 := ⟨_, rfl⟩
        have HSS := Lib.hid hS
        have HGG := Lib.hid hG
        rw [← hG, ← hS] at HXt7
        clear hF hW7 hS hG
        rcases (by omega : num < 0 ∨ (0 ≤ num ∧ num < free) ∨ (0 ≤ num ∧ ¬ num < free)) with hn | ⟨hn, hf⟩ | ⟨hn, hf⟩
        · have hn2 : ¬ 0 ≤ num := by omega
          rw [show decide (0 ≤ num) = false from decide_eq_false hn2, Bool.false_and] at HMV
          clear hn
          go_wp2_with fail
          change Calls _ _ _ ((V.alloc (.cells #[.int .i64 k', .int .i64 n', .string s', .slice A' l'.length (capF l'.length c')] 24)).alloc (.cells #[.int .i64 6, .int .i64 0, .string aB, .slice (some ⟨V.heap.size, 0, none⟩) 1 1] 24)) _
          rw [← HW7.out]
          refine HMV.out.mono ?_
          rintro e w8 ⟨rfl, hb8⟩
          have HXa := Lib.hid (HXa7.out.step hb8)
          have HXb := Lib.hid (HXb7.out.step hb8)
          have HXt := Lib.hid (HXt7.out.step hb8)
          clear hb8 HMV HW7 HXa7 HXb7 HXt7 b0 b1 b2 b3
          rw [← HGG.out]
          rw [← HSS.out]
          obtain ⟨t0, t1, t2, t3⟩ := HXt.out.four
          have HMT := (by have := HXt.out.may (by have := HZb.out; simp only [depthE, depthEL] at this ⊢; omega) free; rw [altV_may] at this; exact Lib.hid this)
          go_wp2_with fail
          refine HMT.out.mono ?_
          rintro e V8 ⟨rfl, hb8⟩
          have HXa := Lib.hid (HXa.out.step hb8)
          have HXb := Lib.hid (HXb.out.step hb8)
          have HXt := Lib.hid (HXt.out.step hb8)
          clear hb8 HMT t0 t1 t2 t3
          obtain ⟨hrb, hrow⟩ := made_row HXa.out HXb.out HXt.out
          obtain ⟨W9, hW9⟩ : ∃ W, W = (((((V8.alloc (.cells #[.int .i64 k, .int .i64 n, .string s, .slice A l.length (capF l.length c), .int .i64 k', .int .i64 n', .string s', .slice A' l'.length (capF l'.length c')] 24)).alloc (.cells #[.int .i64 k, .int .i64 n, .string s, .slice A l.length (capF l.length c), .int .i64 k', .int .i64 n', .string s', .slice A' l'.length (capF l'.length c')] 24)).alloc (.cells #[.int .i64 k, .int .i64 n, .string s, .slice A l.length (capF l.length c), .int .i64 k', .int .i64 n', .string s', .slice A' l'.length (capF l'.length c')] 24)).alloc (.cells #[.int .i64 k, .int .i64 n, .string s, .slice A l.length (capF l.length c), .int .i64 6, .int .i64 0, .string aB, .slice (some ⟨S, 0, none⟩) 1 1] 24)).alloc (.cells #[.int .i64 3, .int .i64 0, .string e0B, .slice (some ⟨V8.heap.size, 0, none⟩) 2 2, .int .i64 4, .int .i64 0, .string aB, .slice (some ⟨V8.heap.size + 1, 0, none⟩) 2 2, .int .i64 8, .int .i64 0, .string ⟨#[60]⟩, .slice (some ⟨V8.heap.size + 1 + 1, 0, none⟩) 2 2, .int .i64 5, .int .i64 0, .string e0B, .slice (some ⟨V8.heap.size + 1 + 1 + 1, 0, none⟩) 2 2] 24)) := ⟨_, rfl⟩
          have HW9 := Lib.hid hW9
          rw [← hW9] at hrb hrow
          have HRB := Lib.hid hrb
          have HRW := Lib.hid hrow
          obtain ⟨a0, a1, a2, a3⟩ := HXa.out.four
          obtain ⟨b0, b1, b2, b3⟩ := HXb.out.four
          obtain ⟨t0, t1, t2, t3⟩ := HXt.out.four
          have hla := HXa.out.box.lt
          have hlb := HXb.out.box.lt
          have hlt := HXt.out.box.lt
          have k3 : ∀ (O O' O'' : Obj) b i, b < V8.heap.size → (((V8.alloc O).alloc O').alloc O'').cell? ⟨b, i, none⟩ = V8.cell? ⟨b, i, none⟩ := fun O O' O'' b i h => ((((Below.refl _ V8).alloc (Nat.le_refl _) O).alloc (by simp) O').alloc (by simp; omega) O'').cell (p := ⟨b, i, none⟩) h
          have k2 : ∀ (O O' : Obj) b i, b < V8.heap.size → ((V8.alloc O).alloc O').cell? ⟨b, i, none⟩ = V8.cell? ⟨b, i, none⟩ := fun O O' b i h => (((Below.refl _ V8).alloc (Nat.le_refl _) O).alloc (by simp) O').cell (p := ⟨b, i, none⟩) h
          have k1 : ∀ (O : Obj) b i, b < V8.heap.size → (V8.alloc O).cell? ⟨b, i, none⟩ = V8.cell? ⟨b, i, none⟩ := fun O b i h => ((Below.refl _ V8).alloc (Nat.le_refl _) O).cell (p := ⟨b, i, none⟩) h
          clear hrb hrow hW9
          go_wp2_with fail
          clear k1 k2 k3 a0 a1 a2 a3 b0 b1 b2 b3 t0 t1 t2 t3 hla hlb hlt
          go_loopw [13] (fun x wr => ∃ i : Nat, i ≤ 4 ∧ x = .int .i64 i ∧ ELIn wr Any (madeE (.node k n s l) (.node k' n' s' l')) (some ⟨V8.heap.size + 1 + 1 + 1 + 1, 0, none⟩) 0 ∧ Bx6 w wr w.heap.size k n s l A c) (fun x _ => 4 - (intOf x).toNat)
          case atStart =>
            have h1 := HRW.out
            have h2 := HXa.out.step HRB.out
            rw [HW9.out] at h1 h2
            exact ⟨0, by omega, rfl, h1, h2⟩
          case round =>
            obtain ⟨i, hi, rfl, HEr, hXar⟩ := hrel
            by_cases hlt : i < 4
            · have hia : i < (madeE (.node k n s l) (.node k' n' s' l')).length := hlt
              obtain ⟨g, o, B, d, ⟨hA, _⟩, d0, d1, d2, d3, hIn⟩ := ELIn.at_ _ HEr i hia
              rw [Nat.zero_add] at d0 d1 d2 d3
              have hmem := List.getElem_mem hia
              have hpq := HPQ.out _ hmem
              have hdp := made_deep _ _ _ hmem
              injection hA with hA
              injection hA with hA1 hA2
              subst hA1 hA2
              obtain ⟨tr, hu⟩ : ∃ tr, tr = (madeE (.node k n s l) (.node k' n' s' l'))[i]'hia := ⟨_, rfl⟩
              rw [← hu] at d0 d1 d2 d3 hIn hpq hdp
              clear hu hmem
              have HM := eMay_any tr B d free wr hIn hXar.tb.sg (by have h1 := HZa.out; have h2 := HZb.out; omega)
              obtain ⟨r, hr⟩ : ∃ r, r = mayV6 tr free := ⟨_, rfl⟩
              rw [← hr] at HM hpq
              clear hr
              obtain ⟨tk, tn, ts, tl⟩ := tr
              simp only [Te.kind, Te.n, Te.name, Te.parts] at d0 d1 d2 d3
              simp only [ev, Te.kind, Te.n, Te.name, Te.parts] at HM
              have HM := Lib.hid HM
              have HE := Lib.hid HEr
              have HXa := Lib.hid hXar
              rw [Nat.zero_add] at d0 d1 d2 d3
              clear HEr hXar hIn hdp
              cases p <;> cases q
              all_goals
                simp only [Bool.and_self, Bool.and_true, Bool.and_false] at hpq
                subst hpq
                go_wp2_with fail
                refine HM.out.mono ?_
                rintro e V9 ⟨rfl, hb9⟩
                have HXa := Lib.hid (HXa.out.step hb9)
                have HE := Lib.hid (ELIn.below _ HE.out hb9 (Nat.le_refl _))
                clear hb9 HM
                go_wp2_with fail
                go_roundw
                case rel => exact ⟨i + 1, by omega, by go_num, HE.out, HXa.out⟩
                case measure => simp [intOf]; omega
            · obtain rfl : i = 4 := by omega
              have hlt := hXar.box.lt
              have HXa := Lib.hid hXar
              clear HEr hXar
              go_upto_region 16 with fail
              have hd0 : Below wr.heap.size wr wr.drew := (Below.refl _ wr).drew
              have HS := Lib.hid (fun (V' : World) (h : Below wr.heap.size wr V') => ((HXa.out.step h).four : (fun V' => (V'.cell? ⟨w.heap.size, 0, none⟩ = some (.int .i64 k) ∧ V'.cell? ⟨w.heap.size, 1, none⟩ = some (.int .i64 n) ∧ V'.cell? ⟨w.heap.size, 2, none⟩ = some (.string s) ∧ V'.cell? ⟨w.heap.size, 3, none⟩ = some (.slice A l.length (capF l.length c)))) V'))
              have hS0 := HS.out _ hd0
              have hw1 : IntKind.i64.wrap (free + 1) = free + 1 := IntWalk.i64_in _ (by omega)
              have hml : mayV6 (.node 2 0 e0B [(.node k n s l)]) free = mayV6 (.node k n s l) (free + 1) := lam_may _ _ (by omega)
              have HMA := Lib.hid ((fun (V' : World) (h : Below wr.heap.size wr V') => Calls.fromB h h.size ((HXa.out.step h).may (by have := HZa.out; omega) (free + 1))))
              have HML : Hid (∀ hd : Below wr.heap.size wr (wr.drew.alloc (.cells #[.int .i64 k, .int .i64 n, .string s, .slice A l.length (capF l.length c)] 24)), Calls Tryd.prog 10 #[.agg #[.int .i64 2, .int .i64 0, .string e0B, .slice (some ⟨wr.heap.size, 0, none⟩) 1 1], .int .i64 free] (wr.drew.alloc (.cells #[.int .i64 k, .int .i64 n, .string s, .slice A l.length (capF l.length c)] 24)) fun e w' => e = .returned (.bool (mayV6 (.node k n s l) (free + 1))) ∧ Below wr.heap.size wr w') := Lib.hid (fun hd => by
                have L1 : Lies (wr.drew.alloc (.cells #[.int .i64 k, .int .i64 n, .string s, .slice A l.length (capF l.length c)] 24)) wr.heap.size 24 #[.int .i64 k, .int .i64 n, .string s, .slice A l.length (capF l.length c)] := Lies.new wr.drew _ _
                have hx := HXa.out.step hd
                have h1 := eMay_any (.node 2 0 e0B [(.node k n s l)]) (some ⟨wr.heap.size, 0, none⟩) 1 free _ (EIn.mk e0B_size (by decide) (by decide) (by simp) (ELIn.one (t1 := (.node k n s l)) (A1 := A) (c1 := c) L1 rfl trivial hx.tin)) hx.tb.sg (by have := HZa.out; simp only [depthE, depthEL] at this ⊢; omega)
                rw [hml] at h1
                exact Calls.fromB hd hd.size h1)
              obtain ⟨MB, hMB⟩ : ∃ MB, MB = mayV6 (.node k n s l) (free + 1) := ⟨_, rfl⟩
              rw [← hMB] at HMA HML
              clear hml hMB
              refine wp_region_held_drew (S := (fun V' => (V'.cell? ⟨w.heap.size, 0, none⟩ = some (.int .i64 k) ∧ V'.cell? ⟨w.heap.size, 1, none⟩ = some (.int .i64 n) ∧ V'.cell? ⟨w.heap.size, 2, none⟩ = some (.string s) ∧ V'.cell? ⟨w.heap.size, 3, none⟩ = some (.slice A l.length (capF l.length c))))) rfl hS0 (fun hSs => ?_)
              change wpAnyH _ _ _ _ _ 11 (Array.replicate 11 false) _ _
              refine wpAnyH_take (i := 0) (oi := ⟨some 101, _, _, _, _, _⟩) (v := .agg #[.int .i64 k, .int .i64 n, .string s, .slice A l.length (capF l.length c)]) rfl (by kernel_rfl) (by kernel_rfl) (by kernel_rfl) (fun _ _ _ h => h) (.inl ⟨by kernel_rfl, fun W hW => by first | (obtain ⟨a0, a1, a2, a3⟩ := hW; go_simp; done) | (obtain ⟨a0, a1, a2, a3⟩ := hW; go_simp; omega) | (obtain ⟨a0, a1, a2, a3⟩ := hW; go_simp; simp [*]; done)⟩) hSs ?_
              try simp only [Act.put, List.setIfInBounds_toArray, List.set_cons_zero, List.set_cons_succ]
              refine wpAnyH_take (i := 3) (oi := ⟨some 104, _, _, _, _, _⟩) (v := .int .i64 free) rfl (by kernel_rfl) (by kernel_rfl) (by kernel_rfl) (fun _ _ _ h => h) (.inl ⟨by kernel_rfl, fun W hW => by kernel_rfl⟩) hSs ?_
              try simp only [Act.put, List.setIfInBounds_toArray, List.set_cons_zero, List.set_cons_succ]
              refine wpAnyH_take (i := 5) (oi := ⟨some 106, _, _, _, _, _⟩) (v := .agg #[.int .i64 k, .int .i64 n, .string s, .slice A l.length (capF l.length c)]) rfl (by kernel_rfl) (by kernel_rfl) (by kernel_rfl) (fun _ _ _ h => h) (.inl ⟨by kernel_rfl, fun W hW => by first | (obtain ⟨a0, a1, a2, a3⟩ := hW; go_simp; done) | (obtain ⟨a0, a1, a2, a3⟩ := hW; go_simp; omega) | (obtain ⟨a0, a1, a2, a3⟩ := hW; go_simp; simp [*]; done)⟩) hSs ?_
              try simp only [Act.put, List.setIfInBounds_toArray, List.set_cons_zero, List.set_cons_succ]
              refine wpAnyH_take (i := 6) (oi := ⟨some 107, _, _, _, _, _⟩) (v := .int .i64 free) rfl (by kernel_rfl) (by kernel_rfl) (by kernel_rfl) (fun _ _ _ h => h) (.inl ⟨by kernel_rfl, fun W hW => by kernel_rfl⟩) hSs ?_
              try simp only [Act.put, List.setIfInBounds_toArray, List.set_cons_zero, List.set_cons_succ]
              refine wpAnyH_take (i := 7) (oi := ⟨some 108, _, _, _, _, _⟩) (v := .int .i64 (free + 1)) rfl (by kernel_rfl) (by kernel_rfl) (by kernel_rfl) (fun _ _ _ h => h) (.inl ⟨by kernel_rfl, fun W hW => by first | (obtain ⟨a0, a1, a2, a3⟩ := hW; go_simp; done) | (obtain ⟨a0, a1, a2, a3⟩ := hW; go_simp; omega) | (obtain ⟨a0, a1, a2, a3⟩ := hW; go_simp; simp [*]; done)⟩) hSs ?_
              try simp only [Act.put, List.setIfInBounds_toArray, List.set_cons_zero, List.set_cons_succ]
              refine wpAnyH_ready (rs := [1]) (by kernel_rfl) (by simp) (AllReadyH.cons rfl (fun K hK => ?_) AllReadyH.nil)
              go_simp
              have hd1 := Below.alloc hd0 hd0.size (.cells #[.int .i64 k, .int .i64 n, .string s, .slice A l.length (capF l.length c)] 24)
              refine hK.out _ _ (HS.out _ hd1) (fun hS1 => ?_)
              clear hK K
              try simp only [Act.put, List.setIfInBounds_toArray, List.set_cons_zero, List.set_cons_succ]
              refine wpAnyH_take (i := 2) (oi := ⟨some 103, _, _, _, _, _⟩) (v := .agg #[.int .i64 2, .int .i64 0, .string e0B, .slice (some ⟨wr.heap.size, 0, none⟩) 1 1]) rfl (by kernel_rfl) (by kernel_rfl) (by kernel_rfl) (fun _ _ _ h => h) (.inl ⟨by kernel_rfl, fun W hW => by first | (obtain ⟨a0, a1, a2, a3⟩ := hW; go_simp; done) | (obtain ⟨a0, a1, a2, a3⟩ := hW; go_simp; omega) | (obtain ⟨a0, a1, a2, a3⟩ := hW; go_simp; simp [*]; done)⟩) hS1 ?_
              try simp only [Act.put, List.setIfInBounds_toArray, List.set_cons_zero, List.set_cons_succ]
              refine wpAnyH_ready (rs := [4]) (by kernel_rfl) (by simp) (AllReadyH.cons rfl (fun K hK => ?_) AllReadyH.nil)
              go_simp
              refine (HML.out hd1).mono ?_
              rintro e u2 ⟨rfl, hd2⟩
              refine hK.out _ _ (HS.out _ hd2) (fun hS2 => ?_)
              clear hK K
              try simp only [Act.put, List.setIfInBounds_toArray, List.set_cons_zero, List.set_cons_succ]
              refine wpAnyH_ready (rs := [8]) (by kernel_rfl) (by simp) (AllReadyH.cons rfl (fun K hK => ?_) AllReadyH.nil)
              go_simp
              refine (HMA.out _ hd2).mono ?_
              rintro e u3 ⟨rfl, hd3⟩
              refine hK.out _ _ (HS.out _ hd3) (fun hS3 => ?_)
              clear hK K
              try simp only [Act.put, List.setIfInBounds_toArray, List.set_cons_zero, List.set_cons_succ]
              refine wpAnyH_take (i := 9) (oi := ⟨some 110, _, _, _, _, _⟩) (v := .bool true) rfl (by kernel_rfl) (by kernel_rfl) (by kernel_rfl) (fun _ _ _ h => h) (.inl ⟨by kernel_rfl, fun W hW => by first | (obtain ⟨a0, a1, a2, a3⟩ := hW; go_simp; done) | (obtain ⟨a0, a1, a2, a3⟩ := hW; go_simp; omega) | (obtain ⟨a0, a1, a2, a3⟩ := hW; go_simp; simp [*]; done)⟩) hS3 ?_
              try simp only [Act.put, List.setIfInBounds_toArray, List.set_cons_zero, List.set_cons_succ]
              refine wpAnyH_take (i := 10) (oi := ⟨some 6, _, _, _, _, _⟩) (v := .bool true) rfl (by kernel_rfl) (by kernel_rfl) (by kernel_rfl) (fun _ _ _ h => h) (.inl ⟨by kernel_rfl, fun W hW => by kernel_rfl⟩) hS3 ?_
              try simp only [Act.put, List.setIfInBounds_toArray, List.set_cons_zero, List.set_cons_succ]
              refine wpAnyH_done (by kernel_rfl) ?_ _
              go_wp2_with fail
              go_ret
              exact ⟨rfl, HXa.out.bw.trans (hd3.mono HXa.out.bw.size)⟩
        · rw [show decide (0 ≤ num) = true from decide_eq_true hn, show decide (num < free) = true from decide_eq_true hf] at HMV
          simp only [Bool.and_self] at HMV
          go_wp2_with fail
          change Calls _ _ _ ((V.alloc (.cells #[.int .i64 k', .int .i64 n', .string s', .slice A' l'.length (capF l'.length c')] 24)).alloc (.cells #[.int .i64 6, .int .i64 0, .string aB, .slice (some ⟨V.heap.size, 0, none⟩) 1 1] 24)) _
          rw [← HW7.out]
          refine HMV.out.mono ?_
          rintro e w8 ⟨rfl, hb8⟩
          have HXa := Lib.hid (HXa7.out.step hb8)
          have HXb := Lib.hid (HXb7.out.step hb8)
          have HXt := Lib.hid (HXt7.out.step hb8)
          clear hb8 HMV HW7 HXa7 HXb7 HXt7 b0 b1 b2 b3
          rw [← HGG.out]
          rw [← HSS.out]
          obtain ⟨t0, t1, t2, t3⟩ := HXt.out.four
          have HMT := (by have := HXt.out.may (by have := HZb.out; simp only [depthE, depthEL] at this ⊢; omega) free; rw [altV_may] at this; exact Lib.hid this)
          go_wp2_with fail
          refine HMT.out.mono ?_
          rintro e V8 ⟨rfl, hb8⟩
          have HXa := Lib.hid (HXa.out.step hb8)
          have HXb := Lib.hid (HXb.out.step hb8)
          have HXt := Lib.hid (HXt.out.step hb8)
          clear hb8 HMT t0 t1 t2 t3
          obtain ⟨hrb, hrow⟩ := made_row HXa.out HXb.out HXt.out
          obtain ⟨W9, hW9⟩ : ∃ W, W = (((((V8.alloc (.cells #[.int .i64 k, .int .i64 n, .string s, .slice A l.length (capF l.length c), .int .i64 k', .int .i64 n', .string s', .slice A' l'.length (capF l'.length c')] 24)).alloc (.cells #[.int .i64 k, .int .i64 n, .string s, .slice A l.length (capF l.length c), .int .i64 k', .int .i64 n', .string s', .slice A' l'.length (capF l'.length c')] 24)).alloc (.cells #[.int .i64 k, .int .i64 n, .string s, .slice A l.length (capF l.length c), .int .i64 k', .int .i64 n', .string s', .slice A' l'.length (capF l'.length c')] 24)).alloc (.cells #[.int .i64 k, .int .i64 n, .string s, .slice A l.length (capF l.length c), .int .i64 6, .int .i64 0, .string aB, .slice (some ⟨S, 0, none⟩) 1 1] 24)).alloc (.cells #[.int .i64 3, .int .i64 0, .string e0B, .slice (some ⟨V8.heap.size, 0, none⟩) 2 2, .int .i64 4, .int .i64 0, .string aB, .slice (some ⟨V8.heap.size + 1, 0, none⟩) 2 2, .int .i64 8, .int .i64 0, .string ⟨#[60]⟩, .slice (some ⟨V8.heap.size + 1 + 1, 0, none⟩) 2 2, .int .i64 5, .int .i64 0, .string e0B, .slice (some ⟨V8.heap.size + 1 + 1 + 1, 0, none⟩) 2 2] 24)) := ⟨_, rfl⟩
          have HW9 := Lib.hid hW9
          rw [← hW9] at hrb hrow
          have HRB := Lib.hid hrb
          have HRW := Lib.hid hrow
          obtain ⟨a0, a1, a2, a3⟩ := HXa.out.four
          obtain ⟨b0, b1, b2, b3⟩ := HXb.out.four
          obtain ⟨t0, t1, t2, t3⟩ := HXt.out.four
          have hla := HXa.out.box.lt
          have hlb := HXb.out.box.lt
          have hlt := HXt.out.box.lt
          have k3 : ∀ (O O' O'' : Obj) b i, b < V8.heap.size → (((V8.alloc O).alloc O').alloc O'').cell? ⟨b, i, none⟩ = V8.cell? ⟨b, i, none⟩ := fun O O' O'' b i h => ((((Below.refl _ V8).alloc (Nat.le_refl _) O).alloc (by simp) O').alloc (by simp; omega) O'').cell (p := ⟨b, i, none⟩) h
          have k2 : ∀ (O O' : Obj) b i, b < V8.heap.size → ((V8.alloc O).alloc O').cell? ⟨b, i, none⟩ = V8.cell? ⟨b, i, none⟩ := fun O O' b i h => (((Below.refl _ V8).alloc (Nat.le_refl _) O).alloc (by simp) O').cell (p := ⟨b, i, none⟩) h
          have k1 : ∀ (O : Obj) b i, b < V8.heap.size → (V8.alloc O).cell? ⟨b, i, none⟩ = V8.cell? ⟨b, i, none⟩ := fun O b i h => ((Below.refl _ V8).alloc (Nat.le_refl _) O).cell (p := ⟨b, i, none⟩) h
          clear hrb hrow hW9
          go_wp2_with fail
          clear k1 k2 k3 a0 a1 a2 a3 b0 b1 b2 b3 t0 t1 t2 t3 hla hlb hlt
          go_loopw [13] (fun x wr => ∃ i : Nat, i ≤ 4 ∧ x = .int .i64 i ∧ ELIn wr Any (madeE (.node k n s l) (.node k' n' s' l')) (some ⟨V8.heap.size + 1 + 1 + 1 + 1, 0, none⟩) 0 ∧ Bx6 w wr w.heap.size k n s l A c) (fun x _ => 4 - (intOf x).toNat)
          case atStart =>
            have h1 := HRW.out
            have h2 := HXa.out.step HRB.out
            rw [HW9.out] at h1 h2
            exact ⟨0, by omega, rfl, h1, h2⟩
          case round =>
            obtain ⟨i, hi, rfl, HEr, hXar⟩ := hrel
            by_cases hlt : i < 4
            · have hia : i < (madeE (.node k n s l) (.node k' n' s' l')).length := hlt
              obtain ⟨g, o, B, d, ⟨hA, _⟩, d0, d1, d2, d3, hIn⟩ := ELIn.at_ _ HEr i hia
              rw [Nat.zero_add] at d0 d1 d2 d3
              have hmem := List.getElem_mem hia
              have hpq := HPQ.out _ hmem
              have hdp := made_deep _ _ _ hmem
              injection hA with hA
              injection hA with hA1 hA2
              subst hA1 hA2
              obtain ⟨tr, hu⟩ : ∃ tr, tr = (madeE (.node k n s l) (.node k' n' s' l'))[i]'hia := ⟨_, rfl⟩
              rw [← hu] at d0 d1 d2 d3 hIn hpq hdp
              clear hu hmem
              have HM := eMay_any tr B d free wr hIn hXar.tb.sg (by have h1 := HZa.out; have h2 := HZb.out; omega)
              obtain ⟨r, hr⟩ : ∃ r, r = mayV6 tr free := ⟨_, rfl⟩
              rw [← hr] at HM hpq
              clear hr
              obtain ⟨tk, tn, ts, tl⟩ := tr
              simp only [Te.kind, Te.n, Te.name, Te.parts] at d0 d1 d2 d3
              simp only [ev, Te.kind, Te.n, Te.name, Te.parts] at HM
              have HM := Lib.hid HM
              have HE := Lib.hid HEr
              have HXa := Lib.hid hXar
              rw [Nat.zero_add] at d0 d1 d2 d3
              clear HEr hXar hIn hdp
              cases p <;> cases q
              all_goals
                simp only [Bool.and_self, Bool.and_true, Bool.and_false] at hpq
                subst hpq
                go_wp2_with fail
                refine HM.out.mono ?_
                rintro e V9 ⟨rfl, hb9⟩
                have HXa := Lib.hid (HXa.out.step hb9)
                have HE := Lib.hid (ELIn.below _ HE.out hb9 (Nat.le_refl _))
                clear hb9 HM
                go_wp2_with fail
                go_roundw
                case rel => exact ⟨i + 1, by omega, by go_num, HE.out, HXa.out⟩
                case measure => simp [intOf]; omega
            · obtain rfl : i = 4 := by omega
              have hlt := hXar.box.lt
              have HXa := Lib.hid hXar
              clear HEr hXar
              go_upto_region 16 with fail
              have hd0 : Below wr.heap.size wr wr.drew := (Below.refl _ wr).drew
              have HS := Lib.hid (fun (V' : World) (h : Below wr.heap.size wr V') => ((HXa.out.step h).four : (fun V' => (V'.cell? ⟨w.heap.size, 0, none⟩ = some (.int .i64 k) ∧ V'.cell? ⟨w.heap.size, 1, none⟩ = some (.int .i64 n) ∧ V'.cell? ⟨w.heap.size, 2, none⟩ = some (.string s) ∧ V'.cell? ⟨w.heap.size, 3, none⟩ = some (.slice A l.length (capF l.length c)))) V'))
              have hS0 := HS.out _ hd0
              have hw1 : IntKind.i64.wrap (free + 1) = free + 1 := IntWalk.i64_in _ (by omega)
              have hml : mayV6 (.node 2 0 e0B [(.node k n s l)]) free = mayV6 (.node k n s l) (free + 1) := lam_may _ _ (by omega)
              have HMA := Lib.hid ((fun (V' : World) (h : Below wr.heap.size wr V') => Calls.fromB h h.size ((HXa.out.step h).may (by have := HZa.out; omega) (free + 1))))
              have HML : Hid (∀ hd : Below wr.heap.size wr (wr.drew.alloc (.cells #[.int .i64 k, .int .i64 n, .string s, .slice A l.length (capF l.length c)] 24)), Calls Tryd.prog 10 #[.agg #[.int .i64 2, .int .i64 0, .string e0B, .slice (some ⟨wr.heap.size, 0, none⟩) 1 1], .int .i64 free] (wr.drew.alloc (.cells #[.int .i64 k, .int .i64 n, .string s, .slice A l.length (capF l.length c)] 24)) fun e w' => e = .returned (.bool (mayV6 (.node k n s l) (free + 1))) ∧ Below wr.heap.size wr w') := Lib.hid (fun hd => by
                have L1 : Lies (wr.drew.alloc (.cells #[.int .i64 k, .int .i64 n, .string s, .slice A l.length (capF l.length c)] 24)) wr.heap.size 24 #[.int .i64 k, .int .i64 n, .string s, .slice A l.length (capF l.length c)] := Lies.new wr.drew _ _
                have hx := HXa.out.step hd
                have h1 := eMay_any (.node 2 0 e0B [(.node k n s l)]) (some ⟨wr.heap.size, 0, none⟩) 1 free _ (EIn.mk e0B_size (by decide) (by decide) (by simp) (ELIn.one (t1 := (.node k n s l)) (A1 := A) (c1 := c) L1 rfl trivial hx.tin)) hx.tb.sg (by have := HZa.out; simp only [depthE, depthEL] at this ⊢; omega)
                rw [hml] at h1
                exact Calls.fromB hd hd.size h1)
              obtain ⟨MB, hMB⟩ : ∃ MB, MB = mayV6 (.node k n s l) (free + 1) := ⟨_, rfl⟩
              rw [← hMB] at HMA HML
              clear hml hMB
              refine wp_region_held_drew (S := (fun V' => (V'.cell? ⟨w.heap.size, 0, none⟩ = some (.int .i64 k) ∧ V'.cell? ⟨w.heap.size, 1, none⟩ = some (.int .i64 n) ∧ V'.cell? ⟨w.heap.size, 2, none⟩ = some (.string s) ∧ V'.cell? ⟨w.heap.size, 3, none⟩ = some (.slice A l.length (capF l.length c))))) rfl hS0 (fun hSs => ?_)
              change wpAnyH _ _ _ _ _ 11 (Array.replicate 11 false) _ _
              refine wpAnyH_take (i := 0) (oi := ⟨some 101, _, _, _, _, _⟩) (v := .agg #[.int .i64 k, .int .i64 n, .string s, .slice A l.length (capF l.length c)]) rfl (by kernel_rfl) (by kernel_rfl) (by kernel_rfl) (fun _ _ _ h => h) (.inl ⟨by kernel_rfl, fun W hW => by first | (obtain ⟨a0, a1, a2, a3⟩ := hW; go_simp; done) | (obtain ⟨a0, a1, a2, a3⟩ := hW; go_simp; omega) | (obtain ⟨a0, a1, a2, a3⟩ := hW; go_simp; simp [*]; done)⟩) hSs ?_
              try simp only [Act.put, List.setIfInBounds_toArray, List.set_cons_zero, List.set_cons_succ]
              refine wpAnyH_take (i := 3) (oi := ⟨some 104, _, _, _, _, _⟩) (v := .int .i64 free) rfl (by kernel_rfl) (by kernel_rfl) (by kernel_rfl) (fun _ _ _ h => h) (.inl ⟨by kernel_rfl, fun W hW => by kernel_rfl⟩) hSs ?_
              try simp only [Act.put, List.setIfInBounds_toArray, List.set_cons_zero, List.set_cons_succ]
              refine wpAnyH_take (i := 5) (oi := ⟨some 106, _, _, _, _, _⟩) (v := .agg #[.int .i64 k, .int .i64 n, .string s, .slice A l.length (capF l.length c)]) rfl (by kernel_rfl) (by kernel_rfl) (by kernel_rfl) (fun _ _ _ h => h) (.inl ⟨by kernel_rfl, fun W hW => by first | (obtain ⟨a0, a1, a2, a3⟩ := hW; go_simp; done) | (obtain ⟨a0, a1, a2, a3⟩ := hW; go_simp; omega) | (obtain ⟨a0, a1, a2, a3⟩ := hW; go_simp; simp [*]; done)⟩) hSs ?_
              try simp only [Act.put, List.setIfInBounds_toArray, List.set_cons_zero, List.set_cons_succ]
              refine wpAnyH_take (i := 6) (oi := ⟨some 107, _, _, _, _, _⟩) (v := .int .i64 free) rfl (by kernel_rfl) (by kernel_rfl) (by kernel_rfl) (fun _ _ _ h => h) (.inl ⟨by kernel_rfl, fun W hW => by kernel_rfl⟩) hSs ?_
              try simp only [Act.put, List.setIfInBounds_toArray, List.set_cons_zero, List.set_cons_succ]
              refine wpAnyH_take (i := 7) (oi := ⟨some 108, _, _, _, _, _⟩) (v := .int .i64 (free + 1)) rfl (by kernel_rfl) (by kernel_rfl) (by kernel_rfl) (fun _ _ _ h => h) (.inl ⟨by kernel_rfl, fun W hW => by first | (obtain ⟨a0, a1, a2, a3⟩ := hW; go_simp; done) | (obtain ⟨a0, a1, a2, a3⟩ := hW; go_simp; omega) | (obtain ⟨a0, a1, a2, a3⟩ := hW; go_simp; simp [*]; done)⟩) hSs ?_
              try simp only [Act.put, List.setIfInBounds_toArray, List.set_cons_zero, List.set_cons_succ]
              refine wpAnyH_ready (rs := [1]) (by kernel_rfl) (by simp) (AllReadyH.cons rfl (fun K hK => ?_) AllReadyH.nil)
              go_simp
              have hd1 := Below.alloc hd0 hd0.size (.cells #[.int .i64 k, .int .i64 n, .string s, .slice A l.length (capF l.length c)] 24)
              refine hK.out _ _ (HS.out _ hd1) (fun hS1 => ?_)
              clear hK K
              try simp only [Act.put, List.setIfInBounds_toArray, List.set_cons_zero, List.set_cons_succ]
              refine wpAnyH_take (i := 2) (oi := ⟨some 103, _, _, _, _, _⟩) (v := .agg #[.int .i64 2, .int .i64 0, .string e0B, .slice (some ⟨wr.heap.size, 0, none⟩) 1 1]) rfl (by kernel_rfl) (by kernel_rfl) (by kernel_rfl) (fun _ _ _ h => h) (.inl ⟨by kernel_rfl, fun W hW => by first | (obtain ⟨a0, a1, a2, a3⟩ := hW; go_simp; done) | (obtain ⟨a0, a1, a2, a3⟩ := hW; go_simp; omega) | (obtain ⟨a0, a1, a2, a3⟩ := hW; go_simp; simp [*]; done)⟩) hS1 ?_
              try simp only [Act.put, List.setIfInBounds_toArray, List.set_cons_zero, List.set_cons_succ]
              refine wpAnyH_ready (rs := [4]) (by kernel_rfl) (by simp) (AllReadyH.cons rfl (fun K hK => ?_) AllReadyH.nil)
              go_simp
              refine (HML.out hd1).mono ?_
              rintro e u2 ⟨rfl, hd2⟩
              refine hK.out _ _ (HS.out _ hd2) (fun hS2 => ?_)
              clear hK K
              try simp only [Act.put, List.setIfInBounds_toArray, List.set_cons_zero, List.set_cons_succ]
              refine wpAnyH_ready (rs := [8]) (by kernel_rfl) (by simp) (AllReadyH.cons rfl (fun K hK => ?_) AllReadyH.nil)
              go_simp
              refine (HMA.out _ hd2).mono ?_
              rintro e u3 ⟨rfl, hd3⟩
              refine hK.out _ _ (HS.out _ hd3) (fun hS3 => ?_)
              clear hK K
              try simp only [Act.put, List.setIfInBounds_toArray, List.set_cons_zero, List.set_cons_succ]
              refine wpAnyH_take (i := 9) (oi := ⟨some 110, _, _, _, _, _⟩) (v := .bool true) rfl (by kernel_rfl) (by kernel_rfl) (by kernel_rfl) (fun _ _ _ h => h) (.inl ⟨by kernel_rfl, fun W hW => by first | (obtain ⟨a0, a1, a2, a3⟩ := hW; go_simp; done) | (obtain ⟨a0, a1, a2, a3⟩ := hW; go_simp; omega) | (obtain ⟨a0, a1, a2, a3⟩ := hW; go_simp; simp [*]; done)⟩) hS3 ?_
              try simp only [Act.put, List.setIfInBounds_toArray, List.set_cons_zero, List.set_cons_succ]
              refine wpAnyH_take (i := 10) (oi := ⟨some 6, _, _, _, _, _⟩) (v := .bool true) rfl (by kernel_rfl) (by kernel_rfl) (by kernel_rfl) (fun _ _ _ h => h) (.inl ⟨by kernel_rfl, fun W hW => by kernel_rfl⟩) hS3 ?_
              try simp only [Act.put, List.setIfInBounds_toArray, List.set_cons_zero, List.set_cons_succ]
              refine wpAnyH_done (by kernel_rfl) ?_ _
              go_wp2_with fail
              go_ret
              exact ⟨rfl, HXa.out.bw.trans (hd3.mono HXa.out.bw.size)⟩
        · rw [show decide (0 ≤ num) = true from decide_eq_true hn, show decide (num < free) = false from decide_eq_false hf] at HMV
          simp only [Bool.and_false] at HMV
          go_wp2_with fail
          change Calls _ _ _ ((V.alloc (.cells #[.int .i64 k', .int .i64 n', .string s', .slice A' l'.length (capF l'.length c')] 24)).alloc (.cells #[.int .i64 6, .int .i64 0, .string aB, .slice (some ⟨V.heap.size, 0, none⟩) 1 1] 24)) _
          rw [← HW7.out]
          refine HMV.out.mono ?_
          rintro e w8 ⟨rfl, hb8⟩
          have HXa := Lib.hid (HXa7.out.step hb8)
          have HXb := Lib.hid (HXb7.out.step hb8)
          have HXt := Lib.hid (HXt7.out.step hb8)
          clear hb8 HMV HW7 HXa7 HXb7 HXt7 b0 b1 b2 b3
          rw [← HGG.out]
          rw [← HSS.out]
          obtain ⟨t0, t1, t2, t3⟩ := HXt.out.four
          have HMT := (by have := HXt.out.may (by have := HZb.out; simp only [depthE, depthEL] at this ⊢; omega) free; rw [altV_may] at this; exact Lib.hid this)
          go_wp2_with fail
          refine HMT.out.mono ?_
          rintro e V8 ⟨rfl, hb8⟩
          have HXa := Lib.hid (HXa.out.step hb8)
          have HXb := Lib.hid (HXb.out.step hb8)
          have HXt := Lib.hid (HXt.out.step hb8)
          clear hb8 HMT t0 t1 t2 t3
          obtain ⟨hrb, hrow⟩ := made_row HXa.out HXb.out HXt.out
          obtain ⟨W9, hW9⟩ : ∃ W, W = (((((V8.alloc (.cells #[.int .i64 k, .int .i64 n, .string s, .slice A l.length (capF l.length c), .int .i64 k', .int .i64 n', .string s', .slice A' l'.length (capF l'.length c')] 24)).alloc (.cells #[.int .i64 k, .int .i64 n, .string s, .slice A l.length (capF l.length c), .int .i64 k', .int .i64 n', .string s', .slice A' l'.length (capF l'.length c')] 24)).alloc (.cells #[.int .i64 k, .int .i64 n, .string s, .slice A l.length (capF l.length c), .int .i64 k', .int .i64 n', .string s', .slice A' l'.length (capF l'.length c')] 24)).alloc (.cells #[.int .i64 k, .int .i64 n, .string s, .slice A l.length (capF l.length c), .int .i64 6, .int .i64 0, .string aB, .slice (some ⟨S, 0, none⟩) 1 1] 24)).alloc (.cells #[.int .i64 3, .int .i64 0, .string e0B, .slice (some ⟨V8.heap.size, 0, none⟩) 2 2, .int .i64 4, .int .i64 0, .string aB, .slice (some ⟨V8.heap.size + 1, 0, none⟩) 2 2, .int .i64 8, .int .i64 0, .string ⟨#[60]⟩, .slice (some ⟨V8.heap.size + 1 + 1, 0, none⟩) 2 2, .int .i64 5, .int .i64 0, .string e0B, .slice (some ⟨V8.heap.size + 1 + 1 + 1, 0, none⟩) 2 2] 24)) := ⟨_, rfl⟩
          have HW9 := Lib.hid hW9
          rw [← hW9] at hrb hrow
          have HRB := Lib.hid hrb
          have HRW := Lib.hid hrow
          obtain ⟨a0, a1, a2, a3⟩ := HXa.out.four
          obtain ⟨b0, b1, b2, b3⟩ := HXb.out.four
          obtain ⟨t0, t1, t2, t3⟩ := HXt.out.four
          have hla := HXa.out.box.lt
          have hlb := HXb.out.box.lt
          have hlt := HXt.out.box.lt
          have k3 : ∀ (O O' O'' : Obj) b i, b < V8.heap.size → (((V8.alloc O).alloc O').alloc O'').cell? ⟨b, i, none⟩ = V8.cell? ⟨b, i, none⟩ := fun O O' O'' b i h => ((((Below.refl _ V8).alloc (Nat.le_refl _) O).alloc (by simp) O').alloc (by simp; omega) O'').cell (p := ⟨b, i, none⟩) h
          have k2 : ∀ (O O' : Obj) b i, b < V8.heap.size → ((V8.alloc O).alloc O').cell? ⟨b, i, none⟩ = V8.cell? ⟨b, i, none⟩ := fun O O' b i h => (((Below.refl _ V8).alloc (Nat.le_refl _) O).alloc (by simp) O').cell (p := ⟨b, i, none⟩) h
          have k1 : ∀ (O : Obj) b i, b < V8.heap.size → (V8.alloc O).cell? ⟨b, i, none⟩ = V8.cell? ⟨b, i, none⟩ := fun O b i h => ((Below.refl _ V8).alloc (Nat.le_refl _) O).cell (p := ⟨b, i, none⟩) h
          clear hrb hrow hW9
          go_wp2_with fail
          clear k1 k2 k3 a0 a1 a2 a3 b0 b1 b2 b3 t0 t1 t2 t3 hla hlb hlt
          go_loopw [13] (fun x wr => ∃ i : Nat, i ≤ 4 ∧ x = .int .i64 i ∧ ELIn wr Any (madeE (.node k n s l) (.node k' n' s' l')) (some ⟨V8.heap.size + 1 + 1 + 1 + 1, 0, none⟩) 0 ∧ Bx6 w wr w.heap.size k n s l A c) (fun x _ => 4 - (intOf x).toNat)
          case atStart =>
            have h1 := HRW.out
            have h2 := HXa.out.step HRB.out
            rw [HW9.out] at h1 h2
            exact ⟨0, by omega, rfl, h1, h2⟩
          case round =>
            obtain ⟨i, hi, rfl, HEr, hXar⟩ := hrel
            by_cases hlt : i < 4
            · have hia : i < (madeE (.node k n s l) (.node k' n' s' l')).length := hlt
              obtain ⟨g, o, B, d, ⟨hA, _⟩, d0, d1, d2, d3, hIn⟩ := ELIn.at_ _ HEr i hia
              rw [Nat.zero_add] at d0 d1 d2 d3
              have hmem := List.getElem_mem hia
              have hpq := HPQ.out _ hmem
              have hdp := made_deep _ _ _ hmem
              injection hA with hA
              injection hA with hA1 hA2
              subst hA1 hA2
              obtain ⟨tr, hu⟩ : ∃ tr, tr = (madeE (.node k n s l) (.node k' n' s' l'))[i]'hia := ⟨_, rfl⟩
              rw [← hu] at d0 d1 d2 d3 hIn hpq hdp
              clear hu hmem
              have HM := eMay_any tr B d free wr hIn hXar.tb.sg (by have h1 := HZa.out; have h2 := HZb.out; omega)
              obtain ⟨r, hr⟩ : ∃ r, r = mayV6 tr free := ⟨_, rfl⟩
              rw [← hr] at HM hpq
              clear hr
              obtain ⟨tk, tn, ts, tl⟩ := tr
              simp only [Te.kind, Te.n, Te.name, Te.parts] at d0 d1 d2 d3
              simp only [ev, Te.kind, Te.n, Te.name, Te.parts] at HM
              have HM := Lib.hid HM
              have HE := Lib.hid HEr
              have HXa := Lib.hid hXar
              rw [Nat.zero_add] at d0 d1 d2 d3
              clear HEr hXar hIn hdp
              cases p <;> cases q
              all_goals
                simp only [Bool.and_self, Bool.and_true, Bool.and_false] at hpq
                subst hpq
                go_wp2_with fail
                refine HM.out.mono ?_
                rintro e V9 ⟨rfl, hb9⟩
                have HXa := Lib.hid (HXa.out.step hb9)
                have HE := Lib.hid (ELIn.below _ HE.out hb9 (Nat.le_refl _))
                clear hb9 HM
                go_wp2_with fail
                go_roundw
                case rel => exact ⟨i + 1, by omega, by go_num, HE.out, HXa.out⟩
                case measure => simp [intOf]; omega
            · obtain rfl : i = 4 := by omega
              have hlt := hXar.box.lt
              have HXa := Lib.hid hXar
              clear HEr hXar
              go_upto_region 16 with fail
              have hd0 : Below wr.heap.size wr wr.drew := (Below.refl _ wr).drew
              have HS := Lib.hid (fun (V' : World) (h : Below wr.heap.size wr V') => ((HXa.out.step h).four : (fun V' => (V'.cell? ⟨w.heap.size, 0, none⟩ = some (.int .i64 k) ∧ V'.cell? ⟨w.heap.size, 1, none⟩ = some (.int .i64 n) ∧ V'.cell? ⟨w.heap.size, 2, none⟩ = some (.string s) ∧ V'.cell? ⟨w.heap.size, 3, none⟩ = some (.slice A l.length (capF l.length c)))) V'))
              have hS0 := HS.out _ hd0
              have hw1 : IntKind.i64.wrap (free + 1) = free + 1 := IntWalk.i64_in _ (by omega)
              have hml : mayV6 (.node 2 0 e0B [(.node k n s l)]) free = mayV6 (.node k n s l) (free + 1) := lam_may _ _ (by omega)
              have HMA := Lib.hid ((fun (V' : World) (h : Below wr.heap.size wr V') => Calls.fromB h h.size ((HXa.out.step h).may (by have := HZa.out; omega) (free + 1))))
              have HML : Hid (∀ hd : Below wr.heap.size wr (wr.drew.alloc (.cells #[.int .i64 k, .int .i64 n, .string s, .slice A l.length (capF l.length c)] 24)), Calls Tryd.prog 10 #[.agg #[.int .i64 2, .int .i64 0, .string e0B, .slice (some ⟨wr.heap.size, 0, none⟩) 1 1], .int .i64 free] (wr.drew.alloc (.cells #[.int .i64 k, .int .i64 n, .string s, .slice A l.length (capF l.length c)] 24)) fun e w' => e = .returned (.bool (mayV6 (.node k n s l) (free + 1))) ∧ Below wr.heap.size wr w') := Lib.hid (fun hd => by
                have L1 : Lies (wr.drew.alloc (.cells #[.int .i64 k, .int .i64 n, .string s, .slice A l.length (capF l.length c)] 24)) wr.heap.size 24 #[.int .i64 k, .int .i64 n, .string s, .slice A l.length (capF l.length c)] := Lies.new wr.drew _ _
                have hx := HXa.out.step hd
                have h1 := eMay_any (.node 2 0 e0B [(.node k n s l)]) (some ⟨wr.heap.size, 0, none⟩) 1 free _ (EIn.mk e0B_size (by decide) (by decide) (by simp) (ELIn.one (t1 := (.node k n s l)) (A1 := A) (c1 := c) L1 rfl trivial hx.tin)) hx.tb.sg (by have := HZa.out; simp only [depthE, depthEL] at this ⊢; omega)
                rw [hml] at h1
                exact Calls.fromB hd hd.size h1)
              obtain ⟨MB, hMB⟩ : ∃ MB, MB = mayV6 (.node k n s l) (free + 1) := ⟨_, rfl⟩
              rw [← hMB] at HMA HML
              clear hml hMB
              refine wp_region_held_drew (S := (fun V' => (V'.cell? ⟨w.heap.size, 0, none⟩ = some (.int .i64 k) ∧ V'.cell? ⟨w.heap.size, 1, none⟩ = some (.int .i64 n) ∧ V'.cell? ⟨w.heap.size, 2, none⟩ = some (.string s) ∧ V'.cell? ⟨w.heap.size, 3, none⟩ = some (.slice A l.length (capF l.length c))))) rfl hS0 (fun hSs => ?_)
              change wpAnyH _ _ _ _ _ 11 (Array.replicate 11 false) _ _
              refine wpAnyH_take (i := 0) (oi := ⟨some 101, _, _, _, _, _⟩) (v := .agg #[.int .i64 k, .int .i64 n, .string s, .slice A l.length (capF l.length c)]) rfl (by kernel_rfl) (by kernel_rfl) (by kernel_rfl) (fun _ _ _ h => h) (.inl ⟨by kernel_rfl, fun W hW => by first | (obtain ⟨a0, a1, a2, a3⟩ := hW; go_simp; done) | (obtain ⟨a0, a1, a2, a3⟩ := hW; go_simp; omega) | (obtain ⟨a0, a1, a2, a3⟩ := hW; go_simp; simp [*]; done)⟩) hSs ?_
              try simp only [Act.put, List.setIfInBounds_toArray, List.set_cons_zero, List.set_cons_succ]
              refine wpAnyH_take (i := 3) (oi := ⟨some 104, _, _, _, _, _⟩) (v := .int .i64 free) rfl (by kernel_rfl) (by kernel_rfl) (by kernel_rfl) (fun _ _ _ h => h) (.inl ⟨by kernel_rfl, fun W hW => by kernel_rfl⟩) hSs ?_
              try simp only [Act.put, List.setIfInBounds_toArray, List.set_cons_zero, List.set_cons_succ]
              refine wpAnyH_take (i := 5) (oi := ⟨some 106, _, _, _, _, _⟩) (v := .agg #[.int .i64 k, .int .i64 n, .string s, .slice A l.length (capF l.length c)]) rfl (by kernel_rfl) (by kernel_rfl) (by kernel_rfl) (fun _ _ _ h => h) (.inl ⟨by kernel_rfl, fun W hW => by first | (obtain ⟨a0, a1, a2, a3⟩ := hW; go_simp; done) | (obtain ⟨a0, a1, a2, a3⟩ := hW; go_simp; omega) | (obtain ⟨a0, a1, a2, a3⟩ := hW; go_simp; simp [*]; done)⟩) hSs ?_
              try simp only [Act.put, List.setIfInBounds_toArray, List.set_cons_zero, List.set_cons_succ]
              refine wpAnyH_take (i := 6) (oi := ⟨some 107, _, _, _, _, _⟩) (v := .int .i64 free) rfl (by kernel_rfl) (by kernel_rfl) (by kernel_rfl) (fun _ _ _ h => h) (.inl ⟨by kernel_rfl, fun W hW => by kernel_rfl⟩) hSs ?_
              try simp only [Act.put, List.setIfInBounds_toArray, List.set_cons_zero, List.set_cons_succ]
              refine wpAnyH_take (i := 7) (oi := ⟨some 108, _, _, _, _, _⟩) (v := .int .i64 (free + 1)) rfl (by kernel_rfl) (by kernel_rfl) (by kernel_rfl) (fun _ _ _ h => h) (.inl ⟨by kernel_rfl, fun W hW => by first | (obtain ⟨a0, a1, a2, a3⟩ := hW; go_simp; done) | (obtain ⟨a0, a1, a2, a3⟩ := hW; go_simp; omega) | (obtain ⟨a0, a1, a2, a3⟩ := hW; go_simp; simp [*]; done)⟩) hSs ?_
              try simp only [Act.put, List.setIfInBounds_toArray, List.set_cons_zero, List.set_cons_succ]
              refine wpAnyH_ready (rs := [1]) (by kernel_rfl) (by simp) (AllReadyH.cons rfl (fun K hK => ?_) AllReadyH.nil)
              go_simp
              have hd1 := Below.alloc hd0 hd0.size (.cells #[.int .i64 k, .int .i64 n, .string s, .slice A l.length (capF l.length c)] 24)
              refine hK.out _ _ (HS.out _ hd1) (fun hS1 => ?_)
              clear hK K
              try simp only [Act.put, List.setIfInBounds_toArray, List.set_cons_zero, List.set_cons_succ]
              refine wpAnyH_take (i := 2) (oi := ⟨some 103, _, _, _, _, _⟩) (v := .agg #[.int .i64 2, .int .i64 0, .string e0B, .slice (some ⟨wr.heap.size, 0, none⟩) 1 1]) rfl (by kernel_rfl) (by kernel_rfl) (by kernel_rfl) (fun _ _ _ h => h) (.inl ⟨by kernel_rfl, fun W hW => by first | (obtain ⟨a0, a1, a2, a3⟩ := hW; go_simp; done) | (obtain ⟨a0, a1, a2, a3⟩ := hW; go_simp; omega) | (obtain ⟨a0, a1, a2, a3⟩ := hW; go_simp; simp [*]; done)⟩) hS1 ?_
              try simp only [Act.put, List.setIfInBounds_toArray, List.set_cons_zero, List.set_cons_succ]
              refine wpAnyH_ready (rs := [4]) (by kernel_rfl) (by simp) (AllReadyH.cons rfl (fun K hK => ?_) AllReadyH.nil)
              go_simp
              refine (HML.out hd1).mono ?_
              rintro e u2 ⟨rfl, hd2⟩
              refine hK.out _ _ (HS.out _ hd2) (fun hS2 => ?_)
              clear hK K
              try simp only [Act.put, List.setIfInBounds_toArray, List.set_cons_zero, List.set_cons_succ]
              refine wpAnyH_ready (rs := [8]) (by kernel_rfl) (by simp) (AllReadyH.cons rfl (fun K hK => ?_) AllReadyH.nil)
              go_simp
              refine (HMA.out _ hd2).mono ?_
              rintro e u3 ⟨rfl, hd3⟩
              refine hK.out _ _ (HS.out _ hd3) (fun hS3 => ?_)
              clear hK K
              try simp only [Act.put, List.setIfInBounds_toArray, List.set_cons_zero, List.set_cons_succ]
              refine wpAnyH_take (i := 9) (oi := ⟨some 110, _, _, _, _, _⟩) (v := .bool true) rfl (by kernel_rfl) (by kernel_rfl) (by kernel_rfl) (fun _ _ _ h => h) (.inl ⟨by kernel_rfl, fun W hW => by first | (obtain ⟨a0, a1, a2, a3⟩ := hW; go_simp; done) | (obtain ⟨a0, a1, a2, a3⟩ := hW; go_simp; omega) | (obtain ⟨a0, a1, a2, a3⟩ := hW; go_simp; simp [*]; done)⟩) hS3 ?_
              try simp only [Act.put, List.setIfInBounds_toArray, List.set_cons_zero, List.set_cons_succ]
              refine wpAnyH_take (i := 10) (oi := ⟨some 6, _, _, _, _, _⟩) (v := .bool true) rfl (by kernel_rfl) (by kernel_rfl) (by kernel_rfl) (fun _ _ _ h => h) (.inl ⟨by kernel_rfl, fun W hW => by kernel_rfl⟩) hS3 ?_
              try simp only [Act.put, List.setIfInBounds_toArray, List.set_cons_zero, List.set_cons_succ]
              refine wpAnyH_done (by kernel_rfl) ?_ _
              go_wp2_with fail
              go_ret
              exact ⟨rfl, HXa.out.bw.trans (hd3.mono HXa.out.bw.size)⟩
end Lx
end Go.Proofs.YteagbndjoklogaaDoor
