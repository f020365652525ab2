/-
  Texts that lie one behind the other: SuMay.
-/
import Derived.Test.YtgnafcnokenogaaC9
import Derived.Test.YtgnafcnokenogaaC7
import Derived.Deep.QuietTactic
import Derived.BigQuiet
namespace Go.Proofs.Ytgnafcnokenogaa
open Go.RowKit
namespace Lx
set_option maxRecDepth 100000
/-- Has one of these the name? -/
def dupAt (l : List Te) (s : ByteArray) : Bool := l.any fun u => decide (u.name = s)
mutual
/-- May a term be, as a part, or as an alternative? -/
def mayQ : Te → Int → Bool → Bool
  | .node k n s l, free, alt => decide (0 ≤ free) && (headR k n s l.length free alt && mayQL k [] l (free + moreE k n))
def mayQL (k : Int) : List Te → List Te → Int → Bool
  | _, [], _ => true
  | met, t :: r, free => mayQ t free (decide (k = 5) && decide (0 < met.length)) && ((!decide (k = 5) || !dupAt (met.drop 1) t.name) && mayQL k (met ++ [t]) r free)
end
theorem strE_nb {s t : ByteArray} (h : s ≠ t) : (s.toList == t.toList) = false := by simpa using strE_ne h
theorem dup_step (l : List Te) (i q : Nat) (s : ByteArray) (hq : q < i) (h : q < l.length) : dupAt ((l.take i).drop q) s = (decide ((l[q]'h).name = s) || dupAt ((l.take i).drop (q + 1)) s) := by
  have h2 : q < (l.take i).length := by simp; omega
  rw [List.drop_eq_getElem_cons h2]
  simp [dupAt]
theorem head_facts {k n free : Int} {s : ByteArray} {m : Nat} {alt : Bool} (h : headR k n s m free alt = true) : (k = 6 → 0 ≤ n ∧ n ≤ 8) ∧ m ≤ 9 := by
  revert h
  unfold headR
  split
  · intro h; simp at h <;> omega
  · repeat' split
    all_goals (intro h; simp at h <;> omega)
set_option maxHeartbeats 16000000 in
theorem rmay6_any (d : Nat) : ∀ (t : Te) (A : Option Addr) (c : Nat) (free : Int) (alt : Bool) (w : World), depthE t ≤ d → d ≤ 12000 → -1000000 ≤ free → free ≤ 4611686018427387904 + 8 * (12000 - (d : Int)) → EIn w Any t A →
    Calls Try.prog 20 #[ev t A c, .int .i64 free, .bool alt] w fun e w' => e = .returned (.bool (mayQ t free alt)) ∧ Below w.heap.size w w' := by
  induction d with
  | zero => intro t A c free alt w h; have := depthE_pos t; omega
  | succ d ih =>
    intro t A c free alt w hd hd4 hf0 hf1 hI
    obtain ⟨k, n, s, l⟩ := t
    have hdL : depthEL l ≤ d := by rw [depthE] at hd; omega
    have hml : l.length ≤ 140737488351232 := by rw [EIn] at hI; exact hI.2.1
    have hss : s.size ≤ 140737488351232 := by rw [EIn] at hI; exact hI.1.1
    show Calls Try.prog 20 #[.agg #[.int .i64 k, .int .i64 n, .string s, .slice A l.length (capF l.length c)], .int .i64 free, .bool alt] w _
    generalize capF l.length c = c
    have hE : mayQ (.node k n s l) free alt = (decide (0 ≤ free) && (headR k n s l.length free alt && mayQL k [] l (free + moreE k n))) := by rw [mayQ]
    obtain ⟨U, hU⟩ : ∃ U, U = mayQ (.node k n s l) free alt := ⟨_, rfl⟩
    rw [← hU] at hE ⊢
    have HI := Lib.hid hI
    clear hU hI hd
    obtain ⟨m, hm⟩ : ∃ m, m = l.length := ⟨_, rfl⟩
    rw [← hm] at hml hE ⊢
    have hm1 : m ≤ l.length := by omega
    have hm2 : l.length ≤ m := by omega
    clear hm
    have hb0 : Below w.heap.size w (w.alloc (.cells #[.int .i64 k, .int .i64 n, .string s, .slice A m c] 24)) := (Below.refl _ w).alloc (Nat.le_refl _) _
    have l0 := Lies.new w 24 #[.int .i64 k, .int .i64 n, .string s, .slice A m c]
    by_cases hfree : free < 0
    · have HF : Hid (U = false) := by
        refine Lib.hid ?_
        rw [hE, decide_eq_false (by omega)]; rfl
      clear hE HI ih
      go_enter Try.func20, Try.ntmps20
      go_wp2_with fail
      go_ret
      exact ⟨ret_bool HF.out.symm, hb0⟩
    · have HH := Lib.hid (head6_any k n free s A m c alt (w.alloc (.cells #[.int .i64 k, .int .i64 n, .string s, .slice A m c] 24)) hss hml)
      rw [decide_eq_true (by omega : 0 ≤ free), Bool.true_and] at hE
      cases hh : headR k n s m free alt
      · rw [hh] at hE HH
        have HF : Hid (U = false) := by
          refine Lib.hid ?_
          rw [hE]; rfl
        clear hE HI ih hh
        go_enter Try.func20, Try.ntmps20
        go_wp2_with fail
        refine HH.out.mono ?_
        rintro e w1 ⟨rfl, hb1⟩
        go_wp2_with fail
        go_ret
        exact ⟨ret_bool HF.out.symm, hb0.trans (hb1.mono hb0.size)⟩
      · rw [hh] at hE HH
        obtain ⟨h6, hm9⟩ := head_facts hh
        rw [Bool.true_and] at hE
        clear hh
        rcases (by omega : k = 2 ∨ k = 6 ∨ k = 5 ∨ (k ≠ 2 ∧ k ≠ 6 ∧ k ≠ 5)) with rfl | rfl | rfl | ⟨n2, n6, n5⟩
        · have HE : Hid (U = mayQL 2 [] l (free + 1)) := Lib.hid (by rw [hE]; rfl)
          have HK5 : ¬ (2 : Int) = 5 := by decide
          clear hE h6
          go_enter Try.func20, Try.ntmps20
          go_wp2_with fail
          refine HH.out.mono ?_
          rintro e w1 ⟨rfl, hb1⟩
          have l1 := l0.below hb1 l0.lt
          have hbw1 := hb0.trans (hb1.mono hb0.size)
          have k0 := l1.cell 0
          have k1 := l1.cell 1
          simp at k0 k1
          go_wp2_with fail
          go_loopw [7] (fun x wr => ∃ i : Nat, i ≤ m ∧ x = .int .i64 i ∧ Hid (mayQL 2 [] l ((free + 1)) = mayQL 2 (l.take i) (l.drop i) ((free + 1))) ∧ Lies wr w.heap.size 24 #[.int .i64 2, .int .i64 n, .string s, .slice A m c] ∧ Below w.heap.size w wr) (fun x _ => m - (intOf x).toNat)
          case atStart => exact ⟨0, by omega, rfl, by exact rfl, l1, hbw1⟩
          case round =>
            obtain ⟨i, hi, rfl, HQ, l2, hbw⟩ := hrel
            have hbs := hbw.size
            have c0 := l2.cell 0
            have c3 := l2.cell 3
            simp at c0 c3
            by_cases hlt : i < m
            · have hia : i < l.length := by omega
              obtain ⟨g, o, B, b, ⟨hA, _⟩, d0, d1, d2, d3, hIn⟩ := EIn.part (EIn.below _ HI.out hbw (Nat.le_refl _)) i hia
              subst hA
              have hm5 := depthEL_mem l (l[i]'hia) (List.getElem_mem hia)
              simp only [Te.parts] at d0 d1 d2 d3 hIn
              have HT1 : Hid (l.take (i + 1) = l.take i ++ [l[i]'hia]) := Lib.hid (List.take_succ_eq_append_getElem hia)
              have HS : Hid (mayQL 2 (l.take i) (l.drop i) ((free + 1)) = (mayQ (l[i]'hia) ((free + 1)) false && ((!false || !dupAt ((l.take i).drop 1) (l[i]'hia).name) && mayQL 2 (l.take i ++ [l[i]'hia]) (l.drop (i + 1)) ((free + 1))))) := by
                refine Lib.hid ?_
                have e1 : (decide ((2 : Int) = 5) && decide (0 < (l.take i).length)) = false := by simp [HK5]
                have e2 : decide ((2 : Int) = 5) = false := by simp [HK5]
                rw [List.drop_eq_getElem_cons hia, mayQL, e1, e2]
              obtain ⟨tr, hu⟩ : ∃ tr, tr = l[i]'hia := ⟨_, rfl⟩
              have HTI : Hid (l[i]'hia = tr) := Lib.hid hu.symm
              rw [← hu] at d0 d1 d2 d3 hIn HS hm5 HT1
              clear hu
              obtain ⟨tk, tn, ts, tl⟩ := tr
              simp only [Te.kind, Te.n, Te.name] at d0 d1 d2 d3 HS
              have HC : Hid (∀ X, Below wr.heap.size wr X → Calls Try.prog 20 #[.agg #[.int .i64 tk, .int .i64 tn, .string ts, .slice B tl.length (capF tl.length b)], .int .i64 (free + 1), .bool false] X fun e w' => e = .returned (.bool (mayQ (.node tk tn ts tl) ((free + 1)) false)) ∧ Below X.heap.size X w') := Lib.hid fun X hX =>
                ih (.node tk tn ts tl) B b (free + 1) false X (by omega) (by omega) (by omega) (by omega) (EIn.below _ hIn hX (Nat.le_refl _))
              have hgl := cell_lt d0
              have HSS : Hid (∀ V', Below wr.heap.size wr V' → (fun V' : World => (V'.cell? ⟨w.heap.size, 0, none⟩ = some (.int .i64 2) ∧ V'.cell? ⟨w.heap.size, 3, none⟩ = some (.slice (some ⟨g, o, none⟩) m c) ∧ V'.cell? ⟨g, o + i * 4, none⟩ = some (.int .i64 tk) ∧ V'.cell? ⟨g, o + i * 4 + 1, none⟩ = some (.int .i64 tn) ∧ V'.cell? ⟨g, o + i * 4 + 2, none⟩ = some (.string ts) ∧ V'.cell? ⟨g, o + i * 4 + 3, none⟩ = some (.slice B tl.length (capF tl.length b)))) V') := Lib.hid fun V' h =>
                ⟨(h.cell (p := ⟨w.heap.size, 0, none⟩) l2.lt).trans c0, (h.cell (p := ⟨w.heap.size, 3, none⟩) l2.lt).trans c3, (h.cell (p := ⟨g, _, none⟩) hgl).trans d0, (h.cell (p := ⟨g, _, none⟩) hgl).trans d1, (h.cell (p := ⟨g, _, none⟩) hgl).trans d2, (h.cell (p := ⟨g, _, none⟩) hgl).trans d3⟩
              have L2 := Lib.hid l2
              clear l2 hIn
              cases hq : mayQ (.node tk tn ts tl) ((free + 1)) false
              · rw [hq] at HC HS
                clear hq
                go_upto_region 10 with fail
                clear c0 c3 d0 d1 d2 d3
                have hb_1 : Below wr.heap.size wr wr := Below.refl _ _
                refine wp_region_held_drew (S := (fun V' : World => (V'.cell? ⟨w.heap.size, 0, none⟩ = some (.int .i64 2) ∧ V'.cell? ⟨w.heap.size, 3, none⟩ = some (.slice (some ⟨g, o, none⟩) m c) ∧ V'.cell? ⟨g, o + i * 4, none⟩ = some (.int .i64 tk) ∧ V'.cell? ⟨g, o + i * 4 + 1, none⟩ = some (.int .i64 tn) ∧ V'.cell? ⟨g, o + i * 4 + 2, none⟩ = some (.string ts) ∧ V'.cell? ⟨g, o + i * 4 + 3, none⟩ = some (.slice B tl.length (capF tl.length b))))) rfl (HSS.out _ hb_1.drew) (fun hSs => ?_)
                change wpAnyH _ _ _ _ _ 15 (Array.replicate 15 false) _ _
                refine wpAnyH_take (i := 0) (oi := ⟨some 37, _, _, _, _, _⟩) (v := .pointer (some ⟨w.heap.size, 3, none⟩)) rfl (by kernel_rfl) (by kernel_rfl) (by kernel_rfl) (fun _ _ _ h => h) (.inl ⟨by kernel_rfl, fun W hW => by first | (obtain ⟨z0, z1, z2, z3, z4, z5⟩ := hW; go_simp; done) | (obtain ⟨z0, z1, z2, z3, z4, z5⟩ := hW; go_simp; omega) | (obtain ⟨z0, z1, z2, z3, z4, z5⟩ := hW; go_simp; exact IntWalk.i64_in _ (by omega)) | (obtain ⟨z0, z1, z2, z3, z4, z5⟩ := hW; go_simp; simp [*]; done)⟩) hSs ?_
                try simp only [Act.put, List.setIfInBounds_toArray, List.set_cons_zero, List.set_cons_succ]
                refine wpAnyH_take (i := 1) (oi := ⟨some 38, _, _, _, _, _⟩) (v := .slice (some ⟨g, o, none⟩) m c) rfl (by kernel_rfl) (by kernel_rfl) (by kernel_rfl) (fun _ _ _ h => h) (.inl ⟨by kernel_rfl, fun W hW => by first | (obtain ⟨z0, z1, z2, z3, z4, z5⟩ := hW; go_simp; done) | (obtain ⟨z0, z1, z2, z3, z4, z5⟩ := hW; go_simp; omega) | (obtain ⟨z0, z1, z2, z3, z4, z5⟩ := hW; go_simp; exact IntWalk.i64_in _ (by omega)) | (obtain ⟨z0, z1, z2, z3, z4, z5⟩ := hW; go_simp; simp [*]; done)⟩) hSs ?_
                try simp only [Act.put, List.setIfInBounds_toArray, List.set_cons_zero, List.set_cons_succ]
                refine wpAnyH_take (i := 2) (oi := ⟨some 39, _, _, _, _, _⟩) (v := .int .i64 (i : Int)) rfl (by kernel_rfl) (by kernel_rfl) (by kernel_rfl) (fun _ _ _ h => h) (.inl ⟨by kernel_rfl, fun W hW => by kernel_rfl⟩) hSs ?_
                try simp only [Act.put, List.setIfInBounds_toArray, List.set_cons_zero, List.set_cons_succ]
                refine wpAnyH_take (i := 3) (oi := ⟨some 40, _, _, _, _, _⟩) (v := .pointer (some ⟨g, o + i * 4, none⟩)) rfl (by kernel_rfl) (by kernel_rfl) (by kernel_rfl) (fun _ _ _ h => h) (.inl ⟨by kernel_rfl, fun W hW => by first | (obtain ⟨z0, z1, z2, z3, z4, z5⟩ := hW; go_simp; done) | (obtain ⟨z0, z1, z2, z3, z4, z5⟩ := hW; go_simp; omega) | (obtain ⟨z0, z1, z2, z3, z4, z5⟩ := hW; go_simp; exact IntWalk.i64_in _ (by omega)) | (obtain ⟨z0, z1, z2, z3, z4, z5⟩ := hW; go_simp; simp [*]; done)⟩) hSs ?_
                try simp only [Act.put, List.setIfInBounds_toArray, List.set_cons_zero, List.set_cons_succ]
                refine wpAnyH_take (i := 4) (oi := ⟨some 41, _, _, _, _, _⟩) (v := .agg #[.int .i64 tk, .int .i64 tn, .string ts, .slice B tl.length (capF tl.length b)]) rfl (by kernel_rfl) (by kernel_rfl) (by kernel_rfl) (fun _ _ _ h => h) (.inl ⟨by kernel_rfl, fun W hW => by first | (obtain ⟨z0, z1, z2, z3, z4, z5⟩ := hW; go_simp; done) | (obtain ⟨z0, z1, z2, z3, z4, z5⟩ := hW; go_simp; omega) | (obtain ⟨z0, z1, z2, z3, z4, z5⟩ := hW; go_simp; exact IntWalk.i64_in _ (by omega)) | (obtain ⟨z0, z1, z2, z3, z4, z5⟩ := hW; go_simp; simp [*]; done)⟩) hSs ?_
                try simp only [Act.put, List.setIfInBounds_toArray, List.set_cons_zero, List.set_cons_succ]
                refine wpAnyH_take (i := 5) (oi := ⟨some 42, _, _, _, _, _⟩) (v := .int .i64 (free + 1)) rfl (by kernel_rfl) (by kernel_rfl) (by kernel_rfl) (fun _ _ _ h => h) (.inl ⟨by kernel_rfl, fun W hW => by kernel_rfl⟩) hSs ?_
                try simp only [Act.put, List.setIfInBounds_toArray, List.set_cons_zero, List.set_cons_succ]
                refine wpAnyH_take (i := 6) (oi := ⟨some 43, _, _, _, _, _⟩) (v := .pointer (some ⟨w.heap.size, 0, none⟩)) rfl (by kernel_rfl) (by kernel_rfl) (by kernel_rfl) (fun _ _ _ h => h) (.inl ⟨by kernel_rfl, fun W hW => by first | (obtain ⟨z0, z1, z2, z3, z4, z5⟩ := hW; go_simp; done) | (obtain ⟨z0, z1, z2, z3, z4, z5⟩ := hW; go_simp; omega) | (obtain ⟨z0, z1, z2, z3, z4, z5⟩ := hW; go_simp; exact IntWalk.i64_in _ (by omega)) | (obtain ⟨z0, z1, z2, z3, z4, z5⟩ := hW; go_simp; simp [*]; done)⟩) hSs ?_
                try simp only [Act.put, List.setIfInBounds_toArray, List.set_cons_zero, List.set_cons_succ]
                refine wpAnyH_take (i := 7) (oi := ⟨some 44, _, _, _, _, _⟩) (v := .int .i64 2) rfl (by kernel_rfl) (by kernel_rfl) (by kernel_rfl) (fun _ _ _ h => h) (.inl ⟨by kernel_rfl, fun W hW => by first | (obtain ⟨z0, z1, z2, z3, z4, z5⟩ := hW; go_simp; done) | (obtain ⟨z0, z1, z2, z3, z4, z5⟩ := hW; go_simp; omega) | (obtain ⟨z0, z1, z2, z3, z4, z5⟩ := hW; go_simp; exact IntWalk.i64_in _ (by omega)) | (obtain ⟨z0, z1, z2, z3, z4, z5⟩ := hW; go_simp; simp [*]; done)⟩) hSs ?_
                try simp only [Act.put, List.setIfInBounds_toArray, List.set_cons_zero, List.set_cons_succ]
                refine wpAnyH_take (i := 8) (oi := ⟨some 45, _, _, _, _, _⟩) (v := .bool false) rfl (by kernel_rfl) (by kernel_rfl) (by kernel_rfl) (fun _ _ _ h => h) (.inl ⟨by kernel_rfl, fun W hW => by first | (obtain ⟨z0, z1, z2, z3, z4, z5⟩ := hW; go_simp; done) | (obtain ⟨z0, z1, z2, z3, z4, z5⟩ := hW; go_simp; omega) | (obtain ⟨z0, z1, z2, z3, z4, z5⟩ := hW; go_simp; exact IntWalk.i64_in _ (by omega)) | (obtain ⟨z0, z1, z2, z3, z4, z5⟩ := hW; go_simp; simp [*]; done)⟩) hSs ?_
                try simp only [Act.put, List.setIfInBounds_toArray, List.set_cons_zero, List.set_cons_succ]
                refine wpAnyH_take (i := 9) (oi := ⟨some 46, _, _, _, _, _⟩) (v := .bool false) rfl (by kernel_rfl) (by kernel_rfl) (by kernel_rfl) (fun _ _ _ h => h) (.inl ⟨by kernel_rfl, fun W hW => by kernel_rfl⟩) hSs ?_
                try simp only [Act.put, List.setIfInBounds_toArray, List.set_cons_zero, List.set_cons_succ]
                refine wpAnyH_take (i := 10) (oi := ⟨some 47, _, _, _, _, _⟩) (v := undef) rfl (by kernel_rfl) (by kernel_rfl) (by kernel_rfl) (fun _ _ _ h => h) (.inr ⟨by kernel_rfl, rfl⟩) hSs ?_
                try simp only [Act.put, List.setIfInBounds_toArray, List.set_cons_zero, List.set_cons_succ]
                refine wpAnyH_take (i := 11) (oi := ⟨some 48, _, _, _, _, _⟩) (v := undef) rfl (by kernel_rfl) (by kernel_rfl) (by kernel_rfl) (fun _ _ _ h => h) (.inr ⟨by kernel_rfl, rfl⟩) hSs ?_
                try simp only [Act.put, List.setIfInBounds_toArray, List.set_cons_zero, List.set_cons_succ]
                refine wpAnyH_take (i := 12) (oi := ⟨some 49, _, _, _, _, _⟩) (v := .bool false) rfl (by kernel_rfl) (by kernel_rfl) (by kernel_rfl) (fun _ _ _ h => h) (.inl ⟨by kernel_rfl, fun W hW => by kernel_rfl⟩) hSs ?_
                try simp only [Act.put, List.setIfInBounds_toArray, List.set_cons_zero, List.set_cons_succ]
                refine wpAnyH_ready (rs := [13]) (by kernel_rfl) (by simp) (AllReadyH.cons rfl (fun K hK => ?_) AllReadyH.nil)
                go_simp
                refine (HC.out _ (hb_1.drew) ).mono ?_
                rintro e u_2 ⟨rfl, hq_2⟩
                have hb_2 := (hb_1.drew).trans (hq_2.mono (hb_1.drew).size)
                refine hK.out _ _ (HSS.out _ hb_2) (fun hS_2 => ?_)
                clear hK K
                try simp only [Act.put, List.setIfInBounds_toArray, List.set_cons_zero, List.set_cons_succ]
                refine wpAnyH_take (i := 14) (oi := ⟨some 51, _, _, _, _, _⟩) (v := .bool true) rfl (by kernel_rfl) (by kernel_rfl) (by kernel_rfl) (fun _ _ _ h => h) (.inl ⟨by kernel_rfl, fun W hW => by kernel_rfl⟩) hS_2 ?_
                try simp only [Act.put, List.setIfInBounds_toArray, List.set_cons_zero, List.set_cons_succ]
                refine wpAnyH_done (by kernel_rfl) ?_ _
                have hbx := hb_2
                go_wp2_with fail
                go_ret
                exact ⟨ret_bool (by rw [HE.out, HQ.out, HS.out]; rfl), hbw.trans (hbx.mono hbs)⟩
              · rw [hq] at HC HS
                clear hq
                go_upto_region 10 with fail
                clear c0 c3 d0 d1 d2 d3
                have hb_1 : Below wr.heap.size wr wr := Below.refl _ _
                refine wp_region_held_drew (S := (fun V' : World => (V'.cell? ⟨w.heap.size, 0, none⟩ = some (.int .i64 2) ∧ V'.cell? ⟨w.heap.size, 3, none⟩ = some (.slice (some ⟨g, o, none⟩) m c) ∧ V'.cell? ⟨g, o + i * 4, none⟩ = some (.int .i64 tk) ∧ V'.cell? ⟨g, o + i * 4 + 1, none⟩ = some (.int .i64 tn) ∧ V'.cell? ⟨g, o + i * 4 + 2, none⟩ = some (.string ts) ∧ V'.cell? ⟨g, o + i * 4 + 3, none⟩ = some (.slice B tl.length (capF tl.length b))))) rfl (HSS.out _ hb_1.drew) (fun hSs => ?_)
                change wpAnyH _ _ _ _ _ 15 (Array.replicate 15 false) _ _
                refine wpAnyH_take (i := 0) (oi := ⟨some 37, _, _, _, _, _⟩) (v := .pointer (some ⟨w.heap.size, 3, none⟩)) rfl (by kernel_rfl) (by kernel_rfl) (by kernel_rfl) (fun _ _ _ h => h) (.inl ⟨by kernel_rfl, fun W hW => by first | (obtain ⟨z0, z1, z2, z3, z4, z5⟩ := hW; go_simp; done) | (obtain ⟨z0, z1, z2, z3, z4, z5⟩ := hW; go_simp; omega) | (obtain ⟨z0, z1, z2, z3, z4, z5⟩ := hW; go_simp; exact IntWalk.i64_in _ (by omega)) | (obtain ⟨z0, z1, z2, z3, z4, z5⟩ := hW; go_simp; simp [*]; done)⟩) hSs ?_
                try simp only [Act.put, List.setIfInBounds_toArray, List.set_cons_zero, List.set_cons_succ]
                refine wpAnyH_take (i := 1) (oi := ⟨some 38, _, _, _, _, _⟩) (v := .slice (some ⟨g, o, none⟩) m c) rfl (by kernel_rfl) (by kernel_rfl) (by kernel_rfl) (fun _ _ _ h => h) (.inl ⟨by kernel_rfl, fun W hW => by first | (obtain ⟨z0, z1, z2, z3, z4, z5⟩ := hW; go_simp; done) | (obtain ⟨z0, z1, z2, z3, z4, z5⟩ := hW; go_simp; omega) | (obtain ⟨z0, z1, z2, z3, z4, z5⟩ := hW; go_simp; exact IntWalk.i64_in _ (by omega)) | (obtain ⟨z0, z1, z2, z3, z4, z5⟩ := hW; go_simp; simp [*]; done)⟩) hSs ?_
                try simp only [Act.put, List.setIfInBounds_toArray, List.set_cons_zero, List.set_cons_succ]
                refine wpAnyH_take (i := 2) (oi := ⟨some 39, _, _, _, _, _⟩) (v := .int .i64 (i : Int)) rfl (by kernel_rfl) (by kernel_rfl) (by kernel_rfl) (fun _ _ _ h => h) (.inl ⟨by kernel_rfl, fun W hW => by kernel_rfl⟩) hSs ?_
                try simp only [Act.put, List.setIfInBounds_toArray, List.set_cons_zero, List.set_cons_succ]
                refine wpAnyH_take (i := 3) (oi := ⟨some 40, _, _, _, _, _⟩) (v := .pointer (some ⟨g, o + i * 4, none⟩)) rfl (by kernel_rfl) (by kernel_rfl) (by kernel_rfl) (fun _ _ _ h => h) (.inl ⟨by kernel_rfl, fun W hW => by first | (obtain ⟨z0, z1, z2, z3, z4, z5⟩ := hW; go_simp; done) | (obtain ⟨z0, z1, z2, z3, z4, z5⟩ := hW; go_simp; omega) | (obtain ⟨z0, z1, z2, z3, z4, z5⟩ := hW; go_simp; exact IntWalk.i64_in _ (by omega)) | (obtain ⟨z0, z1, z2, z3, z4, z5⟩ := hW; go_simp; simp [*]; done)⟩) hSs ?_
                try simp only [Act.put, List.setIfInBounds_toArray, List.set_cons_zero, List.set_cons_succ]
                refine wpAnyH_take (i := 4) (oi := ⟨some 41, _, _, _, _, _⟩) (v := .agg #[.int .i64 tk, .int .i64 tn, .string ts, .slice B tl.length (capF tl.length b)]) rfl (by kernel_rfl) (by kernel_rfl) (by kernel_rfl) (fun _ _ _ h => h) (.inl ⟨by kernel_rfl, fun W hW => by first | (obtain ⟨z0, z1, z2, z3, z4, z5⟩ := hW; go_simp; done) | (obtain ⟨z0, z1, z2, z3, z4, z5⟩ := hW; go_simp; omega) | (obtain ⟨z0, z1, z2, z3, z4, z5⟩ := hW; go_simp; exact IntWalk.i64_in _ (by omega)) | (obtain ⟨z0, z1, z2, z3, z4, z5⟩ := hW; go_simp; simp [*]; done)⟩) hSs ?_
                try simp only [Act.put, List.setIfInBounds_toArray, List.set_cons_zero, List.set_cons_succ]
                refine wpAnyH_take (i := 5) (oi := ⟨some 42, _, _, _, _, _⟩) (v := .int .i64 (free + 1)) rfl (by kernel_rfl) (by kernel_rfl) (by kernel_rfl) (fun _ _ _ h => h) (.inl ⟨by kernel_rfl, fun W hW => by kernel_rfl⟩) hSs ?_
                try simp only [Act.put, List.setIfInBounds_toArray, List.set_cons_zero, List.set_cons_succ]
                refine wpAnyH_take (i := 6) (oi := ⟨some 43, _, _, _, _, _⟩) (v := .pointer (some ⟨w.heap.size, 0, none⟩)) rfl (by kernel_rfl) (by kernel_rfl) (by kernel_rfl) (fun _ _ _ h => h) (.inl ⟨by kernel_rfl, fun W hW => by first | (obtain ⟨z0, z1, z2, z3, z4, z5⟩ := hW; go_simp; done) | (obtain ⟨z0, z1, z2, z3, z4, z5⟩ := hW; go_simp; omega) | (obtain ⟨z0, z1, z2, z3, z4, z5⟩ := hW; go_simp; exact IntWalk.i64_in _ (by omega)) | (obtain ⟨z0, z1, z2, z3, z4, z5⟩ := hW; go_simp; simp [*]; done)⟩) hSs ?_
                try simp only [Act.put, List.setIfInBounds_toArray, List.set_cons_zero, List.set_cons_succ]
                refine wpAnyH_take (i := 7) (oi := ⟨some 44, _, _, _, _, _⟩) (v := .int .i64 2) rfl (by kernel_rfl) (by kernel_rfl) (by kernel_rfl) (fun _ _ _ h => h) (.inl ⟨by kernel_rfl, fun W hW => by first | (obtain ⟨z0, z1, z2, z3, z4, z5⟩ := hW; go_simp; done) | (obtain ⟨z0, z1, z2, z3, z4, z5⟩ := hW; go_simp; omega) | (obtain ⟨z0, z1, z2, z3, z4, z5⟩ := hW; go_simp; exact IntWalk.i64_in _ (by omega)) | (obtain ⟨z0, z1, z2, z3, z4, z5⟩ := hW; go_simp; simp [*]; done)⟩) hSs ?_
                try simp only [Act.put, List.setIfInBounds_toArray, List.set_cons_zero, List.set_cons_succ]
                refine wpAnyH_take (i := 8) (oi := ⟨some 45, _, _, _, _, _⟩) (v := .bool false) rfl (by kernel_rfl) (by kernel_rfl) (by kernel_rfl) (fun _ _ _ h => h) (.inl ⟨by kernel_rfl, fun W hW => by first | (obtain ⟨z0, z1, z2, z3, z4, z5⟩ := hW; go_simp; done) | (obtain ⟨z0, z1, z2, z3, z4, z5⟩ := hW; go_simp; omega) | (obtain ⟨z0, z1, z2, z3, z4, z5⟩ := hW; go_simp; exact IntWalk.i64_in _ (by omega)) | (obtain ⟨z0, z1, z2, z3, z4, z5⟩ := hW; go_simp; simp [*]; done)⟩) hSs ?_
                try simp only [Act.put, List.setIfInBounds_toArray, List.set_cons_zero, List.set_cons_succ]
                refine wpAnyH_take (i := 9) (oi := ⟨some 46, _, _, _, _, _⟩) (v := .bool false) rfl (by kernel_rfl) (by kernel_rfl) (by kernel_rfl) (fun _ _ _ h => h) (.inl ⟨by kernel_rfl, fun W hW => by kernel_rfl⟩) hSs ?_
                try simp only [Act.put, List.setIfInBounds_toArray, List.set_cons_zero, List.set_cons_succ]
                refine wpAnyH_take (i := 10) (oi := ⟨some 47, _, _, _, _, _⟩) (v := undef) rfl (by kernel_rfl) (by kernel_rfl) (by kernel_rfl) (fun _ _ _ h => h) (.inr ⟨by kernel_rfl, rfl⟩) hSs ?_
                try simp only [Act.put, List.setIfInBounds_toArray, List.set_cons_zero, List.set_cons_succ]
                refine wpAnyH_take (i := 11) (oi := ⟨some 48, _, _, _, _, _⟩) (v := undef) rfl (by kernel_rfl) (by kernel_rfl) (by kernel_rfl) (fun _ _ _ h => h) (.inr ⟨by kernel_rfl, rfl⟩) hSs ?_
                try simp only [Act.put, List.setIfInBounds_toArray, List.set_cons_zero, List.set_cons_succ]
                refine wpAnyH_take (i := 12) (oi := ⟨some 49, _, _, _, _, _⟩) (v := .bool false) rfl (by kernel_rfl) (by kernel_rfl) (by kernel_rfl) (fun _ _ _ h => h) (.inl ⟨by kernel_rfl, fun W hW => by kernel_rfl⟩) hSs ?_
                try simp only [Act.put, List.setIfInBounds_toArray, List.set_cons_zero, List.set_cons_succ]
                refine wpAnyH_ready (rs := [13]) (by kernel_rfl) (by simp) (AllReadyH.cons rfl (fun K hK => ?_) AllReadyH.nil)
                go_simp
                refine (HC.out _ (hb_1.drew) ).mono ?_
                rintro e u_2 ⟨rfl, hq_2⟩
                have hb_2 := (hb_1.drew).trans (hq_2.mono (hb_1.drew).size)
                refine hK.out _ _ (HSS.out _ hb_2) (fun hS_2 => ?_)
                clear hK K
                try simp only [Act.put, List.setIfInBounds_toArray, List.set_cons_zero, List.set_cons_succ]
                refine wpAnyH_take (i := 14) (oi := ⟨some 51, _, _, _, _, _⟩) (v := .bool false) rfl (by kernel_rfl) (by kernel_rfl) (by kernel_rfl) (fun _ _ _ h => h) (.inl ⟨by kernel_rfl, fun W hW => by kernel_rfl⟩) hS_2 ?_
                try simp only [Act.put, List.setIfInBounds_toArray, List.set_cons_zero, List.set_cons_succ]
                refine wpAnyH_done (by kernel_rfl) ?_ _
                have hbx := hb_2
                obtain ⟨wx, hwx⟩ : ∃ wx, wx = u_2 := ⟨_, rfl⟩
                rw [← hwx] at hbx ⊢
                clear hwx
                have hbw8 := hbw.trans (hbx.mono hbs)
                have L8 := L2.out.below hbx L2.out.lt
                have c08 := L8.cell 0
                have c38 := L8.cell 3
                simp at c08 c38
                go_wp2_with fail
                go_loopw [8] (fun x wr2 => x = .int .i64 1 ∧ Lies wr2 w.heap.size 24 #[.int .i64 2, .int .i64 n, .string s, .slice (some ⟨g, o, none⟩) m c] ∧ Below w.heap.size w wr2) (fun _ _ => 0)
                case atStart => exact ⟨rfl, L8, hbw8⟩
                case round =>
                  obtain ⟨rfl, L9, hbw9⟩ := hrel
                  have c09 := L9.cell 0
                  simp at c09
                  go_wp2_with fail
                  all_goals
                    go_roundw
                    case rel =>
                      refine ⟨i + 1, by omega, by go_num, ?_, L9, hbw9⟩
                      show _ = _
                      rw [HQ.out, HS.out, HT1.out]
                      simp
                    case measure => simp [intOf]; omega
            · go_wp2_with fail
              go_ret
              exact ⟨ret_bool (by rw [HE.out, HQ.out, List.drop_eq_nil_of_le (by omega), mayQL]), hbw⟩
        · have HE : Hid (U = mayQL 6 [] l (free + n)) := Lib.hid (by rw [hE]; rfl)
          have HK5 : ¬ (6 : Int) = 5 := by decide
          obtain ⟨h60, h68⟩ := h6 rfl
          clear hE h6
          go_enter Try.func20, Try.ntmps20
          go_wp2_with fail
          refine HH.out.mono ?_
          rintro e w1 ⟨rfl, hb1⟩
          have l1 := l0.below hb1 l0.lt
          have hbw1 := hb0.trans (hb1.mono hb0.size)
          have k0 := l1.cell 0
          have k1 := l1.cell 1
          simp at k0 k1
          go_wp2_with fail
          go_loopw [7] (fun x wr => ∃ i : Nat, i ≤ m ∧ x = .int .i64 i ∧ Hid (mayQL 6 [] l ((free + n)) = mayQL 6 (l.take i) (l.drop i) ((free + n))) ∧ Lies wr w.heap.size 24 #[.int .i64 6, .int .i64 n, .string s, .slice A m c] ∧ Below w.heap.size w wr) (fun x _ => m - (intOf x).toNat)
          case atStart => exact ⟨0, by omega, rfl, by exact rfl, l1, hbw1⟩
          case round =>
            obtain ⟨i, hi, rfl, HQ, l2, hbw⟩ := hrel
            have hbs := hbw.size
            have c0 := l2.cell 0
            have c3 := l2.cell 3
            simp at c0 c3
            by_cases hlt : i < m
            · have hia : i < l.length := by omega
              obtain ⟨g, o, B, b, ⟨hA, _⟩, d0, d1, d2, d3, hIn⟩ := EIn.part (EIn.below _ HI.out hbw (Nat.le_refl _)) i hia
              subst hA
              have hm5 := depthEL_mem l (l[i]'hia) (List.getElem_mem hia)
              simp only [Te.parts] at d0 d1 d2 d3 hIn
              have HT1 : Hid (l.take (i + 1) = l.take i ++ [l[i]'hia]) := Lib.hid (List.take_succ_eq_append_getElem hia)
              have HS : Hid (mayQL 6 (l.take i) (l.drop i) ((free + n)) = (mayQ (l[i]'hia) ((free + n)) false && ((!false || !dupAt ((l.take i).drop 1) (l[i]'hia).name) && mayQL 6 (l.take i ++ [l[i]'hia]) (l.drop (i + 1)) ((free + n))))) := by
                refine Lib.hid ?_
                have e1 : (decide ((6 : Int) = 5) && decide (0 < (l.take i).length)) = false := by simp [HK5]
                have e2 : decide ((6 : Int) = 5) = false := by simp [HK5]
                rw [List.drop_eq_getElem_cons hia, mayQL, e1, e2]
              obtain ⟨tr, hu⟩ : ∃ tr, tr = l[i]'hia := ⟨_, rfl⟩
              have HTI : Hid (l[i]'hia = tr) := Lib.hid hu.symm
              rw [← hu] at d0 d1 d2 d3 hIn HS hm5 HT1
              clear hu
              obtain ⟨tk, tn, ts, tl⟩ := tr
              simp only [Te.kind, Te.n, Te.name] at d0 d1 d2 d3 HS
              have HC : Hid (∀ X, Below wr.heap.size wr X → Calls Try.prog 20 #[.agg #[.int .i64 tk, .int .i64 tn, .string ts, .slice B tl.length (capF tl.length b)], .int .i64 (free + n), .bool false] X fun e w' => e = .returned (.bool (mayQ (.node tk tn ts tl) ((free + n)) false)) ∧ Below X.heap.size X w') := Lib.hid fun X hX =>
                ih (.node tk tn ts tl) B b (free + n) false X (by omega) (by omega) (by omega) (by omega) (EIn.below _ hIn hX (Nat.le_refl _))
              have hgl := cell_lt d0
              have HSS : Hid (∀ V', Below wr.heap.size wr V' → (fun V' : World => (V'.cell? ⟨w.heap.size, 0, none⟩ = some (.int .i64 6) ∧ V'.cell? ⟨w.heap.size, 3, none⟩ = some (.slice (some ⟨g, o, none⟩) m c) ∧ V'.cell? ⟨g, o + i * 4, none⟩ = some (.int .i64 tk) ∧ V'.cell? ⟨g, o + i * 4 + 1, none⟩ = some (.int .i64 tn) ∧ V'.cell? ⟨g, o + i * 4 + 2, none⟩ = some (.string ts) ∧ V'.cell? ⟨g, o + i * 4 + 3, none⟩ = some (.slice B tl.length (capF tl.length b)))) V') := Lib.hid fun V' h =>
                ⟨(h.cell (p := ⟨w.heap.size, 0, none⟩) l2.lt).trans c0, (h.cell (p := ⟨w.heap.size, 3, none⟩) l2.lt).trans c3, (h.cell (p := ⟨g, _, none⟩) hgl).trans d0, (h.cell (p := ⟨g, _, none⟩) hgl).trans d1, (h.cell (p := ⟨g, _, none⟩) hgl).trans d2, (h.cell (p := ⟨g, _, none⟩) hgl).trans d3⟩
              have L2 := Lib.hid l2
              clear l2 hIn
              cases hq : mayQ (.node tk tn ts tl) ((free + n)) false
              · rw [hq] at HC HS
                clear hq
                go_upto_region 10 with fail
                clear c0 c3 d0 d1 d2 d3
                have hb_1 : Below wr.heap.size wr wr := Below.refl _ _
                refine wp_region_held_drew (S := (fun V' : World => (V'.cell? ⟨w.heap.size, 0, none⟩ = some (.int .i64 6) ∧ V'.cell? ⟨w.heap.size, 3, none⟩ = some (.slice (some ⟨g, o, none⟩) m c) ∧ V'.cell? ⟨g, o + i * 4, none⟩ = some (.int .i64 tk) ∧ V'.cell? ⟨g, o + i * 4 + 1, none⟩ = some (.int .i64 tn) ∧ V'.cell? ⟨g, o + i * 4 + 2, none⟩ = some (.string ts) ∧ V'.cell? ⟨g, o + i * 4 + 3, none⟩ = some (.slice B tl.length (capF tl.length b))))) rfl (HSS.out _ hb_1.drew) (fun hSs => ?_)
                change wpAnyH _ _ _ _ _ 15 (Array.replicate 15 false) _ _
                refine wpAnyH_take (i := 0) (oi := ⟨some 37, _, _, _, _, _⟩) (v := .pointer (some ⟨w.heap.size, 3, none⟩)) rfl (by kernel_rfl) (by kernel_rfl) (by kernel_rfl) (fun _ _ _ h => h) (.inl ⟨by kernel_rfl, fun W hW => by first | (obtain ⟨z0, z1, z2, z3, z4, z5⟩ := hW; go_simp; done) | (obtain ⟨z0, z1, z2, z3, z4, z5⟩ := hW; go_simp; omega) | (obtain ⟨z0, z1, z2, z3, z4, z5⟩ := hW; go_simp; exact IntWalk.i64_in _ (by omega)) | (obtain ⟨z0, z1, z2, z3, z4, z5⟩ := hW; go_simp; simp [*]; done)⟩) hSs ?_
                try simp only [Act.put, List.setIfInBounds_toArray, List.set_cons_zero, List.set_cons_succ]
                refine wpAnyH_take (i := 1) (oi := ⟨some 38, _, _, _, _, _⟩) (v := .slice (some ⟨g, o, none⟩) m c) rfl (by kernel_rfl) (by kernel_rfl) (by kernel_rfl) (fun _ _ _ h => h) (.inl ⟨by kernel_rfl, fun W hW => by first | (obtain ⟨z0, z1, z2, z3, z4, z5⟩ := hW; go_simp; done) | (obtain ⟨z0, z1, z2, z3, z4, z5⟩ := hW; go_simp; omega) | (obtain ⟨z0, z1, z2, z3, z4, z5⟩ := hW; go_simp; exact IntWalk.i64_in _ (by omega)) | (obtain ⟨z0, z1, z2, z3, z4, z5⟩ := hW; go_simp; simp [*]; done)⟩) hSs ?_
                try simp only [Act.put, List.setIfInBounds_toArray, List.set_cons_zero, List.set_cons_succ]
                refine wpAnyH_take (i := 2) (oi := ⟨some 39, _, _, _, _, _⟩) (v := .int .i64 (i : Int)) rfl (by kernel_rfl) (by kernel_rfl) (by kernel_rfl) (fun _ _ _ h => h) (.inl ⟨by kernel_rfl, fun W hW => by kernel_rfl⟩) hSs ?_
                try simp only [Act.put, List.setIfInBounds_toArray, List.set_cons_zero, List.set_cons_succ]
                refine wpAnyH_take (i := 3) (oi := ⟨some 40, _, _, _, _, _⟩) (v := .pointer (some ⟨g, o + i * 4, none⟩)) rfl (by kernel_rfl) (by kernel_rfl) (by kernel_rfl) (fun _ _ _ h => h) (.inl ⟨by kernel_rfl, fun W hW => by first | (obtain ⟨z0, z1, z2, z3, z4, z5⟩ := hW; go_simp; done) | (obtain ⟨z0, z1, z2, z3, z4, z5⟩ := hW; go_simp; omega) | (obtain ⟨z0, z1, z2, z3, z4, z5⟩ := hW; go_simp; exact IntWalk.i64_in _ (by omega)) | (obtain ⟨z0, z1, z2, z3, z4, z5⟩ := hW; go_simp; simp [*]; done)⟩) hSs ?_
                try simp only [Act.put, List.setIfInBounds_toArray, List.set_cons_zero, List.set_cons_succ]
                refine wpAnyH_take (i := 4) (oi := ⟨some 41, _, _, _, _, _⟩) (v := .agg #[.int .i64 tk, .int .i64 tn, .string ts, .slice B tl.length (capF tl.length b)]) rfl (by kernel_rfl) (by kernel_rfl) (by kernel_rfl) (fun _ _ _ h => h) (.inl ⟨by kernel_rfl, fun W hW => by first | (obtain ⟨z0, z1, z2, z3, z4, z5⟩ := hW; go_simp; done) | (obtain ⟨z0, z1, z2, z3, z4, z5⟩ := hW; go_simp; omega) | (obtain ⟨z0, z1, z2, z3, z4, z5⟩ := hW; go_simp; exact IntWalk.i64_in _ (by omega)) | (obtain ⟨z0, z1, z2, z3, z4, z5⟩ := hW; go_simp; simp [*]; done)⟩) hSs ?_
                try simp only [Act.put, List.setIfInBounds_toArray, List.set_cons_zero, List.set_cons_succ]
                refine wpAnyH_take (i := 5) (oi := ⟨some 42, _, _, _, _, _⟩) (v := .int .i64 (free + n)) rfl (by kernel_rfl) (by kernel_rfl) (by kernel_rfl) (fun _ _ _ h => h) (.inl ⟨by kernel_rfl, fun W hW => by kernel_rfl⟩) hSs ?_
                try simp only [Act.put, List.setIfInBounds_toArray, List.set_cons_zero, List.set_cons_succ]
                refine wpAnyH_take (i := 6) (oi := ⟨some 43, _, _, _, _, _⟩) (v := .pointer (some ⟨w.heap.size, 0, none⟩)) rfl (by kernel_rfl) (by kernel_rfl) (by kernel_rfl) (fun _ _ _ h => h) (.inl ⟨by kernel_rfl, fun W hW => by first | (obtain ⟨z0, z1, z2, z3, z4, z5⟩ := hW; go_simp; done) | (obtain ⟨z0, z1, z2, z3, z4, z5⟩ := hW; go_simp; omega) | (obtain ⟨z0, z1, z2, z3, z4, z5⟩ := hW; go_simp; exact IntWalk.i64_in _ (by omega)) | (obtain ⟨z0, z1, z2, z3, z4, z5⟩ := hW; go_simp; simp [*]; done)⟩) hSs ?_
                try simp only [Act.put, List.setIfInBounds_toArray, List.set_cons_zero, List.set_cons_succ]
                refine wpAnyH_take (i := 7) (oi := ⟨some 44, _, _, _, _, _⟩) (v := .int .i64 6) rfl (by kernel_rfl) (by kernel_rfl) (by kernel_rfl) (fun _ _ _ h => h) (.inl ⟨by kernel_rfl, fun W hW => by first | (obtain ⟨z0, z1, z2, z3, z4, z5⟩ := hW; go_simp; done) | (obtain ⟨z0, z1, z2, z3, z4, z5⟩ := hW; go_simp; omega) | (obtain ⟨z0, z1, z2, z3, z4, z5⟩ := hW; go_simp; exact IntWalk.i64_in _ (by omega)) | (obtain ⟨z0, z1, z2, z3, z4, z5⟩ := hW; go_simp; simp [*]; done)⟩) hSs ?_
                try simp only [Act.put, List.setIfInBounds_toArray, List.set_cons_zero, List.set_cons_succ]
                refine wpAnyH_take (i := 8) (oi := ⟨some 45, _, _, _, _, _⟩) (v := .bool false) rfl (by kernel_rfl) (by kernel_rfl) (by kernel_rfl) (fun _ _ _ h => h) (.inl ⟨by kernel_rfl, fun W hW => by first | (obtain ⟨z0, z1, z2, z3, z4, z5⟩ := hW; go_simp; done) | (obtain ⟨z0, z1, z2, z3, z4, z5⟩ := hW; go_simp; omega) | (obtain ⟨z0, z1, z2, z3, z4, z5⟩ := hW; go_simp; exact IntWalk.i64_in _ (by omega)) | (obtain ⟨z0, z1, z2, z3, z4, z5⟩ := hW; go_simp; simp [*]; done)⟩) hSs ?_
                try simp only [Act.put, List.setIfInBounds_toArray, List.set_cons_zero, List.set_cons_succ]
                refine wpAnyH_take (i := 9) (oi := ⟨some 46, _, _, _, _, _⟩) (v := .bool false) rfl (by kernel_rfl) (by kernel_rfl) (by kernel_rfl) (fun _ _ _ h => h) (.inl ⟨by kernel_rfl, fun W hW => by kernel_rfl⟩) hSs ?_
                try simp only [Act.put, List.setIfInBounds_toArray, List.set_cons_zero, List.set_cons_succ]
                refine wpAnyH_take (i := 10) (oi := ⟨some 47, _, _, _, _, _⟩) (v := undef) rfl (by kernel_rfl) (by kernel_rfl) (by kernel_rfl) (fun _ _ _ h => h) (.inr ⟨by kernel_rfl, rfl⟩) hSs ?_
                try simp only [Act.put, List.setIfInBounds_toArray, List.set_cons_zero, List.set_cons_succ]
                refine wpAnyH_take (i := 11) (oi := ⟨some 48, _, _, _, _, _⟩) (v := undef) rfl (by kernel_rfl) (by kernel_rfl) (by kernel_rfl) (fun _ _ _ h => h) (.inr ⟨by kernel_rfl, rfl⟩) hSs ?_
                try simp only [Act.put, List.setIfInBounds_toArray, List.set_cons_zero, List.set_cons_succ]
                refine wpAnyH_take (i := 12) (oi := ⟨some 49, _, _, _, _, _⟩) (v := .bool false) rfl (by kernel_rfl) (by kernel_rfl) (by kernel_rfl) (fun _ _ _ h => h) (.inl ⟨by kernel_rfl, fun W hW => by kernel_rfl⟩) hSs ?_
                try simp only [Act.put, List.setIfInBounds_toArray, List.set_cons_zero, List.set_cons_succ]
                refine wpAnyH_ready (rs := [13]) (by kernel_rfl) (by simp) (AllReadyH.cons rfl (fun K hK => ?_) AllReadyH.nil)
                go_simp
                refine (HC.out _ (hb_1.drew) ).mono ?_
                rintro e u_2 ⟨rfl, hq_2⟩
                have hb_2 := (hb_1.drew).trans (hq_2.mono (hb_1.drew).size)
                refine hK.out _ _ (HSS.out _ hb_2) (fun hS_2 => ?_)
                clear hK K
                try simp only [Act.put, List.setIfInBounds_toArray, List.set_cons_zero, List.set_cons_succ]
                refine wpAnyH_take (i := 14) (oi := ⟨some 51, _, _, _, _, _⟩) (v := .bool true) rfl (by kernel_rfl) (by kernel_rfl) (by kernel_rfl) (fun _ _ _ h => h) (.inl ⟨by kernel_rfl, fun W hW => by kernel_rfl⟩) hS_2 ?_
                try simp only [Act.put, List.setIfInBounds_toArray, List.set_cons_zero, List.set_cons_succ]
                refine wpAnyH_done (by kernel_rfl) ?_ _
                have hbx := hb_2
                go_wp2_with fail
                go_ret
                exact ⟨ret_bool (by rw [HE.out, HQ.out, HS.out]; rfl), hbw.trans (hbx.mono hbs)⟩
              · rw [hq] at HC HS
                clear hq
                go_upto_region 10 with fail
                clear c0 c3 d0 d1 d2 d3
                have hb_1 : Below wr.heap.size wr wr := Below.refl _ _
                refine wp_region_held_drew (S := (fun V' : World => (V'.cell? ⟨w.heap.size, 0, none⟩ = some (.int .i64 6) ∧ V'.cell? ⟨w.heap.size, 3, none⟩ = some (.slice (some ⟨g, o, none⟩) m c) ∧ V'.cell? ⟨g, o + i * 4, none⟩ = some (.int .i64 tk) ∧ V'.cell? ⟨g, o + i * 4 + 1, none⟩ = some (.int .i64 tn) ∧ V'.cell? ⟨g, o + i * 4 + 2, none⟩ = some (.string ts) ∧ V'.cell? ⟨g, o + i * 4 + 3, none⟩ = some (.slice B tl.length (capF tl.length b))))) rfl (HSS.out _ hb_1.drew) (fun hSs => ?_)
                change wpAnyH _ _ _ _ _ 15 (Array.replicate 15 false) _ _
                refine wpAnyH_take (i := 0) (oi := ⟨some 37, _, _, _, _, _⟩) (v := .pointer (some ⟨w.heap.size, 3, none⟩)) rfl (by kernel_rfl) (by kernel_rfl) (by kernel_rfl) (fun _ _ _ h => h) (.inl ⟨by kernel_rfl, fun W hW => by first | (obtain ⟨z0, z1, z2, z3, z4, z5⟩ := hW; go_simp; done) | (obtain ⟨z0, z1, z2, z3, z4, z5⟩ := hW; go_simp; omega) | (obtain ⟨z0, z1, z2, z3, z4, z5⟩ := hW; go_simp; exact IntWalk.i64_in _ (by omega)) | (obtain ⟨z0, z1, z2, z3, z4, z5⟩ := hW; go_simp; simp [*]; done)⟩) hSs ?_
                try simp only [Act.put, List.setIfInBounds_toArray, List.set_cons_zero, List.set_cons_succ]
                refine wpAnyH_take (i := 1) (oi := ⟨some 38, _, _, _, _, _⟩) (v := .slice (some ⟨g, o, none⟩) m c) rfl (by kernel_rfl) (by kernel_rfl) (by kernel_rfl) (fun _ _ _ h => h) (.inl ⟨by kernel_rfl, fun W hW => by first | (obtain ⟨z0, z1, z2, z3, z4, z5⟩ := hW; go_simp; done) | (obtain ⟨z0, z1, z2, z3, z4, z5⟩ := hW; go_simp; omega) | (obtain ⟨z0, z1, z2, z3, z4, z5⟩ := hW; go_simp; exact IntWalk.i64_in _ (by omega)) | (obtain ⟨z0, z1, z2, z3, z4, z5⟩ := hW; go_simp; simp [*]; done)⟩) hSs ?_
                try simp only [Act.put, List.setIfInBounds_toArray, List.set_cons_zero, List.set_cons_succ]
                refine wpAnyH_take (i := 2) (oi := ⟨some 39, _, _, _, _, _⟩) (v := .int .i64 (i : Int)) rfl (by kernel_rfl) (by kernel_rfl) (by kernel_rfl) (fun _ _ _ h => h) (.inl ⟨by kernel_rfl, fun W hW => by kernel_rfl⟩) hSs ?_
                try simp only [Act.put, List.setIfInBounds_toArray, List.set_cons_zero, List.set_cons_succ]
                refine wpAnyH_take (i := 3) (oi := ⟨some 40, _, _, _, _, _⟩) (v := .pointer (some ⟨g, o + i * 4, none⟩)) rfl (by kernel_rfl) (by kernel_rfl) (by kernel_rfl) (fun _ _ _ h => h) (.inl ⟨by kernel_rfl, fun W hW => by first | (obtain ⟨z0, z1, z2, z3, z4, z5⟩ := hW; go_simp; done) | (obtain ⟨z0, z1, z2, z3, z4, z5⟩ := hW; go_simp; omega) | (obtain ⟨z0, z1, z2, z3, z4, z5⟩ := hW; go_simp; exact IntWalk.i64_in _ (by omega)) | (obtain ⟨z0, z1, z2, z3, z4, z5⟩ := hW; go_simp; simp [*]; done)⟩) hSs ?_
                try simp only [Act.put, List.setIfInBounds_toArray, List.set_cons_zero, List.set_cons_succ]
                refine wpAnyH_take (i := 4) (oi := ⟨some 41, _, _, _, _, _⟩) (v := .agg #[.int .i64 tk, .int .i64 tn, .string ts, .slice B tl.length (capF tl.length b)]) rfl (by kernel_rfl) (by kernel_rfl) (by kernel_rfl) (fun _ _ _ h => h) (.inl ⟨by kernel_rfl, fun W hW => by first | (obtain ⟨z0, z1, z2, z3, z4, z5⟩ := hW; go_simp; done) | (obtain ⟨z0, z1, z2, z3, z4, z5⟩ := hW; go_simp; omega) | (obtain ⟨z0, z1, z2, z3, z4, z5⟩ := hW; go_simp; exact IntWalk.i64_in _ (by omega)) | (obtain ⟨z0, z1, z2, z3, z4, z5⟩ := hW; go_simp; simp [*]; done)⟩) hSs ?_
                try simp only [Act.put, List.setIfInBounds_toArray, List.set_cons_zero, List.set_cons_succ]
                refine wpAnyH_take (i := 5) (oi := ⟨some 42, _, _, _, _, _⟩) (v := .int .i64 (free + n)) rfl (by kernel_rfl) (by kernel_rfl) (by kernel_rfl) (fun _ _ _ h => h) (.inl ⟨by kernel_rfl, fun W hW => by kernel_rfl⟩) hSs ?_
                try simp only [Act.put, List.setIfInBounds_toArray, List.set_cons_zero, List.set_cons_succ]
                refine wpAnyH_take (i := 6) (oi := ⟨some 43, _, _, _, _, _⟩) (v := .pointer (some ⟨w.heap.size, 0, none⟩)) rfl (by kernel_rfl) (by kernel_rfl) (by kernel_rfl) (fun _ _ _ h => h) (.inl ⟨by kernel_rfl, fun W hW => by first | (obtain ⟨z0, z1, z2, z3, z4, z5⟩ := hW; go_simp; done) | (obtain ⟨z0, z1, z2, z3, z4, z5⟩ := hW; go_simp; omega) | (obtain ⟨z0, z1, z2, z3, z4, z5⟩ := hW; go_simp; exact IntWalk.i64_in _ (by omega)) | (obtain ⟨z0, z1, z2, z3, z4, z5⟩ := hW; go_simp; simp [*]; done)⟩) hSs ?_
                try simp only [Act.put, List.setIfInBounds_toArray, List.set_cons_zero, List.set_cons_succ]
                refine wpAnyH_take (i := 7) (oi := ⟨some 44, _, _, _, _, _⟩) (v := .int .i64 6) rfl (by kernel_rfl) (by kernel_rfl) (by kernel_rfl) (fun _ _ _ h => h) (.inl ⟨by kernel_rfl, fun W hW => by first | (obtain ⟨z0, z1, z2, z3, z4, z5⟩ := hW; go_simp; done) | (obtain ⟨z0, z1, z2, z3, z4, z5⟩ := hW; go_simp; omega) | (obtain ⟨z0, z1, z2, z3, z4, z5⟩ := hW; go_simp; exact IntWalk.i64_in _ (by omega)) | (obtain ⟨z0, z1, z2, z3, z4, z5⟩ := hW; go_simp; simp [*]; done)⟩) hSs ?_
                try simp only [Act.put, List.setIfInBounds_toArray, List.set_cons_zero, List.set_cons_succ]
                refine wpAnyH_take (i := 8) (oi := ⟨some 45, _, _, _, _, _⟩) (v := .bool false) rfl (by kernel_rfl) (by kernel_rfl) (by kernel_rfl) (fun _ _ _ h => h) (.inl ⟨by kernel_rfl, fun W hW => by first | (obtain ⟨z0, z1, z2, z3, z4, z5⟩ := hW; go_simp; done) | (obtain ⟨z0, z1, z2, z3, z4, z5⟩ := hW; go_simp; omega) | (obtain ⟨z0, z1, z2, z3, z4, z5⟩ := hW; go_simp; exact IntWalk.i64_in _ (by omega)) | (obtain ⟨z0, z1, z2, z3, z4, z5⟩ := hW; go_simp; simp [*]; done)⟩) hSs ?_
                try simp only [Act.put, List.setIfInBounds_toArray, List.set_cons_zero, List.set_cons_succ]
                refine wpAnyH_take (i := 9) (oi := ⟨some 46, _, _, _, _, _⟩) (v := .bool false) rfl (by kernel_rfl) (by kernel_rfl) (by kernel_rfl) (fun _ _ _ h => h) (.inl ⟨by kernel_rfl, fun W hW => by kernel_rfl⟩) hSs ?_
                try simp only [Act.put, List.setIfInBounds_toArray, List.set_cons_zero, List.set_cons_succ]
                refine wpAnyH_take (i := 10) (oi := ⟨some 47, _, _, _, _, _⟩) (v := undef) rfl (by kernel_rfl) (by kernel_rfl) (by kernel_rfl) (fun _ _ _ h => h) (.inr ⟨by kernel_rfl, rfl⟩) hSs ?_
                try simp only [Act.put, List.setIfInBounds_toArray, List.set_cons_zero, List.set_cons_succ]
                refine wpAnyH_take (i := 11) (oi := ⟨some 48, _, _, _, _, _⟩) (v := undef) rfl (by kernel_rfl) (by kernel_rfl) (by kernel_rfl) (fun _ _ _ h => h) (.inr ⟨by kernel_rfl, rfl⟩) hSs ?_
                try simp only [Act.put, List.setIfInBounds_toArray, List.set_cons_zero, List.set_cons_succ]
                refine wpAnyH_take (i := 12) (oi := ⟨some 49, _, _, _, _, _⟩) (v := .bool false) rfl (by kernel_rfl) (by kernel_rfl) (by kernel_rfl) (fun _ _ _ h => h) (.inl ⟨by kernel_rfl, fun W hW => by kernel_rfl⟩) hSs ?_
                try simp only [Act.put, List.setIfInBounds_toArray, List.set_cons_zero, List.set_cons_succ]
                refine wpAnyH_ready (rs := [13]) (by kernel_rfl) (by simp) (AllReadyH.cons rfl (fun K hK => ?_) AllReadyH.nil)
                go_simp
                refine (HC.out _ (hb_1.drew) ).mono ?_
                rintro e u_2 ⟨rfl, hq_2⟩
                have hb_2 := (hb_1.drew).trans (hq_2.mono (hb_1.drew).size)
                refine hK.out _ _ (HSS.out _ hb_2) (fun hS_2 => ?_)
                clear hK K
                try simp only [Act.put, List.setIfInBounds_toArray, List.set_cons_zero, List.set_cons_succ]
                refine wpAnyH_take (i := 14) (oi := ⟨some 51, _, _, _, _, _⟩) (v := .bool false) rfl (by kernel_rfl) (by kernel_rfl) (by kernel_rfl) (fun _ _ _ h => h) (.inl ⟨by kernel_rfl, fun W hW => by kernel_rfl⟩) hS_2 ?_
                try simp only [Act.put, List.setIfInBounds_toArray, List.set_cons_zero, List.set_cons_succ]
                refine wpAnyH_done (by kernel_rfl) ?_ _
                have hbx := hb_2
                obtain ⟨wx, hwx⟩ : ∃ wx, wx = u_2 := ⟨_, rfl⟩
                rw [← hwx] at hbx ⊢
                clear hwx
                have hbw8 := hbw.trans (hbx.mono hbs)
                have L8 := L2.out.below hbx L2.out.lt
                have c08 := L8.cell 0
                have c38 := L8.cell 3
                simp at c08 c38
                go_wp2_with fail
                go_loopw [8] (fun x wr2 => x = .int .i64 1 ∧ Lies wr2 w.heap.size 24 #[.int .i64 6, .int .i64 n, .string s, .slice (some ⟨g, o, none⟩) m c] ∧ Below w.heap.size w wr2) (fun _ _ => 0)
                case atStart => exact ⟨rfl, L8, hbw8⟩
                case round =>
                  obtain ⟨rfl, L9, hbw9⟩ := hrel
                  have c09 := L9.cell 0
                  simp at c09
                  go_wp2_with fail
                  all_goals
                    go_roundw
                    case rel =>
                      refine ⟨i + 1, by omega, by go_num, ?_, L9, hbw9⟩
                      show _ = _
                      rw [HQ.out, HS.out, HT1.out]
                      simp
                    case measure => simp [intOf]; omega
            · go_wp2_with fail
              go_ret
              exact ⟨ret_bool (by rw [HE.out, HQ.out, List.drop_eq_nil_of_le (by omega), mayQL]), hbw⟩
        · have HE : Hid (U = mayQL 5 [] l free) := Lib.hid (by rw [hE]; simp [moreE])
          have HK5 : (5 : Int) = 5 := rfl
          clear hE h6
          go_enter Try.func20, Try.ntmps20
          go_wp2_with fail
          refine HH.out.mono ?_
          rintro e w1 ⟨rfl, hb1⟩
          have l1 := l0.below hb1 l0.lt
          have hbw1 := hb0.trans (hb1.mono hb0.size)
          have k0 := l1.cell 0
          have k1 := l1.cell 1
          simp at k0 k1
          go_wp2_with fail
          go_loopw [7] (fun x wr => ∃ i : Nat, i ≤ m ∧ x = .int .i64 i ∧ Hid (mayQL 5 [] l (free) = mayQL 5 (l.take i) (l.drop i) (free)) ∧ Lies wr w.heap.size 24 #[.int .i64 5, .int .i64 n, .string s, .slice A m c] ∧ Below w.heap.size w wr) (fun x _ => m - (intOf x).toNat)
          case atStart => exact ⟨0, by omega, rfl, by exact rfl, l1, hbw1⟩
          case round =>
            obtain ⟨i, hi, rfl, HQ, l2, hbw⟩ := hrel
            have hbs := hbw.size
            have c0 := l2.cell 0
            have c3 := l2.cell 3
            simp at c0 c3
            by_cases hlt : i < m
            · have hia : i < l.length := by omega
              obtain ⟨g, o, B, b, ⟨hA, _⟩, d0, d1, d2, d3, hIn⟩ := EIn.part (EIn.below _ HI.out hbw (Nat.le_refl _)) i hia
              subst hA
              have hm5 := depthEL_mem l (l[i]'hia) (List.getElem_mem hia)
              simp only [Te.parts] at d0 d1 d2 d3 hIn
              by_cases hi0 : i < 1
              · have hi9 : ¬ (0 : Int) < (i : Int) := by omega
                have HD0 : Hid (∀ X, dupAt ((l.take i).drop 1) X = false) := Lib.hid fun X => by rw [List.drop_eq_nil_of_le (by simp; omega)]; rfl
                have hi8 : decide ((0 : Int) < (i : Int)) = false := decide_eq_false hi9
                have HT1 : Hid (l.take (i + 1) = l.take i ++ [l[i]'hia]) := Lib.hid (List.take_succ_eq_append_getElem hia)
                have HS : Hid (mayQL 5 (l.take i) (l.drop i) (free) = (mayQ (l[i]'hia) (free) false && ((!true || !dupAt ((l.take i).drop 1) (l[i]'hia).name) && mayQL 5 (l.take i ++ [l[i]'hia]) (l.drop (i + 1)) (free)))) := by
                  refine Lib.hid ?_
                  have e1 : (decide ((5 : Int) = 5) && decide (0 < (l.take i).length)) = false := by simp; omega
                  have e2 : decide ((5 : Int) = 5) = true := by simp
                  rw [List.drop_eq_getElem_cons hia, mayQL, e1, e2]
                obtain ⟨tr, hu⟩ : ∃ tr, tr = l[i]'hia := ⟨_, rfl⟩
                have HTI : Hid (l[i]'hia = tr) := Lib.hid hu.symm
                rw [← hu] at d0 d1 d2 d3 hIn HS hm5 HT1
                clear hu
                obtain ⟨tk, tn, ts, tl⟩ := tr
                simp only [Te.kind, Te.n, Te.name] at d0 d1 d2 d3 HS
                have HC : Hid (∀ X, Below wr.heap.size wr X → Calls Try.prog 20 #[.agg #[.int .i64 tk, .int .i64 tn, .string ts, .slice B tl.length (capF tl.length b)], .int .i64 free, .bool false] X fun e w' => e = .returned (.bool (mayQ (.node tk tn ts tl) (free) false)) ∧ Below X.heap.size X w') := Lib.hid fun X hX =>
                  ih (.node tk tn ts tl) B b free false X (by omega) (by omega) (by omega) (by omega) (EIn.below _ hIn hX (Nat.le_refl _))
                have hgl := cell_lt d0
                have HSS : Hid (∀ V', Below wr.heap.size wr V' → (fun V' : World => (V'.cell? ⟨w.heap.size, 0, none⟩ = some (.int .i64 5) ∧ V'.cell? ⟨w.heap.size, 3, none⟩ = some (.slice (some ⟨g, o, none⟩) m c) ∧ V'.cell? ⟨g, o + i * 4, none⟩ = some (.int .i64 tk) ∧ V'.cell? ⟨g, o + i * 4 + 1, none⟩ = some (.int .i64 tn) ∧ V'.cell? ⟨g, o + i * 4 + 2, none⟩ = some (.string ts) ∧ V'.cell? ⟨g, o + i * 4 + 3, none⟩ = some (.slice B tl.length (capF tl.length b)))) V') := Lib.hid fun V' h =>
                  ⟨(h.cell (p := ⟨w.heap.size, 0, none⟩) l2.lt).trans c0, (h.cell (p := ⟨w.heap.size, 3, none⟩) l2.lt).trans c3, (h.cell (p := ⟨g, _, none⟩) hgl).trans d0, (h.cell (p := ⟨g, _, none⟩) hgl).trans d1, (h.cell (p := ⟨g, _, none⟩) hgl).trans d2, (h.cell (p := ⟨g, _, none⟩) hgl).trans d3⟩
                have L2 := Lib.hid l2
                clear l2 hIn
                cases hq : mayQ (.node tk tn ts tl) (free) false
                · rw [hq] at HC HS
                  clear hq
                  go_upto_region 10 with fail
                  clear c0 c3 d0 d1 d2 d3
                  have hb_1 : Below wr.heap.size wr wr := Below.refl _ _
                  refine wp_region_held_drew (S := (fun V' : World => (V'.cell? ⟨w.heap.size, 0, none⟩ = some (.int .i64 5) ∧ V'.cell? ⟨w.heap.size, 3, none⟩ = some (.slice (some ⟨g, o, none⟩) m c) ∧ V'.cell? ⟨g, o + i * 4, none⟩ = some (.int .i64 tk) ∧ V'.cell? ⟨g, o + i * 4 + 1, none⟩ = some (.int .i64 tn) ∧ V'.cell? ⟨g, o + i * 4 + 2, none⟩ = some (.string ts) ∧ V'.cell? ⟨g, o + i * 4 + 3, none⟩ = some (.slice B tl.length (capF tl.length b))))) rfl (HSS.out _ hb_1.drew) (fun hSs => ?_)
                  change wpAnyH _ _ _ _ _ 15 (Array.replicate 15 false) _ _
                  refine wpAnyH_take (i := 0) (oi := ⟨some 37, _, _, _, _, _⟩) (v := .pointer (some ⟨w.heap.size, 3, none⟩)) rfl (by kernel_rfl) (by kernel_rfl) (by kernel_rfl) (fun _ _ _ h => h) (.inl ⟨by kernel_rfl, fun W hW => by first | (obtain ⟨z0, z1, z2, z3, z4, z5⟩ := hW; go_simp; done) | (obtain ⟨z0, z1, z2, z3, z4, z5⟩ := hW; go_simp; omega) | (obtain ⟨z0, z1, z2, z3, z4, z5⟩ := hW; go_simp; exact IntWalk.i64_in _ (by omega)) | (obtain ⟨z0, z1, z2, z3, z4, z5⟩ := hW; go_simp; simp [*]; done)⟩) hSs ?_
                  try simp only [Act.put, List.setIfInBounds_toArray, List.set_cons_zero, List.set_cons_succ]
                  refine wpAnyH_take (i := 1) (oi := ⟨some 38, _, _, _, _, _⟩) (v := .slice (some ⟨g, o, none⟩) m c) rfl (by kernel_rfl) (by kernel_rfl) (by kernel_rfl) (fun _ _ _ h => h) (.inl ⟨by kernel_rfl, fun W hW => by first | (obtain ⟨z0, z1, z2, z3, z4, z5⟩ := hW; go_simp; done) | (obtain ⟨z0, z1, z2, z3, z4, z5⟩ := hW; go_simp; omega) | (obtain ⟨z0, z1, z2, z3, z4, z5⟩ := hW; go_simp; exact IntWalk.i64_in _ (by omega)) | (obtain ⟨z0, z1, z2, z3, z4, z5⟩ := hW; go_simp; simp [*]; done)⟩) hSs ?_
                  try simp only [Act.put, List.setIfInBounds_toArray, List.set_cons_zero, List.set_cons_succ]
                  refine wpAnyH_take (i := 2) (oi := ⟨some 39, _, _, _, _, _⟩) (v := .int .i64 (i : Int)) rfl (by kernel_rfl) (by kernel_rfl) (by kernel_rfl) (fun _ _ _ h => h) (.inl ⟨by kernel_rfl, fun W hW => by kernel_rfl⟩) hSs ?_
                  try simp only [Act.put, List.setIfInBounds_toArray, List.set_cons_zero, List.set_cons_succ]
                  refine wpAnyH_take (i := 3) (oi := ⟨some 40, _, _, _, _, _⟩) (v := .pointer (some ⟨g, o + i * 4, none⟩)) rfl (by kernel_rfl) (by kernel_rfl) (by kernel_rfl) (fun _ _ _ h => h) (.inl ⟨by kernel_rfl, fun W hW => by first | (obtain ⟨z0, z1, z2, z3, z4, z5⟩ := hW; go_simp; done) | (obtain ⟨z0, z1, z2, z3, z4, z5⟩ := hW; go_simp; omega) | (obtain ⟨z0, z1, z2, z3, z4, z5⟩ := hW; go_simp; exact IntWalk.i64_in _ (by omega)) | (obtain ⟨z0, z1, z2, z3, z4, z5⟩ := hW; go_simp; simp [*]; done)⟩) hSs ?_
                  try simp only [Act.put, List.setIfInBounds_toArray, List.set_cons_zero, List.set_cons_succ]
                  refine wpAnyH_take (i := 4) (oi := ⟨some 41, _, _, _, _, _⟩) (v := .agg #[.int .i64 tk, .int .i64 tn, .string ts, .slice B tl.length (capF tl.length b)]) rfl (by kernel_rfl) (by kernel_rfl) (by kernel_rfl) (fun _ _ _ h => h) (.inl ⟨by kernel_rfl, fun W hW => by first | (obtain ⟨z0, z1, z2, z3, z4, z5⟩ := hW; go_simp; done) | (obtain ⟨z0, z1, z2, z3, z4, z5⟩ := hW; go_simp; omega) | (obtain ⟨z0, z1, z2, z3, z4, z5⟩ := hW; go_simp; exact IntWalk.i64_in _ (by omega)) | (obtain ⟨z0, z1, z2, z3, z4, z5⟩ := hW; go_simp; simp [*]; done)⟩) hSs ?_
                  try simp only [Act.put, List.setIfInBounds_toArray, List.set_cons_zero, List.set_cons_succ]
                  refine wpAnyH_take (i := 5) (oi := ⟨some 42, _, _, _, _, _⟩) (v := .int .i64 free) rfl (by kernel_rfl) (by kernel_rfl) (by kernel_rfl) (fun _ _ _ h => h) (.inl ⟨by kernel_rfl, fun W hW => by kernel_rfl⟩) hSs ?_
                  try simp only [Act.put, List.setIfInBounds_toArray, List.set_cons_zero, List.set_cons_succ]
                  refine wpAnyH_take (i := 6) (oi := ⟨some 43, _, _, _, _, _⟩) (v := .pointer (some ⟨w.heap.size, 0, none⟩)) rfl (by kernel_rfl) (by kernel_rfl) (by kernel_rfl) (fun _ _ _ h => h) (.inl ⟨by kernel_rfl, fun W hW => by first | (obtain ⟨z0, z1, z2, z3, z4, z5⟩ := hW; go_simp; done) | (obtain ⟨z0, z1, z2, z3, z4, z5⟩ := hW; go_simp; omega) | (obtain ⟨z0, z1, z2, z3, z4, z5⟩ := hW; go_simp; exact IntWalk.i64_in _ (by omega)) | (obtain ⟨z0, z1, z2, z3, z4, z5⟩ := hW; go_simp; simp [*]; done)⟩) hSs ?_
                  try simp only [Act.put, List.setIfInBounds_toArray, List.set_cons_zero, List.set_cons_succ]
                  refine wpAnyH_take (i := 7) (oi := ⟨some 44, _, _, _, _, _⟩) (v := .int .i64 5) rfl (by kernel_rfl) (by kernel_rfl) (by kernel_rfl) (fun _ _ _ h => h) (.inl ⟨by kernel_rfl, fun W hW => by first | (obtain ⟨z0, z1, z2, z3, z4, z5⟩ := hW; go_simp; done) | (obtain ⟨z0, z1, z2, z3, z4, z5⟩ := hW; go_simp; omega) | (obtain ⟨z0, z1, z2, z3, z4, z5⟩ := hW; go_simp; exact IntWalk.i64_in _ (by omega)) | (obtain ⟨z0, z1, z2, z3, z4, z5⟩ := hW; go_simp; simp [*]; done)⟩) hSs ?_
                  try simp only [Act.put, List.setIfInBounds_toArray, List.set_cons_zero, List.set_cons_succ]
                  refine wpAnyH_take (i := 8) (oi := ⟨some 45, _, _, _, _, _⟩) (v := .bool true) rfl (by kernel_rfl) (by kernel_rfl) (by kernel_rfl) (fun _ _ _ h => h) (.inl ⟨by kernel_rfl, fun W hW => by first | (obtain ⟨z0, z1, z2, z3, z4, z5⟩ := hW; go_simp; done) | (obtain ⟨z0, z1, z2, z3, z4, z5⟩ := hW; go_simp; omega) | (obtain ⟨z0, z1, z2, z3, z4, z5⟩ := hW; go_simp; exact IntWalk.i64_in _ (by omega)) | (obtain ⟨z0, z1, z2, z3, z4, z5⟩ := hW; go_simp; simp [*]; done)⟩) hSs ?_
                  try simp only [Act.put, List.setIfInBounds_toArray, List.set_cons_zero, List.set_cons_succ]
                  refine wpAnyH_take (i := 9) (oi := ⟨some 46, _, _, _, _, _⟩) (v := .bool true) rfl (by kernel_rfl) (by kernel_rfl) (by kernel_rfl) (fun _ _ _ h => h) (.inl ⟨by kernel_rfl, fun W hW => by kernel_rfl⟩) hSs ?_
                  try simp only [Act.put, List.setIfInBounds_toArray, List.set_cons_zero, List.set_cons_succ]
                  refine wpAnyH_take (i := 10) (oi := ⟨some 47, _, _, _, _, _⟩) (v := .int .i64 (i : Int)) rfl (by kernel_rfl) (by kernel_rfl) (by kernel_rfl) (fun _ _ _ h => h) (.inl ⟨by kernel_rfl, fun W hW => by kernel_rfl⟩) hSs ?_
                  try simp only [Act.put, List.setIfInBounds_toArray, List.set_cons_zero, List.set_cons_succ]
                  refine wpAnyH_take (i := 11) (oi := ⟨some 48, _, _, _, _, _⟩) (v := .bool false) rfl (by kernel_rfl) (by kernel_rfl) (by kernel_rfl) (fun _ _ _ h => h) (.inl ⟨by kernel_rfl, fun W hW => by first | (obtain ⟨z0, z1, z2, z3, z4, z5⟩ := hW; go_simp; done) | (obtain ⟨z0, z1, z2, z3, z4, z5⟩ := hW; go_simp; omega) | (obtain ⟨z0, z1, z2, z3, z4, z5⟩ := hW; go_simp; exact IntWalk.i64_in _ (by omega)) | (obtain ⟨z0, z1, z2, z3, z4, z5⟩ := hW; go_simp; simp [*]; done)⟩) hSs ?_
                  try simp only [Act.put, List.setIfInBounds_toArray, List.set_cons_zero, List.set_cons_succ]
                  refine wpAnyH_take (i := 12) (oi := ⟨some 49, _, _, _, _, _⟩) (v := .bool false) rfl (by kernel_rfl) (by kernel_rfl) (by kernel_rfl) (fun _ _ _ h => h) (.inl ⟨by kernel_rfl, fun W hW => by kernel_rfl⟩) hSs ?_
                  try simp only [Act.put, List.setIfInBounds_toArray, List.set_cons_zero, List.set_cons_succ]
                  refine wpAnyH_ready (rs := [13]) (by kernel_rfl) (by simp) (AllReadyH.cons rfl (fun K hK => ?_) AllReadyH.nil)
                  go_simp
                  refine (HC.out _ (hb_1.drew) ).mono ?_
                  rintro e u_2 ⟨rfl, hq_2⟩
                  have hb_2 := (hb_1.drew).trans (hq_2.mono (hb_1.drew).size)
                  refine hK.out _ _ (HSS.out _ hb_2) (fun hS_2 => ?_)
                  clear hK K
                  try simp only [Act.put, List.setIfInBounds_toArray, List.set_cons_zero, List.set_cons_succ]
                  refine wpAnyH_take (i := 14) (oi := ⟨some 51, _, _, _, _, _⟩) (v := .bool true) rfl (by kernel_rfl) (by kernel_rfl) (by kernel_rfl) (fun _ _ _ h => h) (.inl ⟨by kernel_rfl, fun W hW => by kernel_rfl⟩) hS_2 ?_
                  try simp only [Act.put, List.setIfInBounds_toArray, List.set_cons_zero, List.set_cons_succ]
                  refine wpAnyH_done (by kernel_rfl) ?_ _
                  have hbx := hb_2
                  go_wp2_with fail
                  go_ret
                  exact ⟨ret_bool (by rw [HE.out, HQ.out, HS.out]; rfl), hbw.trans (hbx.mono hbs)⟩
                · rw [hq] at HC HS
                  clear hq
                  go_upto_region 10 with fail
                  clear c0 c3 d0 d1 d2 d3
                  have hb_1 : Below wr.heap.size wr wr := Below.refl _ _
                  refine wp_region_held_drew (S := (fun V' : World => (V'.cell? ⟨w.heap.size, 0, none⟩ = some (.int .i64 5) ∧ V'.cell? ⟨w.heap.size, 3, none⟩ = some (.slice (some ⟨g, o, none⟩) m c) ∧ V'.cell? ⟨g, o + i * 4, none⟩ = some (.int .i64 tk) ∧ V'.cell? ⟨g, o + i * 4 + 1, none⟩ = some (.int .i64 tn) ∧ V'.cell? ⟨g, o + i * 4 + 2, none⟩ = some (.string ts) ∧ V'.cell? ⟨g, o + i * 4 + 3, none⟩ = some (.slice B tl.length (capF tl.length b))))) rfl (HSS.out _ hb_1.drew) (fun hSs => ?_)
                  change wpAnyH _ _ _ _ _ 15 (Array.replicate 15 false) _ _
                  refine wpAnyH_take (i := 0) (oi := ⟨some 37, _, _, _, _, _⟩) (v := .pointer (some ⟨w.heap.size, 3, none⟩)) rfl (by kernel_rfl) (by kernel_rfl) (by kernel_rfl) (fun _ _ _ h => h) (.inl ⟨by kernel_rfl, fun W hW => by first | (obtain ⟨z0, z1, z2, z3, z4, z5⟩ := hW; go_simp; done) | (obtain ⟨z0, z1, z2, z3, z4, z5⟩ := hW; go_simp; omega) | (obtain ⟨z0, z1, z2, z3, z4, z5⟩ := hW; go_simp; exact IntWalk.i64_in _ (by omega)) | (obtain ⟨z0, z1, z2, z3, z4, z5⟩ := hW; go_simp; simp [*]; done)⟩) hSs ?_
                  try simp only [Act.put, List.setIfInBounds_toArray, List.set_cons_zero, List.set_cons_succ]
                  refine wpAnyH_take (i := 1) (oi := ⟨some 38, _, _, _, _, _⟩) (v := .slice (some ⟨g, o, none⟩) m c) rfl (by kernel_rfl) (by kernel_rfl) (by kernel_rfl) (fun _ _ _ h => h) (.inl ⟨by kernel_rfl, fun W hW => by first | (obtain ⟨z0, z1, z2, z3, z4, z5⟩ := hW; go_simp; done) | (obtain ⟨z0, z1, z2, z3, z4, z5⟩ := hW; go_simp; omega) | (obtain ⟨z0, z1, z2, z3, z4, z5⟩ := hW; go_simp; exact IntWalk.i64_in _ (by omega)) | (obtain ⟨z0, z1, z2, z3, z4, z5⟩ := hW; go_simp; simp [*]; done)⟩) hSs ?_
                  try simp only [Act.put, List.setIfInBounds_toArray, List.set_cons_zero, List.set_cons_succ]
                  refine wpAnyH_take (i := 2) (oi := ⟨some 39, _, _, _, _, _⟩) (v := .int .i64 (i : Int)) rfl (by kernel_rfl) (by kernel_rfl) (by kernel_rfl) (fun _ _ _ h => h) (.inl ⟨by kernel_rfl, fun W hW => by kernel_rfl⟩) hSs ?_
                  try simp only [Act.put, List.setIfInBounds_toArray, List.set_cons_zero, List.set_cons_succ]
                  refine wpAnyH_take (i := 3) (oi := ⟨some 40, _, _, _, _, _⟩) (v := .pointer (some ⟨g, o + i * 4, none⟩)) rfl (by kernel_rfl) (by kernel_rfl) (by kernel_rfl) (fun _ _ _ h => h) (.inl ⟨by kernel_rfl, fun W hW => by first | (obtain ⟨z0, z1, z2, z3, z4, z5⟩ := hW; go_simp; done) | (obtain ⟨z0, z1, z2, z3, z4, z5⟩ := hW; go_simp; omega) | (obtain ⟨z0, z1, z2, z3, z4, z5⟩ := hW; go_simp; exact IntWalk.i64_in _ (by omega)) | (obtain ⟨z0, z1, z2, z3, z4, z5⟩ := hW; go_simp; simp [*]; done)⟩) hSs ?_
                  try simp only [Act.put, List.setIfInBounds_toArray, List.set_cons_zero, List.set_cons_succ]
                  refine wpAnyH_take (i := 4) (oi := ⟨some 41, _, _, _, _, _⟩) (v := .agg #[.int .i64 tk, .int .i64 tn, .string ts, .slice B tl.length (capF tl.length b)]) rfl (by kernel_rfl) (by kernel_rfl) (by kernel_rfl) (fun _ _ _ h => h) (.inl ⟨by kernel_rfl, fun W hW => by first | (obtain ⟨z0, z1, z2, z3, z4, z5⟩ := hW; go_simp; done) | (obtain ⟨z0, z1, z2, z3, z4, z5⟩ := hW; go_simp; omega) | (obtain ⟨z0, z1, z2, z3, z4, z5⟩ := hW; go_simp; exact IntWalk.i64_in _ (by omega)) | (obtain ⟨z0, z1, z2, z3, z4, z5⟩ := hW; go_simp; simp [*]; done)⟩) hSs ?_
                  try simp only [Act.put, List.setIfInBounds_toArray, List.set_cons_zero, List.set_cons_succ]
                  refine wpAnyH_take (i := 5) (oi := ⟨some 42, _, _, _, _, _⟩) (v := .int .i64 free) rfl (by kernel_rfl) (by kernel_rfl) (by kernel_rfl) (fun _ _ _ h => h) (.inl ⟨by kernel_rfl, fun W hW => by kernel_rfl⟩) hSs ?_
                  try simp only [Act.put, List.setIfInBounds_toArray, List.set_cons_zero, List.set_cons_succ]
                  refine wpAnyH_take (i := 6) (oi := ⟨some 43, _, _, _, _, _⟩) (v := .pointer (some ⟨w.heap.size, 0, none⟩)) rfl (by kernel_rfl) (by kernel_rfl) (by kernel_rfl) (fun _ _ _ h => h) (.inl ⟨by kernel_rfl, fun W hW => by first | (obtain ⟨z0, z1, z2, z3, z4, z5⟩ := hW; go_simp; done) | (obtain ⟨z0, z1, z2, z3, z4, z5⟩ := hW; go_simp; omega) | (obtain ⟨z0, z1, z2, z3, z4, z5⟩ := hW; go_simp; exact IntWalk.i64_in _ (by omega)) | (obtain ⟨z0, z1, z2, z3, z4, z5⟩ := hW; go_simp; simp [*]; done)⟩) hSs ?_
                  try simp only [Act.put, List.setIfInBounds_toArray, List.set_cons_zero, List.set_cons_succ]
                  refine wpAnyH_take (i := 7) (oi := ⟨some 44, _, _, _, _, _⟩) (v := .int .i64 5) rfl (by kernel_rfl) (by kernel_rfl) (by kernel_rfl) (fun _ _ _ h => h) (.inl ⟨by kernel_rfl, fun W hW => by first | (obtain ⟨z0, z1, z2, z3, z4, z5⟩ := hW; go_simp; done) | (obtain ⟨z0, z1, z2, z3, z4, z5⟩ := hW; go_simp; omega) | (obtain ⟨z0, z1, z2, z3, z4, z5⟩ := hW; go_simp; exact IntWalk.i64_in _ (by omega)) | (obtain ⟨z0, z1, z2, z3, z4, z5⟩ := hW; go_simp; simp [*]; done)⟩) hSs ?_
                  try simp only [Act.put, List.setIfInBounds_toArray, List.set_cons_zero, List.set_cons_succ]
                  refine wpAnyH_take (i := 8) (oi := ⟨some 45, _, _, _, _, _⟩) (v := .bool true) rfl (by kernel_rfl) (by kernel_rfl) (by kernel_rfl) (fun _ _ _ h => h) (.inl ⟨by kernel_rfl, fun W hW => by first | (obtain ⟨z0, z1, z2, z3, z4, z5⟩ := hW; go_simp; done) | (obtain ⟨z0, z1, z2, z3, z4, z5⟩ := hW; go_simp; omega) | (obtain ⟨z0, z1, z2, z3, z4, z5⟩ := hW; go_simp; exact IntWalk.i64_in _ (by omega)) | (obtain ⟨z0, z1, z2, z3, z4, z5⟩ := hW; go_simp; simp [*]; done)⟩) hSs ?_
                  try simp only [Act.put, List.setIfInBounds_toArray, List.set_cons_zero, List.set_cons_succ]
                  refine wpAnyH_take (i := 9) (oi := ⟨some 46, _, _, _, _, _⟩) (v := .bool true) rfl (by kernel_rfl) (by kernel_rfl) (by kernel_rfl) (fun _ _ _ h => h) (.inl ⟨by kernel_rfl, fun W hW => by kernel_rfl⟩) hSs ?_
                  try simp only [Act.put, List.setIfInBounds_toArray, List.set_cons_zero, List.set_cons_succ]
                  refine wpAnyH_take (i := 10) (oi := ⟨some 47, _, _, _, _, _⟩) (v := .int .i64 (i : Int)) rfl (by kernel_rfl) (by kernel_rfl) (by kernel_rfl) (fun _ _ _ h => h) (.inl ⟨by kernel_rfl, fun W hW => by kernel_rfl⟩) hSs ?_
                  try simp only [Act.put, List.setIfInBounds_toArray, List.set_cons_zero, List.set_cons_succ]
                  refine wpAnyH_take (i := 11) (oi := ⟨some 48, _, _, _, _, _⟩) (v := .bool false) rfl (by kernel_rfl) (by kernel_rfl) (by kernel_rfl) (fun _ _ _ h => h) (.inl ⟨by kernel_rfl, fun W hW => by first | (obtain ⟨z0, z1, z2, z3, z4, z5⟩ := hW; go_simp; done) | (obtain ⟨z0, z1, z2, z3, z4, z5⟩ := hW; go_simp; omega) | (obtain ⟨z0, z1, z2, z3, z4, z5⟩ := hW; go_simp; exact IntWalk.i64_in _ (by omega)) | (obtain ⟨z0, z1, z2, z3, z4, z5⟩ := hW; go_simp; simp [*]; done)⟩) hSs ?_
                  try simp only [Act.put, List.setIfInBounds_toArray, List.set_cons_zero, List.set_cons_succ]
                  refine wpAnyH_take (i := 12) (oi := ⟨some 49, _, _, _, _, _⟩) (v := .bool false) rfl (by kernel_rfl) (by kernel_rfl) (by kernel_rfl) (fun _ _ _ h => h) (.inl ⟨by kernel_rfl, fun W hW => by kernel_rfl⟩) hSs ?_
                  try simp only [Act.put, List.setIfInBounds_toArray, List.set_cons_zero, List.set_cons_succ]
                  refine wpAnyH_ready (rs := [13]) (by kernel_rfl) (by simp) (AllReadyH.cons rfl (fun K hK => ?_) AllReadyH.nil)
                  go_simp
                  refine (HC.out _ (hb_1.drew) ).mono ?_
                  rintro e u_2 ⟨rfl, hq_2⟩
                  have hb_2 := (hb_1.drew).trans (hq_2.mono (hb_1.drew).size)
                  refine hK.out _ _ (HSS.out _ hb_2) (fun hS_2 => ?_)
                  clear hK K
                  try simp only [Act.put, List.setIfInBounds_toArray, List.set_cons_zero, List.set_cons_succ]
                  refine wpAnyH_take (i := 14) (oi := ⟨some 51, _, _, _, _, _⟩) (v := .bool false) rfl (by kernel_rfl) (by kernel_rfl) (by kernel_rfl) (fun _ _ _ h => h) (.inl ⟨by kernel_rfl, fun W hW => by kernel_rfl⟩) hS_2 ?_
                  try simp only [Act.put, List.setIfInBounds_toArray, List.set_cons_zero, List.set_cons_succ]
                  refine wpAnyH_done (by kernel_rfl) ?_ _
                  have hbx := hb_2
                  obtain ⟨wx, hwx⟩ : ∃ wx, wx = u_2 := ⟨_, rfl⟩
                  rw [← hwx] at hbx ⊢
                  clear hwx
                  have hbw8 := hbw.trans (hbx.mono hbs)
                  have L8 := L2.out.below hbx L2.out.lt
                  have c08 := L8.cell 0
                  have c38 := L8.cell 3
                  simp at c08 c38
                  go_wp2_with fail
                  go_loopw [8] (fun x wr2 => x = .int .i64 1 ∧ Lies wr2 w.heap.size 24 #[.int .i64 5, .int .i64 n, .string s, .slice (some ⟨g, o, none⟩) m c] ∧ Below w.heap.size w wr2) (fun _ _ => 0)
                  case atStart => exact ⟨rfl, L8, hbw8⟩
                  case round =>
                    obtain ⟨rfl, L9, hbw9⟩ := hrel
                    have c09 := L9.cell 0
                    simp at c09
                    go_wp2_with fail
                    all_goals
                      go_roundw
                      case rel =>
                        refine ⟨i + 1, by omega, by go_num, ?_, L9, hbw9⟩
                        show _ = _
                        rw [HQ.out, HS.out, HT1.out, HD0.out]
                        simp
                      case measure => simp [intOf]; omega
              · have hi1 : 0 < i := by omega
                have hi9 : (0 : Int) < (i : Int) := by omega
                have HT1 : Hid (l.take (i + 1) = l.take i ++ [l[i]'hia]) := Lib.hid (List.take_succ_eq_append_getElem hia)
                have HS : Hid (mayQL 5 (l.take i) (l.drop i) (free) = (mayQ (l[i]'hia) (free) true && ((!true || !dupAt ((l.take i).drop 1) (l[i]'hia).name) && mayQL 5 (l.take i ++ [l[i]'hia]) (l.drop (i + 1)) (free)))) := by
                  refine Lib.hid ?_
                  have e1 : (decide ((5 : Int) = 5) && decide (0 < (l.take i).length)) = true := by simp; omega
                  have e2 : decide ((5 : Int) = 5) = true := by simp
                  rw [List.drop_eq_getElem_cons hia, mayQL, e1, e2]
                obtain ⟨tr, hu⟩ : ∃ tr, tr = l[i]'hia := ⟨_, rfl⟩
                have HTI : Hid (l[i]'hia = tr) := Lib.hid hu.symm
                rw [← hu] at d0 d1 d2 d3 hIn HS hm5 HT1
                clear hu
                obtain ⟨tk, tn, ts, tl⟩ := tr
                simp only [Te.kind, Te.n, Te.name] at d0 d1 d2 d3 HS
                have HC : Hid (∀ X, Below wr.heap.size wr X → Calls Try.prog 20 #[.agg #[.int .i64 tk, .int .i64 tn, .string ts, .slice B tl.length (capF tl.length b)], .int .i64 free, .bool true] X fun e w' => e = .returned (.bool (mayQ (.node tk tn ts tl) (free) true)) ∧ Below X.heap.size X w') := Lib.hid fun X hX =>
                  ih (.node tk tn ts tl) B b free true X (by omega) (by omega) (by omega) (by omega) (EIn.below _ hIn hX (Nat.le_refl _))
                have hgl := cell_lt d0
                have HSS : Hid (∀ V', Below wr.heap.size wr V' → (fun V' : World => (V'.cell? ⟨w.heap.size, 0, none⟩ = some (.int .i64 5) ∧ V'.cell? ⟨w.heap.size, 3, none⟩ = some (.slice (some ⟨g, o, none⟩) m c) ∧ V'.cell? ⟨g, o + i * 4, none⟩ = some (.int .i64 tk) ∧ V'.cell? ⟨g, o + i * 4 + 1, none⟩ = some (.int .i64 tn) ∧ V'.cell? ⟨g, o + i * 4 + 2, none⟩ = some (.string ts) ∧ V'.cell? ⟨g, o + i * 4 + 3, none⟩ = some (.slice B tl.length (capF tl.length b)))) V') := Lib.hid fun V' h =>
                  ⟨(h.cell (p := ⟨w.heap.size, 0, none⟩) l2.lt).trans c0, (h.cell (p := ⟨w.heap.size, 3, none⟩) l2.lt).trans c3, (h.cell (p := ⟨g, _, none⟩) hgl).trans d0, (h.cell (p := ⟨g, _, none⟩) hgl).trans d1, (h.cell (p := ⟨g, _, none⟩) hgl).trans d2, (h.cell (p := ⟨g, _, none⟩) hgl).trans d3⟩
                have L2 := Lib.hid l2
                clear l2 hIn
                cases hq : mayQ (.node tk tn ts tl) (free) true
                · rw [hq] at HC HS
                  clear hq
                  go_upto_region 10 with fail
                  clear c0 c3 d0 d1 d2 d3
                  have hb_1 : Below wr.heap.size wr wr := Below.refl _ _
                  refine wp_region_held_drew (S := (fun V' : World => (V'.cell? ⟨w.heap.size, 0, none⟩ = some (.int .i64 5) ∧ V'.cell? ⟨w.heap.size, 3, none⟩ = some (.slice (some ⟨g, o, none⟩) m c) ∧ V'.cell? ⟨g, o + i * 4, none⟩ = some (.int .i64 tk) ∧ V'.cell? ⟨g, o + i * 4 + 1, none⟩ = some (.int .i64 tn) ∧ V'.cell? ⟨g, o + i * 4 + 2, none⟩ = some (.string ts) ∧ V'.cell? ⟨g, o + i * 4 + 3, none⟩ = some (.slice B tl.length (capF tl.length b))))) rfl (HSS.out _ hb_1.drew) (fun hSs => ?_)
                  change wpAnyH _ _ _ _ _ 15 (Array.replicate 15 false) _ _
                  refine wpAnyH_take (i := 0) (oi := ⟨some 37, _, _, _, _, _⟩) (v := .pointer (some ⟨w.heap.size, 3, none⟩)) rfl (by kernel_rfl) (by kernel_rfl) (by kernel_rfl) (fun _ _ _ h => h) (.inl ⟨by kernel_rfl, fun W hW => by first | (obtain ⟨z0, z1, z2, z3, z4, z5⟩ := hW; go_simp; done) | (obtain ⟨z0, z1, z2, z3, z4, z5⟩ := hW; go_simp; omega) | (obtain ⟨z0, z1, z2, z3, z4, z5⟩ := hW; go_simp; exact IntWalk.i64_in _ (by omega)) | (obtain ⟨z0, z1, z2, z3, z4, z5⟩ := hW; go_simp; simp [*]; done)⟩) hSs ?_
                  try simp only [Act.put, List.setIfInBounds_toArray, List.set_cons_zero, List.set_cons_succ]
                  refine wpAnyH_take (i := 1) (oi := ⟨some 38, _, _, _, _, _⟩) (v := .slice (some ⟨g, o, none⟩) m c) rfl (by kernel_rfl) (by kernel_rfl) (by kernel_rfl) (fun _ _ _ h => h) (.inl ⟨by kernel_rfl, fun W hW => by first | (obtain ⟨z0, z1, z2, z3, z4, z5⟩ := hW; go_simp; done) | (obtain ⟨z0, z1, z2, z3, z4, z5⟩ := hW; go_simp; omega) | (obtain ⟨z0, z1, z2, z3, z4, z5⟩ := hW; go_simp; exact IntWalk.i64_in _ (by omega)) | (obtain ⟨z0, z1, z2, z3, z4, z5⟩ := hW; go_simp; simp [*]; done)⟩) hSs ?_
                  try simp only [Act.put, List.setIfInBounds_toArray, List.set_cons_zero, List.set_cons_succ]
                  refine wpAnyH_take (i := 2) (oi := ⟨some 39, _, _, _, _, _⟩) (v := .int .i64 (i : Int)) rfl (by kernel_rfl) (by kernel_rfl) (by kernel_rfl) (fun _ _ _ h => h) (.inl ⟨by kernel_rfl, fun W hW => by kernel_rfl⟩) hSs ?_
                  try simp only [Act.put, List.setIfInBounds_toArray, List.set_cons_zero, List.set_cons_succ]
                  refine wpAnyH_take (i := 3) (oi := ⟨some 40, _, _, _, _, _⟩) (v := .pointer (some ⟨g, o + i * 4, none⟩)) rfl (by kernel_rfl) (by kernel_rfl) (by kernel_rfl) (fun _ _ _ h => h) (.inl ⟨by kernel_rfl, fun W hW => by first | (obtain ⟨z0, z1, z2, z3, z4, z5⟩ := hW; go_simp; done) | (obtain ⟨z0, z1, z2, z3, z4, z5⟩ := hW; go_simp; omega) | (obtain ⟨z0, z1, z2, z3, z4, z5⟩ := hW; go_simp; exact IntWalk.i64_in _ (by omega)) | (obtain ⟨z0, z1, z2, z3, z4, z5⟩ := hW; go_simp; simp [*]; done)⟩) hSs ?_
                  try simp only [Act.put, List.setIfInBounds_toArray, List.set_cons_zero, List.set_cons_succ]
                  refine wpAnyH_take (i := 4) (oi := ⟨some 41, _, _, _, _, _⟩) (v := .agg #[.int .i64 tk, .int .i64 tn, .string ts, .slice B tl.length (capF tl.length b)]) rfl (by kernel_rfl) (by kernel_rfl) (by kernel_rfl) (fun _ _ _ h => h) (.inl ⟨by kernel_rfl, fun W hW => by first | (obtain ⟨z0, z1, z2, z3, z4, z5⟩ := hW; go_simp; done) | (obtain ⟨z0, z1, z2, z3, z4, z5⟩ := hW; go_simp; omega) | (obtain ⟨z0, z1, z2, z3, z4, z5⟩ := hW; go_simp; exact IntWalk.i64_in _ (by omega)) | (obtain ⟨z0, z1, z2, z3, z4, z5⟩ := hW; go_simp; simp [*]; done)⟩) hSs ?_
                  try simp only [Act.put, List.setIfInBounds_toArray, List.set_cons_zero, List.set_cons_succ]
                  refine wpAnyH_take (i := 5) (oi := ⟨some 42, _, _, _, _, _⟩) (v := .int .i64 free) rfl (by kernel_rfl) (by kernel_rfl) (by kernel_rfl) (fun _ _ _ h => h) (.inl ⟨by kernel_rfl, fun W hW => by kernel_rfl⟩) hSs ?_
                  try simp only [Act.put, List.setIfInBounds_toArray, List.set_cons_zero, List.set_cons_succ]
                  refine wpAnyH_take (i := 6) (oi := ⟨some 43, _, _, _, _, _⟩) (v := .pointer (some ⟨w.heap.size, 0, none⟩)) rfl (by kernel_rfl) (by kernel_rfl) (by kernel_rfl) (fun _ _ _ h => h) (.inl ⟨by kernel_rfl, fun W hW => by first | (obtain ⟨z0, z1, z2, z3, z4, z5⟩ := hW; go_simp; done) | (obtain ⟨z0, z1, z2, z3, z4, z5⟩ := hW; go_simp; omega) | (obtain ⟨z0, z1, z2, z3, z4, z5⟩ := hW; go_simp; exact IntWalk.i64_in _ (by omega)) | (obtain ⟨z0, z1, z2, z3, z4, z5⟩ := hW; go_simp; simp [*]; done)⟩) hSs ?_
                  try simp only [Act.put, List.setIfInBounds_toArray, List.set_cons_zero, List.set_cons_succ]
                  refine wpAnyH_take (i := 7) (oi := ⟨some 44, _, _, _, _, _⟩) (v := .int .i64 5) rfl (by kernel_rfl) (by kernel_rfl) (by kernel_rfl) (fun _ _ _ h => h) (.inl ⟨by kernel_rfl, fun W hW => by first | (obtain ⟨z0, z1, z2, z3, z4, z5⟩ := hW; go_simp; done) | (obtain ⟨z0, z1, z2, z3, z4, z5⟩ := hW; go_simp; omega) | (obtain ⟨z0, z1, z2, z3, z4, z5⟩ := hW; go_simp; exact IntWalk.i64_in _ (by omega)) | (obtain ⟨z0, z1, z2, z3, z4, z5⟩ := hW; go_simp; simp [*]; done)⟩) hSs ?_
                  try simp only [Act.put, List.setIfInBounds_toArray, List.set_cons_zero, List.set_cons_succ]
                  refine wpAnyH_take (i := 8) (oi := ⟨some 45, _, _, _, _, _⟩) (v := .bool true) rfl (by kernel_rfl) (by kernel_rfl) (by kernel_rfl) (fun _ _ _ h => h) (.inl ⟨by kernel_rfl, fun W hW => by first | (obtain ⟨z0, z1, z2, z3, z4, z5⟩ := hW; go_simp; done) | (obtain ⟨z0, z1, z2, z3, z4, z5⟩ := hW; go_simp; omega) | (obtain ⟨z0, z1, z2, z3, z4, z5⟩ := hW; go_simp; exact IntWalk.i64_in _ (by omega)) | (obtain ⟨z0, z1, z2, z3, z4, z5⟩ := hW; go_simp; simp [*]; done)⟩) hSs ?_
                  try simp only [Act.put, List.setIfInBounds_toArray, List.set_cons_zero, List.set_cons_succ]
                  refine wpAnyH_take (i := 9) (oi := ⟨some 46, _, _, _, _, _⟩) (v := .bool true) rfl (by kernel_rfl) (by kernel_rfl) (by kernel_rfl) (fun _ _ _ h => h) (.inl ⟨by kernel_rfl, fun W hW => by kernel_rfl⟩) hSs ?_
                  try simp only [Act.put, List.setIfInBounds_toArray, List.set_cons_zero, List.set_cons_succ]
                  refine wpAnyH_take (i := 10) (oi := ⟨some 47, _, _, _, _, _⟩) (v := .int .i64 (i : Int)) rfl (by kernel_rfl) (by kernel_rfl) (by kernel_rfl) (fun _ _ _ h => h) (.inl ⟨by kernel_rfl, fun W hW => by kernel_rfl⟩) hSs ?_
                  try simp only [Act.put, List.setIfInBounds_toArray, List.set_cons_zero, List.set_cons_succ]
                  refine wpAnyH_take (i := 11) (oi := ⟨some 48, _, _, _, _, _⟩) (v := .bool true) rfl (by kernel_rfl) (by kernel_rfl) (by kernel_rfl) (fun _ _ _ h => h) (.inl ⟨by kernel_rfl, fun W hW => by first | (obtain ⟨z0, z1, z2, z3, z4, z5⟩ := hW; go_simp; done) | (obtain ⟨z0, z1, z2, z3, z4, z5⟩ := hW; go_simp; omega) | (obtain ⟨z0, z1, z2, z3, z4, z5⟩ := hW; go_simp; exact IntWalk.i64_in _ (by omega)) | (obtain ⟨z0, z1, z2, z3, z4, z5⟩ := hW; go_simp; simp [*]; done)⟩) hSs ?_
                  try simp only [Act.put, List.setIfInBounds_toArray, List.set_cons_zero, List.set_cons_succ]
                  refine wpAnyH_take (i := 12) (oi := ⟨some 49, _, _, _, _, _⟩) (v := .bool true) rfl (by kernel_rfl) (by kernel_rfl) (by kernel_rfl) (fun _ _ _ h => h) (.inl ⟨by kernel_rfl, fun W hW => by kernel_rfl⟩) hSs ?_
                  try simp only [Act.put, List.setIfInBounds_toArray, List.set_cons_zero, List.set_cons_succ]
                  refine wpAnyH_ready (rs := [13]) (by kernel_rfl) (by simp) (AllReadyH.cons rfl (fun K hK => ?_) AllReadyH.nil)
                  go_simp
                  refine (HC.out _ (hb_1.drew) ).mono ?_
                  rintro e u_2 ⟨rfl, hq_2⟩
                  have hb_2 := (hb_1.drew).trans (hq_2.mono (hb_1.drew).size)
                  refine hK.out _ _ (HSS.out _ hb_2) (fun hS_2 => ?_)
                  clear hK K
                  try simp only [Act.put, List.setIfInBounds_toArray, List.set_cons_zero, List.set_cons_succ]
                  refine wpAnyH_take (i := 14) (oi := ⟨some 51, _, _, _, _, _⟩) (v := .bool true) rfl (by kernel_rfl) (by kernel_rfl) (by kernel_rfl) (fun _ _ _ h => h) (.inl ⟨by kernel_rfl, fun W hW => by kernel_rfl⟩) hS_2 ?_
                  try simp only [Act.put, List.setIfInBounds_toArray, List.set_cons_zero, List.set_cons_succ]
                  refine wpAnyH_done (by kernel_rfl) ?_ _
                  have hbx := hb_2
                  go_wp2_with fail
                  go_ret
                  exact ⟨ret_bool (by rw [HE.out, HQ.out, HS.out]; rfl), hbw.trans (hbx.mono hbs)⟩
                · rw [hq] at HC HS
                  clear hq
                  go_upto_region 10 with fail
                  clear c0 c3 d0 d1 d2 d3
                  have hb_1 : Below wr.heap.size wr wr := Below.refl _ _
                  refine wp_region_held_drew (S := (fun V' : World => (V'.cell? ⟨w.heap.size, 0, none⟩ = some (.int .i64 5) ∧ V'.cell? ⟨w.heap.size, 3, none⟩ = some (.slice (some ⟨g, o, none⟩) m c) ∧ V'.cell? ⟨g, o + i * 4, none⟩ = some (.int .i64 tk) ∧ V'.cell? ⟨g, o + i * 4 + 1, none⟩ = some (.int .i64 tn) ∧ V'.cell? ⟨g, o + i * 4 + 2, none⟩ = some (.string ts) ∧ V'.cell? ⟨g, o + i * 4 + 3, none⟩ = some (.slice B tl.length (capF tl.length b))))) rfl (HSS.out _ hb_1.drew) (fun hSs => ?_)
                  change wpAnyH _ _ _ _ _ 15 (Array.replicate 15 false) _ _
                  refine wpAnyH_take (i := 0) (oi := ⟨some 37, _, _, _, _, _⟩) (v := .pointer (some ⟨w.heap.size, 3, none⟩)) rfl (by kernel_rfl) (by kernel_rfl) (by kernel_rfl) (fun _ _ _ h => h) (.inl ⟨by kernel_rfl, fun W hW => by first | (obtain ⟨z0, z1, z2, z3, z4, z5⟩ := hW; go_simp; done) | (obtain ⟨z0, z1, z2, z3, z4, z5⟩ := hW; go_simp; omega) | (obtain ⟨z0, z1, z2, z3, z4, z5⟩ := hW; go_simp; exact IntWalk.i64_in _ (by omega)) | (obtain ⟨z0, z1, z2, z3, z4, z5⟩ := hW; go_simp; simp [*]; done)⟩) hSs ?_
                  try simp only [Act.put, List.setIfInBounds_toArray, List.set_cons_zero, List.set_cons_succ]
                  refine wpAnyH_take (i := 1) (oi := ⟨some 38, _, _, _, _, _⟩) (v := .slice (some ⟨g, o, none⟩) m c) rfl (by kernel_rfl) (by kernel_rfl) (by kernel_rfl) (fun _ _ _ h => h) (.inl ⟨by kernel_rfl, fun W hW => by first | (obtain ⟨z0, z1, z2, z3, z4, z5⟩ := hW; go_simp; done) | (obtain ⟨z0, z1, z2, z3, z4, z5⟩ := hW; go_simp; omega) | (obtain ⟨z0, z1, z2, z3, z4, z5⟩ := hW; go_simp; exact IntWalk.i64_in _ (by omega)) | (obtain ⟨z0, z1, z2, z3, z4, z5⟩ := hW; go_simp; simp [*]; done)⟩) hSs ?_
                  try simp only [Act.put, List.setIfInBounds_toArray, List.set_cons_zero, List.set_cons_succ]
                  refine wpAnyH_take (i := 2) (oi := ⟨some 39, _, _, _, _, _⟩) (v := .int .i64 (i : Int)) rfl (by kernel_rfl) (by kernel_rfl) (by kernel_rfl) (fun _ _ _ h => h) (.inl ⟨by kernel_rfl, fun W hW => by kernel_rfl⟩) hSs ?_
                  try simp only [Act.put, List.setIfInBounds_toArray, List.set_cons_zero, List.set_cons_succ]
                  refine wpAnyH_take (i := 3) (oi := ⟨some 40, _, _, _, _, _⟩) (v := .pointer (some ⟨g, o + i * 4, none⟩)) rfl (by kernel_rfl) (by kernel_rfl) (by kernel_rfl) (fun _ _ _ h => h) (.inl ⟨by kernel_rfl, fun W hW => by first | (obtain ⟨z0, z1, z2, z3, z4, z5⟩ := hW; go_simp; done) | (obtain ⟨z0, z1, z2, z3, z4, z5⟩ := hW; go_simp; omega) | (obtain ⟨z0, z1, z2, z3, z4, z5⟩ := hW; go_simp; exact IntWalk.i64_in _ (by omega)) | (obtain ⟨z0, z1, z2, z3, z4, z5⟩ := hW; go_simp; simp [*]; done)⟩) hSs ?_
                  try simp only [Act.put, List.setIfInBounds_toArray, List.set_cons_zero, List.set_cons_succ]
                  refine wpAnyH_take (i := 4) (oi := ⟨some 41, _, _, _, _, _⟩) (v := .agg #[.int .i64 tk, .int .i64 tn, .string ts, .slice B tl.length (capF tl.length b)]) rfl (by kernel_rfl) (by kernel_rfl) (by kernel_rfl) (fun _ _ _ h => h) (.inl ⟨by kernel_rfl, fun W hW => by first | (obtain ⟨z0, z1, z2, z3, z4, z5⟩ := hW; go_simp; done) | (obtain ⟨z0, z1, z2, z3, z4, z5⟩ := hW; go_simp; omega) | (obtain ⟨z0, z1, z2, z3, z4, z5⟩ := hW; go_simp; exact IntWalk.i64_in _ (by omega)) | (obtain ⟨z0, z1, z2, z3, z4, z5⟩ := hW; go_simp; simp [*]; done)⟩) hSs ?_
                  try simp only [Act.put, List.setIfInBounds_toArray, List.set_cons_zero, List.set_cons_succ]
                  refine wpAnyH_take (i := 5) (oi := ⟨some 42, _, _, _, _, _⟩) (v := .int .i64 free) rfl (by kernel_rfl) (by kernel_rfl) (by kernel_rfl) (fun _ _ _ h => h) (.inl ⟨by kernel_rfl, fun W hW => by kernel_rfl⟩) hSs ?_
                  try simp only [Act.put, List.setIfInBounds_toArray, List.set_cons_zero, List.set_cons_succ]
                  refine wpAnyH_take (i := 6) (oi := ⟨some 43, _, _, _, _, _⟩) (v := .pointer (some ⟨w.heap.size, 0, none⟩)) rfl (by kernel_rfl) (by kernel_rfl) (by kernel_rfl) (fun _ _ _ h => h) (.inl ⟨by kernel_rfl, fun W hW => by first | (obtain ⟨z0, z1, z2, z3, z4, z5⟩ := hW; go_simp; done) | (obtain ⟨z0, z1, z2, z3, z4, z5⟩ := hW; go_simp; omega) | (obtain ⟨z0, z1, z2, z3, z4, z5⟩ := hW; go_simp; exact IntWalk.i64_in _ (by omega)) | (obtain ⟨z0, z1, z2, z3, z4, z5⟩ := hW; go_simp; simp [*]; done)⟩) hSs ?_
                  try simp only [Act.put, List.setIfInBounds_toArray, List.set_cons_zero, List.set_cons_succ]
                  refine wpAnyH_take (i := 7) (oi := ⟨some 44, _, _, _, _, _⟩) (v := .int .i64 5) rfl (by kernel_rfl) (by kernel_rfl) (by kernel_rfl) (fun _ _ _ h => h) (.inl ⟨by kernel_rfl, fun W hW => by first | (obtain ⟨z0, z1, z2, z3, z4, z5⟩ := hW; go_simp; done) | (obtain ⟨z0, z1, z2, z3, z4, z5⟩ := hW; go_simp; omega) | (obtain ⟨z0, z1, z2, z3, z4, z5⟩ := hW; go_simp; exact IntWalk.i64_in _ (by omega)) | (obtain ⟨z0, z1, z2, z3, z4, z5⟩ := hW; go_simp; simp [*]; done)⟩) hSs ?_
                  try simp only [Act.put, List.setIfInBounds_toArray, List.set_cons_zero, List.set_cons_succ]
                  refine wpAnyH_take (i := 8) (oi := ⟨some 45, _, _, _, _, _⟩) (v := .bool true) rfl (by kernel_rfl) (by kernel_rfl) (by kernel_rfl) (fun _ _ _ h => h) (.inl ⟨by kernel_rfl, fun W hW => by first | (obtain ⟨z0, z1, z2, z3, z4, z5⟩ := hW; go_simp; done) | (obtain ⟨z0, z1, z2, z3, z4, z5⟩ := hW; go_simp; omega) | (obtain ⟨z0, z1, z2, z3, z4, z5⟩ := hW; go_simp; exact IntWalk.i64_in _ (by omega)) | (obtain ⟨z0, z1, z2, z3, z4, z5⟩ := hW; go_simp; simp [*]; done)⟩) hSs ?_
                  try simp only [Act.put, List.setIfInBounds_toArray, List.set_cons_zero, List.set_cons_succ]
                  refine wpAnyH_take (i := 9) (oi := ⟨some 46, _, _, _, _, _⟩) (v := .bool true) rfl (by kernel_rfl) (by kernel_rfl) (by kernel_rfl) (fun _ _ _ h => h) (.inl ⟨by kernel_rfl, fun W hW => by kernel_rfl⟩) hSs ?_
                  try simp only [Act.put, List.setIfInBounds_toArray, List.set_cons_zero, List.set_cons_succ]
                  refine wpAnyH_take (i := 10) (oi := ⟨some 47, _, _, _, _, _⟩) (v := .int .i64 (i : Int)) rfl (by kernel_rfl) (by kernel_rfl) (by kernel_rfl) (fun _ _ _ h => h) (.inl ⟨by kernel_rfl, fun W hW => by kernel_rfl⟩) hSs ?_
                  try simp only [Act.put, List.setIfInBounds_toArray, List.set_cons_zero, List.set_cons_succ]
                  refine wpAnyH_take (i := 11) (oi := ⟨some 48, _, _, _, _, _⟩) (v := .bool true) rfl (by kernel_rfl) (by kernel_rfl) (by kernel_rfl) (fun _ _ _ h => h) (.inl ⟨by kernel_rfl, fun W hW => by first | (obtain ⟨z0, z1, z2, z3, z4, z5⟩ := hW; go_simp; done) | (obtain ⟨z0, z1, z2, z3, z4, z5⟩ := hW; go_simp; omega) | (obtain ⟨z0, z1, z2, z3, z4, z5⟩ := hW; go_simp; exact IntWalk.i64_in _ (by omega)) | (obtain ⟨z0, z1, z2, z3, z4, z5⟩ := hW; go_simp; simp [*]; done)⟩) hSs ?_
                  try simp only [Act.put, List.setIfInBounds_toArray, List.set_cons_zero, List.set_cons_succ]
                  refine wpAnyH_take (i := 12) (oi := ⟨some 49, _, _, _, _, _⟩) (v := .bool true) rfl (by kernel_rfl) (by kernel_rfl) (by kernel_rfl) (fun _ _ _ h => h) (.inl ⟨by kernel_rfl, fun W hW => by kernel_rfl⟩) hSs ?_
                  try simp only [Act.put, List.setIfInBounds_toArray, List.set_cons_zero, List.set_cons_succ]
                  refine wpAnyH_ready (rs := [13]) (by kernel_rfl) (by simp) (AllReadyH.cons rfl (fun K hK => ?_) AllReadyH.nil)
                  go_simp
                  refine (HC.out _ (hb_1.drew) ).mono ?_
                  rintro e u_2 ⟨rfl, hq_2⟩
                  have hb_2 := (hb_1.drew).trans (hq_2.mono (hb_1.drew).size)
                  refine hK.out _ _ (HSS.out _ hb_2) (fun hS_2 => ?_)
                  clear hK K
                  try simp only [Act.put, List.setIfInBounds_toArray, List.set_cons_zero, List.set_cons_succ]
                  refine wpAnyH_take (i := 14) (oi := ⟨some 51, _, _, _, _, _⟩) (v := .bool false) rfl (by kernel_rfl) (by kernel_rfl) (by kernel_rfl) (fun _ _ _ h => h) (.inl ⟨by kernel_rfl, fun W hW => by kernel_rfl⟩) hS_2 ?_
                  try simp only [Act.put, List.setIfInBounds_toArray, List.set_cons_zero, List.set_cons_succ]
                  refine wpAnyH_done (by kernel_rfl) ?_ _
                  have hbx := hb_2
                  obtain ⟨wx, hwx⟩ : ∃ wx, wx = u_2 := ⟨_, rfl⟩
                  rw [← hwx] at hbx ⊢
                  clear hwx
                  have hbw8 := hbw.trans (hbx.mono hbs)
                  have L8 := L2.out.below hbx L2.out.lt
                  have c08 := L8.cell 0
                  have c38 := L8.cell 3
                  simp at c08 c38
                  obtain ⟨NM, hNM⟩ : ∃ q, q = ts := ⟨_, rfl⟩
                  have HNM := Lib.hid hNM
                  clear hNM
                  go_wp2_with fail
                  go_loopw [8] (fun x wr2 => ∃ q : Nat, 1 ≤ q ∧ q ≤ i ∧ x = .int .i64 q ∧ Hid (dupAt ((l.take i).drop 1) NM = dupAt ((l.take i).drop q) NM) ∧ Lies wr2 w.heap.size 24 #[.int .i64 5, .int .i64 n, .string s, .slice (some ⟨g, o, none⟩) m c] ∧ Below w.heap.size w wr2) (fun x _ => i - (intOf x).toNat)
                  case atStart => exact ⟨1, by omega, by omega, rfl, by exact rfl, L8, hbw8⟩
                  case round =>
                    obtain ⟨q, hq1, hq2, rfl, HD, L9, hbw9⟩ := hrel
                    have c09 := L9.cell 0
                    have c39 := L9.cell 3
                    simp at c09 c39
                    by_cases hqi : q < i
                    · have hqa : q < l.length := by omega
                      obtain ⟨g2, o2, B2, b2, ⟨hA2, _⟩, e0, e1, e2, e3, _⟩ := EIn.part (EIn.below _ HI.out hbw9 (Nat.le_refl _)) q hqa
                      injection hA2 with hA2
                      injection hA2 with hA2 hA3
                      subst hA2 hA3
                      obtain ⟨g3, o3, B3, b3, ⟨hA4, _⟩, f0, f1, f2, f3, _⟩ := EIn.part (EIn.below _ HI.out hbw9 (Nat.le_refl _)) i hia
                      injection hA4 with hA4
                      injection hA4 with hA4 hA5
                      subst hA4 hA5
                      simp only [Te.parts] at e2 f2
                      have HDS : Hid (dupAt ((l.take i).drop q) NM = (decide ((l[q]'hqa).name = NM) || dupAt ((l.take i).drop (q + 1)) NM)) := Lib.hid (dup_step l i q NM hqi hqa)
                      obtain ⟨Q, hQ⟩ : ∃ Q, Q = (l[q]'hqa).name := ⟨_, rfl⟩
                      rw [← hQ] at e2 HDS
                      have hNN : (l[i]'hia).name = NM := by rw [HTI.out, HNM.out]; rfl
                      rw [hNN] at f2
                      clear hQ hNN e0 e1 e3 f0 f1 f3
                      by_cases heq : Q = NM
                      · have heq' : (Q.toList == NM.toList) = true := by rw [heq]; simp
                        rw [heq] at HDS e2
                        clear heq heq'
                        go_wp2_with fail
                        go_quiet (fail)
                        go_wp2_with fail
                        go_ret
                        refine ⟨ret_bool ?_, belowN hbw9 nq⟩
                        rw [HE.out, HQ.out, HS.out, ← HNM.out, HD.out, HDS.out]
                        simp
                      · have heq' := strE_nb heq
                        have HNQ := Lib.hid heq
                        clear heq
                        go_wp2_with fail
                        go_quiet (fail)
                        go_wp2_with fail
                        go_roundw
                        case rel =>
                          refine ⟨q + 1, by omega, by omega, by go_num, ?_, L9.drewN nq, belowN hbw9 nq⟩
                          show _ = _
                          rw [HD.out, HDS.out]
                          simp [HNQ.out]
                        case measure => simp [intOf]; omega
                    · go_wp2_with fail
                      go_roundw
                      case rel =>
                        refine ⟨i + 1, by omega, by go_num, ?_, L9, hbw9⟩
                        have hdn : dupAt ((l.take i).drop q) NM = false := by rw [List.drop_eq_nil_of_le (by simp; omega)]; rfl
                        show _ = _
                        rw [HQ.out, HS.out, HT1.out, ← HNM.out, HD.out, hdn]
                        simp
                      case measure => simp [intOf]; omega
            · go_wp2_with fail
              go_ret
              exact ⟨ret_bool (by rw [HE.out, HQ.out, List.drop_eq_nil_of_le (by omega), mayQL]), hbw⟩
        · have HE : Hid (U = mayQL k [] l free) := Lib.hid (by rw [hE]; simp [moreE, n2, n6])
          have HK5 : ¬ k = 5 := n5
          have e2 : (k == 2) = false := by simpa using n2
          have e5 : (k == 5) = false := by simpa using n5
          have e6 : (k == 6) = false := by simpa using n6
          clear hE h6 n2 n6 n5
          go_enter Try.func20, Try.ntmps20
          go_wp2_with fail
          refine HH.out.mono ?_
          rintro e w1 ⟨rfl, hb1⟩
          have l1 := l0.below hb1 l0.lt
          have hbw1 := hb0.trans (hb1.mono hb0.size)
          have k0 := l1.cell 0
          have k1 := l1.cell 1
          simp at k0 k1
          go_wp2_with fail
          go_loopw [7] (fun x wr => ∃ i : Nat, i ≤ m ∧ x = .int .i64 i ∧ Hid (mayQL k [] l (free) = mayQL k (l.take i) (l.drop i) (free)) ∧ Lies wr w.heap.size 24 #[.int .i64 k, .int .i64 n, .string s, .slice A m c] ∧ Below w.heap.size w wr) (fun x _ => m - (intOf x).toNat)
          case atStart => exact ⟨0, by omega, rfl, by exact rfl, l1, hbw1⟩
          case round =>
            obtain ⟨i, hi, rfl, HQ, l2, hbw⟩ := hrel
            have hbs := hbw.size
            have c0 := l2.cell 0
            have c3 := l2.cell 3
            simp at c0 c3
            by_cases hlt : i < m
            · have hia : i < l.length := by omega
              obtain ⟨g, o, B, b, ⟨hA, _⟩, d0, d1, d2, d3, hIn⟩ := EIn.part (EIn.below _ HI.out hbw (Nat.le_refl _)) i hia
              subst hA
              have hm5 := depthEL_mem l (l[i]'hia) (List.getElem_mem hia)
              simp only [Te.parts] at d0 d1 d2 d3 hIn
              have HT1 : Hid (l.take (i + 1) = l.take i ++ [l[i]'hia]) := Lib.hid (List.take_succ_eq_append_getElem hia)
              have HS : Hid (mayQL k (l.take i) (l.drop i) (free) = (mayQ (l[i]'hia) (free) false && ((!false || !dupAt ((l.take i).drop 1) (l[i]'hia).name) && mayQL k (l.take i ++ [l[i]'hia]) (l.drop (i + 1)) (free)))) := by
                refine Lib.hid ?_
                have e1 : (decide ((k : Int) = 5) && decide (0 < (l.take i).length)) = false := by simp [HK5]
                have e2 : decide ((k : Int) = 5) = false := by simp [HK5]
                rw [List.drop_eq_getElem_cons hia, mayQL, e1, e2]
              obtain ⟨tr, hu⟩ : ∃ tr, tr = l[i]'hia := ⟨_, rfl⟩
              have HTI : Hid (l[i]'hia = tr) := Lib.hid hu.symm
              rw [← hu] at d0 d1 d2 d3 hIn HS hm5 HT1
              clear hu
              obtain ⟨tk, tn, ts, tl⟩ := tr
              simp only [Te.kind, Te.n, Te.name] at d0 d1 d2 d3 HS
              have HC : Hid (∀ X, Below wr.heap.size wr X → Calls Try.prog 20 #[.agg #[.int .i64 tk, .int .i64 tn, .string ts, .slice B tl.length (capF tl.length b)], .int .i64 free, .bool false] X fun e w' => e = .returned (.bool (mayQ (.node tk tn ts tl) (free) false)) ∧ Below X.heap.size X w') := Lib.hid fun X hX =>
                ih (.node tk tn ts tl) B b free false X (by omega) (by omega) (by omega) (by omega) (EIn.below _ hIn hX (Nat.le_refl _))
              have hgl := cell_lt d0
              have HSS : Hid (∀ V', Below wr.heap.size wr V' → (fun V' : World => (V'.cell? ⟨w.heap.size, 0, none⟩ = some (.int .i64 k) ∧ V'.cell? ⟨w.heap.size, 3, none⟩ = some (.slice (some ⟨g, o, none⟩) m c) ∧ V'.cell? ⟨g, o + i * 4, none⟩ = some (.int .i64 tk) ∧ V'.cell? ⟨g, o + i * 4 + 1, none⟩ = some (.int .i64 tn) ∧ V'.cell? ⟨g, o + i * 4 + 2, none⟩ = some (.string ts) ∧ V'.cell? ⟨g, o + i * 4 + 3, none⟩ = some (.slice B tl.length (capF tl.length b)))) V') := Lib.hid fun V' h =>
                ⟨(h.cell (p := ⟨w.heap.size, 0, none⟩) l2.lt).trans c0, (h.cell (p := ⟨w.heap.size, 3, none⟩) l2.lt).trans c3, (h.cell (p := ⟨g, _, none⟩) hgl).trans d0, (h.cell (p := ⟨g, _, none⟩) hgl).trans d1, (h.cell (p := ⟨g, _, none⟩) hgl).trans d2, (h.cell (p := ⟨g, _, none⟩) hgl).trans d3⟩
              have L2 := Lib.hid l2
              clear l2 hIn
              cases hq : mayQ (.node tk tn ts tl) (free) false
              · rw [hq] at HC HS
                clear hq
                go_upto_region 10 with fail
                clear c0 c3 d0 d1 d2 d3
                have hb_1 : Below wr.heap.size wr wr := Below.refl _ _
                refine wp_region_held_drew (S := (fun V' : World => (V'.cell? ⟨w.heap.size, 0, none⟩ = some (.int .i64 k) ∧ V'.cell? ⟨w.heap.size, 3, none⟩ = some (.slice (some ⟨g, o, none⟩) m c) ∧ V'.cell? ⟨g, o + i * 4, none⟩ = some (.int .i64 tk) ∧ V'.cell? ⟨g, o + i * 4 + 1, none⟩ = some (.int .i64 tn) ∧ V'.cell? ⟨g, o + i * 4 + 2, none⟩ = some (.string ts) ∧ V'.cell? ⟨g, o + i * 4 + 3, none⟩ = some (.slice B tl.length (capF tl.length b))))) rfl (HSS.out _ hb_1.drew) (fun hSs => ?_)
                change wpAnyH _ _ _ _ _ 15 (Array.replicate 15 false) _ _
                refine wpAnyH_take (i := 0) (oi := ⟨some 37, _, _, _, _, _⟩) (v := .pointer (some ⟨w.heap.size, 3, none⟩)) rfl (by kernel_rfl) (by kernel_rfl) (by kernel_rfl) (fun _ _ _ h => h) (.inl ⟨by kernel_rfl, fun W hW => by first | (obtain ⟨z0, z1, z2, z3, z4, z5⟩ := hW; go_simp; done) | (obtain ⟨z0, z1, z2, z3, z4, z5⟩ := hW; go_simp; omega) | (obtain ⟨z0, z1, z2, z3, z4, z5⟩ := hW; go_simp; exact IntWalk.i64_in _ (by omega)) | (obtain ⟨z0, z1, z2, z3, z4, z5⟩ := hW; go_simp; simp [*]; done)⟩) hSs ?_
                try simp only [Act.put, List.setIfInBounds_toArray, List.set_cons_zero, List.set_cons_succ]
                refine wpAnyH_take (i := 1) (oi := ⟨some 38, _, _, _, _, _⟩) (v := .slice (some ⟨g, o, none⟩) m c) rfl (by kernel_rfl) (by kernel_rfl) (by kernel_rfl) (fun _ _ _ h => h) (.inl ⟨by kernel_rfl, fun W hW => by first | (obtain ⟨z0, z1, z2, z3, z4, z5⟩ := hW; go_simp; done) | (obtain ⟨z0, z1, z2, z3, z4, z5⟩ := hW; go_simp; omega) | (obtain ⟨z0, z1, z2, z3, z4, z5⟩ := hW; go_simp; exact IntWalk.i64_in _ (by omega)) | (obtain ⟨z0, z1, z2, z3, z4, z5⟩ := hW; go_simp; simp [*]; done)⟩) hSs ?_
                try simp only [Act.put, List.setIfInBounds_toArray, List.set_cons_zero, List.set_cons_succ]
                refine wpAnyH_take (i := 2) (oi := ⟨some 39, _, _, _, _, _⟩) (v := .int .i64 (i : Int)) rfl (by kernel_rfl) (by kernel_rfl) (by kernel_rfl) (fun _ _ _ h => h) (.inl ⟨by kernel_rfl, fun W hW => by kernel_rfl⟩) hSs ?_
                try simp only [Act.put, List.setIfInBounds_toArray, List.set_cons_zero, List.set_cons_succ]
                refine wpAnyH_take (i := 3) (oi := ⟨some 40, _, _, _, _, _⟩) (v := .pointer (some ⟨g, o + i * 4, none⟩)) rfl (by kernel_rfl) (by kernel_rfl) (by kernel_rfl) (fun _ _ _ h => h) (.inl ⟨by kernel_rfl, fun W hW => by first | (obtain ⟨z0, z1, z2, z3, z4, z5⟩ := hW; go_simp; done) | (obtain ⟨z0, z1, z2, z3, z4, z5⟩ := hW; go_simp; omega) | (obtain ⟨z0, z1, z2, z3, z4, z5⟩ := hW; go_simp; exact IntWalk.i64_in _ (by omega)) | (obtain ⟨z0, z1, z2, z3, z4, z5⟩ := hW; go_simp; simp [*]; done)⟩) hSs ?_
                try simp only [Act.put, List.setIfInBounds_toArray, List.set_cons_zero, List.set_cons_succ]
                refine wpAnyH_take (i := 4) (oi := ⟨some 41, _, _, _, _, _⟩) (v := .agg #[.int .i64 tk, .int .i64 tn, .string ts, .slice B tl.length (capF tl.length b)]) rfl (by kernel_rfl) (by kernel_rfl) (by kernel_rfl) (fun _ _ _ h => h) (.inl ⟨by kernel_rfl, fun W hW => by first | (obtain ⟨z0, z1, z2, z3, z4, z5⟩ := hW; go_simp; done) | (obtain ⟨z0, z1, z2, z3, z4, z5⟩ := hW; go_simp; omega) | (obtain ⟨z0, z1, z2, z3, z4, z5⟩ := hW; go_simp; exact IntWalk.i64_in _ (by omega)) | (obtain ⟨z0, z1, z2, z3, z4, z5⟩ := hW; go_simp; simp [*]; done)⟩) hSs ?_
                try simp only [Act.put, List.setIfInBounds_toArray, List.set_cons_zero, List.set_cons_succ]
                refine wpAnyH_take (i := 5) (oi := ⟨some 42, _, _, _, _, _⟩) (v := .int .i64 free) rfl (by kernel_rfl) (by kernel_rfl) (by kernel_rfl) (fun _ _ _ h => h) (.inl ⟨by kernel_rfl, fun W hW => by kernel_rfl⟩) hSs ?_
                try simp only [Act.put, List.setIfInBounds_toArray, List.set_cons_zero, List.set_cons_succ]
                refine wpAnyH_take (i := 6) (oi := ⟨some 43, _, _, _, _, _⟩) (v := .pointer (some ⟨w.heap.size, 0, none⟩)) rfl (by kernel_rfl) (by kernel_rfl) (by kernel_rfl) (fun _ _ _ h => h) (.inl ⟨by kernel_rfl, fun W hW => by first | (obtain ⟨z0, z1, z2, z3, z4, z5⟩ := hW; go_simp; done) | (obtain ⟨z0, z1, z2, z3, z4, z5⟩ := hW; go_simp; omega) | (obtain ⟨z0, z1, z2, z3, z4, z5⟩ := hW; go_simp; exact IntWalk.i64_in _ (by omega)) | (obtain ⟨z0, z1, z2, z3, z4, z5⟩ := hW; go_simp; simp [*]; done)⟩) hSs ?_
                try simp only [Act.put, List.setIfInBounds_toArray, List.set_cons_zero, List.set_cons_succ]
                refine wpAnyH_take (i := 7) (oi := ⟨some 44, _, _, _, _, _⟩) (v := .int .i64 k) rfl (by kernel_rfl) (by kernel_rfl) (by kernel_rfl) (fun _ _ _ h => h) (.inl ⟨by kernel_rfl, fun W hW => by first | (obtain ⟨z0, z1, z2, z3, z4, z5⟩ := hW; go_simp; done) | (obtain ⟨z0, z1, z2, z3, z4, z5⟩ := hW; go_simp; omega) | (obtain ⟨z0, z1, z2, z3, z4, z5⟩ := hW; go_simp; exact IntWalk.i64_in _ (by omega)) | (obtain ⟨z0, z1, z2, z3, z4, z5⟩ := hW; go_simp; simp [*]; done)⟩) hSs ?_
                try simp only [Act.put, List.setIfInBounds_toArray, List.set_cons_zero, List.set_cons_succ]
                refine wpAnyH_take (i := 8) (oi := ⟨some 45, _, _, _, _, _⟩) (v := .bool false) rfl (by kernel_rfl) (by kernel_rfl) (by kernel_rfl) (fun _ _ _ h => h) (.inl ⟨by kernel_rfl, fun W hW => by first | (obtain ⟨z0, z1, z2, z3, z4, z5⟩ := hW; go_simp; done) | (obtain ⟨z0, z1, z2, z3, z4, z5⟩ := hW; go_simp; omega) | (obtain ⟨z0, z1, z2, z3, z4, z5⟩ := hW; go_simp; exact IntWalk.i64_in _ (by omega)) | (obtain ⟨z0, z1, z2, z3, z4, z5⟩ := hW; go_simp; simp [*]; done)⟩) hSs ?_
                try simp only [Act.put, List.setIfInBounds_toArray, List.set_cons_zero, List.set_cons_succ]
                refine wpAnyH_take (i := 9) (oi := ⟨some 46, _, _, _, _, _⟩) (v := .bool false) rfl (by kernel_rfl) (by kernel_rfl) (by kernel_rfl) (fun _ _ _ h => h) (.inl ⟨by kernel_rfl, fun W hW => by kernel_rfl⟩) hSs ?_
                try simp only [Act.put, List.setIfInBounds_toArray, List.set_cons_zero, List.set_cons_succ]
                refine wpAnyH_take (i := 10) (oi := ⟨some 47, _, _, _, _, _⟩) (v := undef) rfl (by kernel_rfl) (by kernel_rfl) (by kernel_rfl) (fun _ _ _ h => h) (.inr ⟨by kernel_rfl, rfl⟩) hSs ?_
                try simp only [Act.put, List.setIfInBounds_toArray, List.set_cons_zero, List.set_cons_succ]
                refine wpAnyH_take (i := 11) (oi := ⟨some 48, _, _, _, _, _⟩) (v := undef) rfl (by kernel_rfl) (by kernel_rfl) (by kernel_rfl) (fun _ _ _ h => h) (.inr ⟨by kernel_rfl, rfl⟩) hSs ?_
                try simp only [Act.put, List.setIfInBounds_toArray, List.set_cons_zero, List.set_cons_succ]
                refine wpAnyH_take (i := 12) (oi := ⟨some 49, _, _, _, _, _⟩) (v := .bool false) rfl (by kernel_rfl) (by kernel_rfl) (by kernel_rfl) (fun _ _ _ h => h) (.inl ⟨by kernel_rfl, fun W hW => by kernel_rfl⟩) hSs ?_
                try simp only [Act.put, List.setIfInBounds_toArray, List.set_cons_zero, List.set_cons_succ]
                refine wpAnyH_ready (rs := [13]) (by kernel_rfl) (by simp) (AllReadyH.cons rfl (fun K hK => ?_) AllReadyH.nil)
                go_simp
                refine (HC.out _ (hb_1.drew) ).mono ?_
                rintro e u_2 ⟨rfl, hq_2⟩
                have hb_2 := (hb_1.drew).trans (hq_2.mono (hb_1.drew).size)
                refine hK.out _ _ (HSS.out _ hb_2) (fun hS_2 => ?_)
                clear hK K
                try simp only [Act.put, List.setIfInBounds_toArray, List.set_cons_zero, List.set_cons_succ]
                refine wpAnyH_take (i := 14) (oi := ⟨some 51, _, _, _, _, _⟩) (v := .bool true) rfl (by kernel_rfl) (by kernel_rfl) (by kernel_rfl) (fun _ _ _ h => h) (.inl ⟨by kernel_rfl, fun W hW => by kernel_rfl⟩) hS_2 ?_
                try simp only [Act.put, List.setIfInBounds_toArray, List.set_cons_zero, List.set_cons_succ]
                refine wpAnyH_done (by kernel_rfl) ?_ _
                have hbx := hb_2
                go_wp2_with fail
                go_ret
                exact ⟨ret_bool (by rw [HE.out, HQ.out, HS.out]; rfl), hbw.trans (hbx.mono hbs)⟩
              · rw [hq] at HC HS
                clear hq
                go_upto_region 10 with fail
                clear c0 c3 d0 d1 d2 d3
                have hb_1 : Below wr.heap.size wr wr := Below.refl _ _
                refine wp_region_held_drew (S := (fun V' : World => (V'.cell? ⟨w.heap.size, 0, none⟩ = some (.int .i64 k) ∧ V'.cell? ⟨w.heap.size, 3, none⟩ = some (.slice (some ⟨g, o, none⟩) m c) ∧ V'.cell? ⟨g, o + i * 4, none⟩ = some (.int .i64 tk) ∧ V'.cell? ⟨g, o + i * 4 + 1, none⟩ = some (.int .i64 tn) ∧ V'.cell? ⟨g, o + i * 4 + 2, none⟩ = some (.string ts) ∧ V'.cell? ⟨g, o + i * 4 + 3, none⟩ = some (.slice B tl.length (capF tl.length b))))) rfl (HSS.out _ hb_1.drew) (fun hSs => ?_)
                change wpAnyH _ _ _ _ _ 15 (Array.replicate 15 false) _ _
                refine wpAnyH_take (i := 0) (oi := ⟨some 37, _, _, _, _, _⟩) (v := .pointer (some ⟨w.heap.size, 3, none⟩)) rfl (by kernel_rfl) (by kernel_rfl) (by kernel_rfl) (fun _ _ _ h => h) (.inl ⟨by kernel_rfl, fun W hW => by first | (obtain ⟨z0, z1, z2, z3, z4, z5⟩ := hW; go_simp; done) | (obtain ⟨z0, z1, z2, z3, z4, z5⟩ := hW; go_simp; omega) | (obtain ⟨z0, z1, z2, z3, z4, z5⟩ := hW; go_simp; exact IntWalk.i64_in _ (by omega)) | (obtain ⟨z0, z1, z2, z3, z4, z5⟩ := hW; go_simp; simp [*]; done)⟩) hSs ?_
                try simp only [Act.put, List.setIfInBounds_toArray, List.set_cons_zero, List.set_cons_succ]
                refine wpAnyH_take (i := 1) (oi := ⟨some 38, _, _, _, _, _⟩) (v := .slice (some ⟨g, o, none⟩) m c) rfl (by kernel_rfl) (by kernel_rfl) (by kernel_rfl) (fun _ _ _ h => h) (.inl ⟨by kernel_rfl, fun W hW => by first | (obtain ⟨z0, z1, z2, z3, z4, z5⟩ := hW; go_simp; done) | (obtain ⟨z0, z1, z2, z3, z4, z5⟩ := hW; go_simp; omega) | (obtain ⟨z0, z1, z2, z3, z4, z5⟩ := hW; go_simp; exact IntWalk.i64_in _ (by omega)) | (obtain ⟨z0, z1, z2, z3, z4, z5⟩ := hW; go_simp; simp [*]; done)⟩) hSs ?_
                try simp only [Act.put, List.setIfInBounds_toArray, List.set_cons_zero, List.set_cons_succ]
                refine wpAnyH_take (i := 2) (oi := ⟨some 39, _, _, _, _, _⟩) (v := .int .i64 (i : Int)) rfl (by kernel_rfl) (by kernel_rfl) (by kernel_rfl) (fun _ _ _ h => h) (.inl ⟨by kernel_rfl, fun W hW => by kernel_rfl⟩) hSs ?_
                try simp only [Act.put, List.setIfInBounds_toArray, List.set_cons_zero, List.set_cons_succ]
                refine wpAnyH_take (i := 3) (oi := ⟨some 40, _, _, _, _, _⟩) (v := .pointer (some ⟨g, o + i * 4, none⟩)) rfl (by kernel_rfl) (by kernel_rfl) (by kernel_rfl) (fun _ _ _ h => h) (.inl ⟨by kernel_rfl, fun W hW => by first | (obtain ⟨z0, z1, z2, z3, z4, z5⟩ := hW; go_simp; done) | (obtain ⟨z0, z1, z2, z3, z4, z5⟩ := hW; go_simp; omega) | (obtain ⟨z0, z1, z2, z3, z4, z5⟩ := hW; go_simp; exact IntWalk.i64_in _ (by omega)) | (obtain ⟨z0, z1, z2, z3, z4, z5⟩ := hW; go_simp; simp [*]; done)⟩) hSs ?_
                try simp only [Act.put, List.setIfInBounds_toArray, List.set_cons_zero, List.set_cons_succ]
                refine wpAnyH_take (i := 4) (oi := ⟨some 41, _, _, _, _, _⟩) (v := .agg #[.int .i64 tk, .int .i64 tn, .string ts, .slice B tl.length (capF tl.length b)]) rfl (by kernel_rfl) (by kernel_rfl) (by kernel_rfl) (fun _ _ _ h => h) (.inl ⟨by kernel_rfl, fun W hW => by first | (obtain ⟨z0, z1, z2, z3, z4, z5⟩ := hW; go_simp; done) | (obtain ⟨z0, z1, z2, z3, z4, z5⟩ := hW; go_simp; omega) | (obtain ⟨z0, z1, z2, z3, z4, z5⟩ := hW; go_simp; exact IntWalk.i64_in _ (by omega)) | (obtain ⟨z0, z1, z2, z3, z4, z5⟩ := hW; go_simp; simp [*]; done)⟩) hSs ?_
                try simp only [Act.put, List.setIfInBounds_toArray, List.set_cons_zero, List.set_cons_succ]
                refine wpAnyH_take (i := 5) (oi := ⟨some 42, _, _, _, _, _⟩) (v := .int .i64 free) rfl (by kernel_rfl) (by kernel_rfl) (by kernel_rfl) (fun _ _ _ h => h) (.inl ⟨by kernel_rfl, fun W hW => by kernel_rfl⟩) hSs ?_
                try simp only [Act.put, List.setIfInBounds_toArray, List.set_cons_zero, List.set_cons_succ]
                refine wpAnyH_take (i := 6) (oi := ⟨some 43, _, _, _, _, _⟩) (v := .pointer (some ⟨w.heap.size, 0, none⟩)) rfl (by kernel_rfl) (by kernel_rfl) (by kernel_rfl) (fun _ _ _ h => h) (.inl ⟨by kernel_rfl, fun W hW => by first | (obtain ⟨z0, z1, z2, z3, z4, z5⟩ := hW; go_simp; done) | (obtain ⟨z0, z1, z2, z3, z4, z5⟩ := hW; go_simp; omega) | (obtain ⟨z0, z1, z2, z3, z4, z5⟩ := hW; go_simp; exact IntWalk.i64_in _ (by omega)) | (obtain ⟨z0, z1, z2, z3, z4, z5⟩ := hW; go_simp; simp [*]; done)⟩) hSs ?_
                try simp only [Act.put, List.setIfInBounds_toArray, List.set_cons_zero, List.set_cons_succ]
                refine wpAnyH_take (i := 7) (oi := ⟨some 44, _, _, _, _, _⟩) (v := .int .i64 k) rfl (by kernel_rfl) (by kernel_rfl) (by kernel_rfl) (fun _ _ _ h => h) (.inl ⟨by kernel_rfl, fun W hW => by first | (obtain ⟨z0, z1, z2, z3, z4, z5⟩ := hW; go_simp; done) | (obtain ⟨z0, z1, z2, z3, z4, z5⟩ := hW; go_simp; omega) | (obtain ⟨z0, z1, z2, z3, z4, z5⟩ := hW; go_simp; exact IntWalk.i64_in _ (by omega)) | (obtain ⟨z0, z1, z2, z3, z4, z5⟩ := hW; go_simp; simp [*]; done)⟩) hSs ?_
                try simp only [Act.put, List.setIfInBounds_toArray, List.set_cons_zero, List.set_cons_succ]
                refine wpAnyH_take (i := 8) (oi := ⟨some 45, _, _, _, _, _⟩) (v := .bool false) rfl (by kernel_rfl) (by kernel_rfl) (by kernel_rfl) (fun _ _ _ h => h) (.inl ⟨by kernel_rfl, fun W hW => by first | (obtain ⟨z0, z1, z2, z3, z4, z5⟩ := hW; go_simp; done) | (obtain ⟨z0, z1, z2, z3, z4, z5⟩ := hW; go_simp; omega) | (obtain ⟨z0, z1, z2, z3, z4, z5⟩ := hW; go_simp; exact IntWalk.i64_in _ (by omega)) | (obtain ⟨z0, z1, z2, z3, z4, z5⟩ := hW; go_simp; simp [*]; done)⟩) hSs ?_
                try simp only [Act.put, List.setIfInBounds_toArray, List.set_cons_zero, List.set_cons_succ]
                refine wpAnyH_take (i := 9) (oi := ⟨some 46, _, _, _, _, _⟩) (v := .bool false) rfl (by kernel_rfl) (by kernel_rfl) (by kernel_rfl) (fun _ _ _ h => h) (.inl ⟨by kernel_rfl, fun W hW => by kernel_rfl⟩) hSs ?_
                try simp only [Act.put, List.setIfInBounds_toArray, List.set_cons_zero, List.set_cons_succ]
                refine wpAnyH_take (i := 10) (oi := ⟨some 47, _, _, _, _, _⟩) (v := undef) rfl (by kernel_rfl) (by kernel_rfl) (by kernel_rfl) (fun _ _ _ h => h) (.inr ⟨by kernel_rfl, rfl⟩) hSs ?_
                try simp only [Act.put, List.setIfInBounds_toArray, List.set_cons_zero, List.set_cons_succ]
                refine wpAnyH_take (i := 11) (oi := ⟨some 48, _, _, _, _, _⟩) (v := undef) rfl (by kernel_rfl) (by kernel_rfl) (by kernel_rfl) (fun _ _ _ h => h) (.inr ⟨by kernel_rfl, rfl⟩) hSs ?_
                try simp only [Act.put, List.setIfInBounds_toArray, List.set_cons_zero, List.set_cons_succ]
                refine wpAnyH_take (i := 12) (oi := ⟨some 49, _, _, _, _, _⟩) (v := .bool false) rfl (by kernel_rfl) (by kernel_rfl) (by kernel_rfl) (fun _ _ _ h => h) (.inl ⟨by kernel_rfl, fun W hW => by kernel_rfl⟩) hSs ?_
                try simp only [Act.put, List.setIfInBounds_toArray, List.set_cons_zero, List.set_cons_succ]
                refine wpAnyH_ready (rs := [13]) (by kernel_rfl) (by simp) (AllReadyH.cons rfl (fun K hK => ?_) AllReadyH.nil)
                go_simp
                refine (HC.out _ (hb_1.drew) ).mono ?_
                rintro e u_2 ⟨rfl, hq_2⟩
                have hb_2 := (hb_1.drew).trans (hq_2.mono (hb_1.drew).size)
                refine hK.out _ _ (HSS.out _ hb_2) (fun hS_2 => ?_)
                clear hK K
                try simp only [Act.put, List.setIfInBounds_toArray, List.set_cons_zero, List.set_cons_succ]
                refine wpAnyH_take (i := 14) (oi := ⟨some 51, _, _, _, _, _⟩) (v := .bool false) rfl (by kernel_rfl) (by kernel_rfl) (by kernel_rfl) (fun _ _ _ h => h) (.inl ⟨by kernel_rfl, fun W hW => by kernel_rfl⟩) hS_2 ?_
                try simp only [Act.put, List.setIfInBounds_toArray, List.set_cons_zero, List.set_cons_succ]
                refine wpAnyH_done (by kernel_rfl) ?_ _
                have hbx := hb_2
                obtain ⟨wx, hwx⟩ : ∃ wx, wx = u_2 := ⟨_, rfl⟩
                rw [← hwx] at hbx ⊢
                clear hwx
                have hbw8 := hbw.trans (hbx.mono hbs)
                have L8 := L2.out.below hbx L2.out.lt
                have c08 := L8.cell 0
                have c38 := L8.cell 3
                simp at c08 c38
                go_wp2_with fail
                go_loopw [8] (fun x wr2 => x = .int .i64 1 ∧ Lies wr2 w.heap.size 24 #[.int .i64 k, .int .i64 n, .string s, .slice (some ⟨g, o, none⟩) m c] ∧ Below w.heap.size w wr2) (fun _ _ => 0)
                case atStart => exact ⟨rfl, L8, hbw8⟩
                case round =>
                  obtain ⟨rfl, L9, hbw9⟩ := hrel
                  have c09 := L9.cell 0
                  simp at c09
                  go_wp2_with fail
                  all_goals
                    go_roundw
                    case rel =>
                      refine ⟨i + 1, by omega, by go_num, ?_, L9, hbw9⟩
                      show _ = _
                      rw [HQ.out, HS.out, HT1.out]
                      simp
                    case measure => simp [intOf]; omega
            · go_wp2_with fail
              go_ret
              exact ⟨ret_bool (by rw [HE.out, HQ.out, List.drop_eq_nil_of_le (by omega), mayQL]), hbw⟩
theorem rMay6_any (t : Te) (A : Option Addr) (c : Nat) (free : Int) (w : World) (hI : EIn w Any t A) (hd : depthE t ≤ 12000) (h0 : -1000000 ≤ free) (h1 : free ≤ 4611686018427387904) :
    Calls Try.prog 7 #[ev t A c, .int .i64 free] w fun e w' => e = .returned (.bool (mayQ t free false)) ∧ Below w.heap.size w w' := by
  obtain ⟨k, n, s, l⟩ := t
  have hb : Below w.heap.size w (w.alloc (.cells #[.int .i64 k, .int .i64 n, .string s, .slice A l.length (capF l.length c)] 24)) := (Below.refl _ w).alloc (Nat.le_refl _) _
  have HM := Lib.hid (rmay6_any (depthE (.node k n s l)) (.node k n s l) A c free false (w.alloc (.cells #[.int .i64 k, .int .i64 n, .string s, .slice A l.length (capF l.length c)] 24)) (Nat.le_refl _) hd h0 (by omega) (EIn.below _ hI hb (Nat.le_refl _)))
  clear hI
  show Calls Try.prog 7 #[.agg #[.int .i64 k, .int .i64 n, .string s, .slice A l.length (capF l.length c)], .int .i64 free] w _
  go_enter Try.func7, Try.ntmps7
  go_wp2_with fail
  refine HM.out.mono ?_
  rintro e w2 ⟨rfl, hb2⟩
  go_wp2_with fail
  go_ret
  exact ⟨rfl, hb.trans (hb2.mono hb.size)⟩
end Lx
end Go.Proofs.Ytgnafcnokenogaa
