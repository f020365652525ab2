/-
  Walks of tree.may and tree.May.
-/
import Derived.Test.YtnljlocogfacfaaDoorMap
import Derived.Test.YtnljlocogfacfaaDoorRowTr
namespace Go.Proofs.YtnljlocogfacfaaDoor
open Go.RowKit
namespace Lx
set_option maxRecDepth 100000
theorem shape_bd {k a b c d : Int} (h : shapeV k = some (a, b, c, d)) : b ≤ 999999999999999999 := by
  unfold shapeV at h
  split at h
  · cases h; omega
  · split at h
    · cases h; omega
    · split at h
      · cases h; omega
      · split at h
        · cases h; omega
        · split at h
          · cases h; omega
          · split at h
            · cases h; omega
            · split at h
              · cases h; omega
              · split at h
                · cases h; omega
                · split at h
                  · cases h; omega
                  · split at h
                    · cases h; omega
                    · cases h

set_option maxHeartbeats 2000000 in
theorem pmay_any (d : Nat) : ∀ (t : Tr) (A : Option Addr) (c b : Nat) (w : World), depthT t ≤ d → TIn w Any t A → MapAt w b → Signs w →
    Calls Tryd.prog 44 #[tv t A c, .map (some b)] w fun e w' => e = .returned (.bool (mayT t)) ∧ Below w.heap.size w w' := by
  induction d with
  | zero => intro t A c b w h; have := depth_pos t; omega
  | succ d ih =>
    intro t A c b w hd hI hM hg
    obtain ⟨k, s, n, a, l⟩ := t
    have hdL : depthL l ≤ d := by rw [depthT] at hd; omega
    have hlen : l.length ≤ 140737488351232 := by rw [TIn] at hI; exact hI.2.1
    have HI := Lib.hid hI
    clear hI hd
    show Calls Tryd.prog 44 #[.agg #[.int .i64 k, .string s, .int .i64 n, .int .i64 a, .slice A l.length c], .map (some b)] w _
    have hlk := run_look (w.alloc (.cells #[.int .i64 k, .string s, .int .i64 n, .int .i64 a, .slice A l.length c] 33)) b k (hM.old _)
    unfold lookV at hlk
    cases hs : shapeV k with
    | none =>
      rw [hs] at hlk
      have HE : Hid (mayT (.node k s n a l) = false) := by
        show _ = _
        rw [mayT, hs]
      clear hs hlen
      go_enter Tryd.func44, Tryd.ntmps44
      go_wp2_with fail
      go_ret
      exact ⟨ret_bool HE.out.symm, ((Below.refl _ w).alloc (Nat.le_refl _) _).alloc (by simp) _⟩
    | some h =>
      obtain ⟨hn, hN, hl, hm⟩ := h
      rw [hs] at hlk
      have hbd := shape_bd hs
      have HE : Hid (mayT (.node k s n a l) = (fitsV (hn, hN, hl, hm) k s.data.toList n a l.length && mayL k n 0 l)) := by
        show _ = _
        rw [mayT, hs]
      have hlk' : (Instr.lookup 70 (.map (some b)) (.int .i64 k) true).run Tryd.prog (w.alloc (.cells #[.int .i64 k, .string s, .int .i64 n, .int .i64 a, .slice A l.length c] 33)) = .ok (.tuple #[.agg #[.int .i64 hn, .int .i64 hN, .int .i64 hl, .int .i64 hm], .bool true]) (w.alloc (.cells #[.int .i64 k, .string s, .int .i64 n, .int .i64 a, .slice A l.length c] 33)) := hlk
      clear hs hlk
      have hb0 : Below w.heap.size w ((w.alloc (.cells #[.int .i64 k, .string s, .int .i64 n, .int .i64 a, .slice A l.length c] 33)).alloc (.cells #[.int .i64 hn, .int .i64 hN, .int .i64 hl, .int .i64 hm] 85)) := ((Below.refl _ w).alloc (Nat.le_refl _) _).alloc (by simp) _
      have HF := Lib.hid (fits_any hn hN hl hm k n a s A l.length c _ (hg.below hb0 hg.pos) hlen hbd)
      obtain ⟨m, hm'⟩ : ∃ m, m = l.length := ⟨_, rfl⟩
      rw [← hm'] at hlen hlk' HF HE hb0 ⊢
      have hm1 : m ≤ l.length := by omega
      have hm2 : l.length ≤ m := by omega
      clear hm'
      cases hfit : fitsV (hn, hN, hl, hm) k s.data.toList n a m
      · have HX := Lib.hid hfit
        rw [hfit] at HF HE
        clear hfit
        go_enter Tryd.func44, Tryd.ntmps44
        go_wp2_with fail
        refine HF.out.mono ?_
        rintro e w2 ⟨rfl, hb2⟩
        go_wp2_with fail
        go_ret
        exact ⟨ret_bool (by rw [HE.out, Bool.false_and]), hb0.trans (hb2.mono (by simp; omega))⟩
      · have HX := Lib.hid hfit
        rw [hfit] at HF HE
        clear hfit
        have hL0 := (Lies.new w 33 #[.int .i64 k, .string s, .int .i64 n, .int .i64 a, .slice A m c]).old (.cells #[.int .i64 hn, .int .i64 hN, .int .i64 hl, .int .i64 hm] 85)
        go_enter Tryd.func44, Tryd.ntmps44
        go_wp2_with fail
        refine HF.out.mono ?_
        rintro e w2 ⟨rfl, hb2⟩
        have hbw2 := hb0.trans (hb2.mono (by simp; omega))
        have hL2 := hL0.below hb2 (by simp; omega)
        have c4 := hL2.five.1.2.2.2.2
        clear hlk' hb0 hb2 hL0
        go_wp2_with fail
        go_loopw [27] (fun x wr => ∃ i : Nat, i ≤ m ∧ x = .int .i64 i ∧ Hid (mayL k n 0 l = mayL k n i (l.drop i)) ∧ Lies wr w.heap.size 33 #[.int .i64 k, .string s, .int .i64 n, .int .i64 a, .slice A m c] ∧ Below w.heap.size w wr) (fun x _ => m - (intOf x).toNat)
        case atStart => exact ⟨0, by omega, rfl, by exact rfl, hL2, hbw2⟩
        case round =>
          obtain ⟨i, hi, rfl, HQ, hL, hbw⟩ := hrel
          by_cases hlt : i < m
          · have hia : i < l.length := by omega
            obtain ⟨g, o, A', c', ⟨hA, _⟩, d0, d1, d2, d3, d4, hIn⟩ := TIn.part (TIn.below _ HI.out hbw (Nat.le_refl _)) i hia
            subst hA
            have hm3 := depthL_mem l (l[i]'hia) (List.getElem_mem hia)
            have HS : Hid (mayL k n i (l.drop i) = (standsV k n i (l[i]'hia).kind && (mayT (l[i]'hia) && mayL k n (i + 1) (l.drop (i + 1))))) := by
              show _ = _
              rw [List.drop_eq_getElem_cons hia, mayL]
            simp only [Tr.parts] at d0 d1 d2 d3 d4 hIn
            obtain ⟨tr, hu⟩ : ∃ tr, tr = l[i]'hia := ⟨_, rfl⟩
            rw [← hu] at d0 d1 d2 d3 d4 hIn hm3 HS
            clear hu c4
            obtain ⟨tk, ts, tn, ta, tl⟩ := tr
            simp only [Tr.kind, Tr.name, Tr.n, Tr.place] at d0 d1 d2 d3 d4 HS
            obtain ⟨b0, b1, b2, b3, b4⟩ := (hL.old (.cells #[.int .i64 tk, .string ts, .int .i64 tn, .int .i64 ta, .slice A' tl.length c'] 33)).five.1
            have hgr : Signs wr := hg.below hbw hg.pos
            have hMr : MapAt wr b := hM.below hbw hM.lt
            cases hst : standsV k n i tk
            · have HST := Lib.hid (stands_any k n a tk s (some ⟨g, o, none⟩) m c i (wr.alloc (.cells #[.int .i64 tk, .string ts, .int .i64 tn, .int .i64 ta, .slice A' tl.length c'] 33)))
              rw [hst] at HST HS
              clear hst
              go_wp2_with fail
              refine HST.out.mono ?_
              rintro e w3 ⟨rfl, hb3⟩
              go_wp2_with fail
              go_ret
              exact ⟨ret_bool (by rw [HE.out, HQ.out, HS.out]; simp), below_al hbw hb3⟩
            · have HST := Lib.hid (stands_any k n a tk s (some ⟨g, o, none⟩) m c i (wr.alloc (.cells #[.int .i64 tk, .string ts, .int .i64 tn, .int .i64 ta, .slice A' tl.length c'] 33)))
              rw [hst] at HST HS
              clear hst
              have hbs := hbw.size
              go_wp2_with fail
              refine HST.out.mono ?_
              rintro e w3 ⟨rfl, hb3⟩
              have hb3w := below_al hbw hb3
              have hbr : Below wr.heap.size wr w3 := ((Below.refl _ wr).alloc (Nat.le_refl _) _).trans (hb3.mono (by simp))
              have hn3 := (Lies.new wr 33 #[.int .i64 tk, .string ts, .int .i64 tn, .int .i64 ta, .slice A' tl.length c']).below hb3 (by simp)
              obtain ⟨n0, n1, n2, n3, n4⟩ := hn3.five.1
              have HM := Lib.hid (ih (.node tk ts tn ta tl) A' c' b w3 (by omega) (TIn.below _ hIn hbr (Nat.le_refl _)) (hMr.below hbr hMr.lt) (hgr.below hbr hgr.pos))
              have hL3 := hL.below hbr hL.lt
              have hbs3 := hbr.size
              clear d0 d1 d2 d3 d4 b0 b1 b2 b3 b4 hn3 hb3
              cases hmt : mayT (.node tk ts tn ta tl)
              · rw [hmt] at HM HS
                clear hmt
                go_wp2_with fail
                refine HM.out.mono ?_
                rintro e w4 ⟨rfl, hb4⟩
                go_wp2_with fail
                go_ret
                exact ⟨ret_bool (by rw [HE.out, HQ.out, HS.out]; simp), hb3w.trans (hb4.mono hb3w.size)⟩
              · rw [hmt] at HM HS
                clear hmt
                go_wp2_with fail
                refine HM.out.mono ?_
                rintro e w4 ⟨rfl, hb4⟩
                go_wp2_with fail
                go_roundw
                case rel =>
                  refine ⟨i + 1, by omega, by go_num, ?_, hL3.below hb4 hL3.lt, hb3w.trans (hb4.mono hb3w.size)⟩
                  show _ = _
                  rw [HQ.out, HS.out]; simp
                case measure => simp [intOf]; omega
          · clear c4
            go_wp2_with fail
            go_ret
            obtain rfl : i = m := by omega
            exact ⟨ret_bool (by rw [HE.out, HQ.out, List.drop_eq_nil_of_le (by omega), mayL]; rfl), hbw⟩
end Lx
end Go.Proofs.YtnljlocogfacfaaDoor
