/-
  Texts that lie one behind the other: SuInst SuLw.
-/
import Derived.Test.YtgnafcnokenogaaC12
import Derived.Test.YtgnafcnokenogaaC7
import Derived.Test.YtgnafcnokenogaaC13
import Derived.Test.YtgnafcnokenogaaC6
import Derived.Maps.AppendAt
import Derived.Deep.RegionHeld3
import Derived.Deep.AppendLies
import Derived.Deep.DrawnRows
namespace Go.Proofs.Ytgnafcnokenogaa
open Go.RowKit
namespace Lx
set_option maxRecDepth 100000
set_option maxHeartbeats 8000000 in
theorem rinst_in (xl : List Te) (Ax : Option Addr) (cx : Nat) (hlx : xl.length ≤ 100000) (hxl : ∀ t ∈ xl, depthE t ≤ 12000 ∧ sizeE t ≤ 100000 ∧ tameE 1099511627776 1099511627776 t)
    (d : Nat) : ∀ (t : Te) (A : Option Addr) (c : Nat) (f : Int) (w : World), depthE t ≤ d → d ≤ 12000 → sizeE t ≤ 100000 → tameE 1099511627776 1099511627776 t → -(1099511627776 * (24000 - (d : Int))) ≤ f → f ≤ 1099511627776 * (24000 - (d : Int)) → EIn w Any t A → ELIn w Any xl Ax 0 →
    Calls Try.prog 63 #[ev t A c, .slice Ax xl.length cx, .int .i64 f] w (GivesE (chE (instF xl) t f) w) := by
  induction d with
  | zero => intro t A c f w h; have := depthE_pos t; omega
  | succ d ih =>
    intro t A c f w hd hd4 hs ht hj0 hj1 hI hIx
    obtain ⟨k, n, s, l⟩ := t
    have hdL : depthEL l ≤ d := by rw [depthE] at hd; omega
    have hsL : sizeEL l ≤ 100000 := by rw [sizeE] at hs; omega
    have hlen := sizeEL_len l
    rw [tameE] at ht
    show Calls Try.prog 63 #[.agg #[.int .i64 k, .int .i64 n, .string s, .slice A l.length (capF l.length c)], .slice Ax xl.length cx, .int .i64 f] w _
    generalize capF l.length c = c
    by_cases hk : k = 1
    · subst hk
      have ht1 := ht.1 rfl
      obtain rfl := ht1.2.2
      have hss : s.size ≤ 140737488351232 := by rw [EIn] at hI; exact hI.1.1
      clear ht ih hd hs hlen hdL hsL
      simp only [List.length_nil]
      have m_z' : Lies ((w.alloc (.cells #[.int .i64 1, .int .i64 n, .string s, .slice A 0 c] 24)).alloc (.cells #[.int .i64 0, .int .i64 0, .string ⟨#[]⟩, .slice none 0 0] 24)) (w.heap.size + 1) 24 #[.int .i64 0, .int .i64 0, .string ⟨#[]⟩, .slice none 0 0] := by simpa using Lies.new (w.alloc (.cells #[.int .i64 1, .int .i64 n, .string s, .slice A 0 c] 24)) 24 #[.int .i64 0, .int .i64 0, .string ⟨#[]⟩, .slice none 0 0]
      have m_z : Lies ((w.alloc (.cells #[.int .i64 1, .int .i64 n, .string s, .slice A 0 c] 24)).alloc (.cells #[.int .i64 0, .int .i64 0, .string ⟨#[]⟩, .slice none 0 0] 24)) (w.heap.size + 1) 24 #[.int .i64 0, .int .i64 0, .string ⟨#[]⟩, .slice none 0 0] := m_z'
      have m_b : Below w.heap.size w ((w.alloc (.cells #[.int .i64 1, .int .i64 n, .string s, .slice A 0 c] 24)).alloc (.cells #[.int .i64 0, .int .i64 0, .string ⟨#[]⟩, .slice none 0 0] 24)) := ((Below.refl _ w).alloc (Nat.le_refl _) _).alloc (by simp <;> omega) _
      have m_s : w.heap.size + 2 ≤ ((w.alloc (.cells #[.int .i64 1, .int .i64 n, .string s, .slice A 0 c] 24)).alloc (.cells #[.int .i64 0, .int .i64 0, .string ⟨#[]⟩, .slice none 0 0] 24)).heap.size := by simp
      clear m_z'
      have HL : Hid (∀ x : Int, Lies ((w.alloc (.cells #[.int .i64 1, .int .i64 x, .string s, .slice A 0 c] 24)).alloc (.cells #[.int .i64 1, .int .i64 x, .string s, .slice A 0 c] 24)) (w.heap.size + 1) 24 #[.int .i64 1, .int .i64 x, .string s, .slice A 0 c]) := Lib.hid fun x => by
        simpa using Lies.new (w.alloc (.cells #[.int .i64 1, .int .i64 x, .string s, .slice A 0 c] 24)) 24 #[.int .i64 1, .int .i64 x, .string s, .slice A 0 c]
      have HZ := Lib.hid m_z
      have HB := Lib.hid m_b
      obtain ⟨ht1, ht2, -⟩ := ht1
      obtain ⟨q, hq⟩ : ∃ q, q = xl.length := ⟨_, rfl⟩
      have HQ := Lib.hid hq
      rw [← hq] at hlx ⊢
      rcases (by omega : (f ≤ n ∧ n < f + q) ∨ n < f ∨ (f ≤ n ∧ f + q ≤ n)) with hc | hc | hc
      · have hjm : (q - 1 - (n - f).toNat) < xl.length := by omega
        obtain ⟨g, o, A', c', ⟨hA, _⟩, d0, d1, d2, d3, hIn⟩ := ELIn.at_ xl hIx (q - 1 - (n - f).toNat) hjm
        have hfine := hxl _ (List.getElem_mem hjm)
        have HE : Hid (chE (instF xl) (.node 1 n s []) f = upE (xl[q - 1 - (n - f).toNat]'hjm) f 0) := by
          refine Lib.hid ?_
          rw [chE, if_pos rfl, instF, if_pos (by omega), lastE_mem _ _ (by omega)]
          simp only [HQ.out]
        obtain ⟨u, hu⟩ : ∃ u, u = xl[q - 1 - (n - f).toNat]'hjm := ⟨_, rfl⟩
        rw [← hu] at d0 d1 d2 d3 hIn hfine HE
        clear hu hIx hxl hq
        simp only [Nat.zero_add] at d0 d1 d2 d3
        obtain ⟨j, hj⟩ : ∃ j, j = q - 1 - (n - f).toNat := ⟨_, rfl⟩
        have hj1 : (q : Int) - 1 - (n - f) = (j : Int) := by omega
        rw [← hj] at d0 d1 d2 d3
        have hj2 : j < q := by omega
        clear hj hjm
        subst hA
        have hgw : g < w.heap.size := cell_lt d0
        have HUP := Lib.hid (rup_any f (by omega) (by omega) (depthE u) u A' c' 0 ((w.alloc (.cells #[.int .i64 1, .int .i64 n, .string s, .slice A 0 c] 24)).alloc (.cells #[.int .i64 0, .int .i64 0, .string ⟨#[]⟩, .slice none 0 0] 24)) (Nat.le_refl _) hfine.1 hfine.2.1 hfine.2.2 (by omega) (by omega) (EIn.below _ hIn m_b (Nat.le_refl _)))
        clear m_z m_b m_s hIn hfine
        obtain ⟨uk, un, us, ul⟩ := u
        simp only [Te.kind, Te.n, Te.name, Te.parts] at d0 d1 d2 d3
        simp only [ev, Te.kind, Te.n, Te.name, Te.parts] at HUP
        have hn1 : f ≤ n := by omega
        have hn2 : n < f + q := by omega
        clear hc
        go_enter Try.func63, Try.ntmps63
        go_wp2_with fail
        refine HUP.out.mono ?_
        rintro e w2 ⟨A2, c2, rfl, hT, hb2⟩
        generalize upE (.node uk un us ul) f 0 = U at HE hT ⊢
        obtain ⟨vk, vn, vs, vl⟩ := U
        simp only [ev, Te.kind, Te.n, Te.name, Te.parts]
        have lz2 := HZ.out.below hb2 HZ.out.lt
        have hbw := HB.out.trans (hb2.mono HB.out.size)
        obtain ⟨⟨x0, x1, x2, x3⟩, g0, g1, g2, g3⟩ := lz2.four
        have HT := Lib.hid hT
        have HW := Lib.hid hbw
        clear hT hb2 hbw
        go_wp2_with fail
        refine bodyPost_ret (res_term (p := 6) Try.results63 rfl (lz2.all _ _ _ _)) rfl ?_
        rw [HE.out]
        exact gives_all HT.out (by omega) HZ.out.lt HW.out _ _ _ _
      · have HE : Hid (chE (instF xl) (.node 1 n s []) f = .node 1 n s []) := by
          refine Lib.hid ?_
          rw [chE, if_pos rfl, instF, if_neg (by omega), if_neg (by omega)]
        clear hIx hxl hq m_z m_b m_s
        go_enter Try.func63, Try.ntmps63
        go_wp2_with fail
        refine bodyPost_ret (res_term (p := 6) Try.results63 rfl (HL.out _)) rfl ?_
        rw [HE.out]
        exact ⟨A, c, rfl, ein_mk hss (by omega) (by omega) (by simp) (by rw [ELIn]; trivial), below2_new _ _⟩
      · have HE : Hid (chE (instF xl) (.node 1 n s []) f = .node 1 (n - q) s []) := by
          refine Lib.hid ?_
          rw [chE, if_pos rfl, instF, if_neg (by omega), HQ.out]
          split
          · rfl
          · have : n = f := by omega
            have h0 : (xl.length : Int) = 0 := by omega
            rw [h0, Int.sub_zero]
        have hn1 : ¬ n < f := by omega
        have hn2 : ¬ n < f + q := by omega
        clear hIx hxl hq m_z m_b m_s hc
        go_enter Try.func63, Try.ntmps63
        go_wp2_with fail
        refine bodyPost_ret (res_term (p := 6) Try.results63 rfl (HL.out _)) rfl ?_
        rw [HE.out]
        exact ⟨A, c, rfl, ein_mk hss (by omega) (by omega) (by simp) (by rw [ELIn]; trivial), below2_new _ _⟩
    · have hk1 : (k == 1) = false := by simpa using hk
      have HE : Hid (chE (instF xl) (.node k n s l) f = .node k n s (chEL (instF xl) l (f + moreE k n))) := by
        refine Lib.hid ?_
        rw [chE, if_neg hk]
      have hmo : -1099511627776 ≤ moreE k n ∧ moreE k n ≤ 1099511627776 := by
        rw [moreE]
        split
        · omega
        · split
          · rename_i h6; exact ht.2.1 h6
          · omega
      have hss : s.size ≤ 140737488351232 := by rw [EIn] at hI; exact hI.1.1
      have hn0 : -9223372036854775808 ≤ n := by rw [EIn] at hI; exact hI.1.2.1
      have hn1 : n ≤ 9223372036854775807 := by rw [EIn] at hI; exact hI.1.2.2
      obtain ⟨mo, hmoe⟩ : ∃ mo, mo = moreE k n := ⟨_, rfl⟩
      rw [← hmoe] at hmo HE
      have HMO := Lib.hid hmoe
      have HT := Lib.hid ht.2.2
      have HI := Lib.hid hI
      clear hI ht hmoe hk hd hs
      obtain ⟨m, hm⟩ : ∃ m, m = l.length := ⟨_, rfl⟩
      rw [← hm]
      have hm1 : m ≤ l.length := by omega
      have hm2 : l.length ≤ m := by omega
      clear hm
      have HIX := Lib.hid hIx
      clear hIx hxl
      have hlen' : m ≤ 140737488351232 := by omega
      obtain ⟨i0, hi0, hz0, hz1, hz2⟩ : ∃ i, Try.prog.info? 24 = some i ∧ i.zero = some (.agg #[.int .i64 0, .int .i64 0, .string ⟨#[]⟩, .slice none 0 0]) ∧ i.size = 4 ∧ i.bytes = 56 := by
        have h := infoE
        cases hq : Try.prog.info? 24 with
        | none => rw [hq] at h; cases h
        | some i => rw [hq] at h; simp only [Option.map_some, Option.some.injEq, Prod.mk.injEq] at h; exact ⟨i, rfl, h.1, h.2.1, h.2.2⟩
      go_enter Try.func63, Try.ntmps63
      go_wp2_with fail
      have m_t' : Lies (w.alloc (.cells #[.int .i64 k, .int .i64 n, .string s, .slice A m c] 24)) (w.heap.size) 24 #[.int .i64 k, .int .i64 n, .string s, .slice A m c] := Lies.new w _ _
      have m_t : Lies (((w.alloc (.cells #[.int .i64 k, .int .i64 n, .string s, .slice A m c] 24)).alloc (.cells #[.int .i64 0, .int .i64 0, .string ⟨#[]⟩, .slice none 0 0] 24)).alloc (.cells #[.int .i64 k, .int .i64 n, .string s, .slice none 0 0] 24)) (w.heap.size) 24 #[.int .i64 k, .int .i64 n, .string s, .slice A m c] := (Lies.old (Lies.old m_t' _) _)
      have m_z' : Lies ((w.alloc (.cells #[.int .i64 k, .int .i64 n, .string s, .slice A m c] 24)).alloc (.cells #[.int .i64 0, .int .i64 0, .string ⟨#[]⟩, .slice none 0 0] 24)) (w.heap.size + 1) 24 #[.int .i64 0, .int .i64 0, .string ⟨#[]⟩, .slice none 0 0] := by simpa using Lies.new (w.alloc (.cells #[.int .i64 k, .int .i64 n, .string s, .slice A m c] 24)) 24 #[.int .i64 0, .int .i64 0, .string ⟨#[]⟩, .slice none 0 0]
      have m_z : Lies (((w.alloc (.cells #[.int .i64 k, .int .i64 n, .string s, .slice A m c] 24)).alloc (.cells #[.int .i64 0, .int .i64 0, .string ⟨#[]⟩, .slice none 0 0] 24)).alloc (.cells #[.int .i64 k, .int .i64 n, .string s, .slice none 0 0] 24)) (w.heap.size + 1) 24 #[.int .i64 0, .int .i64 0, .string ⟨#[]⟩, .slice none 0 0] := (Lies.old m_z' _)
      have m_o' : Lies (((w.alloc (.cells #[.int .i64 k, .int .i64 n, .string s, .slice A m c] 24)).alloc (.cells #[.int .i64 0, .int .i64 0, .string ⟨#[]⟩, .slice none 0 0] 24)).alloc (.cells #[.int .i64 k, .int .i64 n, .string s, .slice none 0 0] 24)) (w.heap.size + 1 + 1) 24 #[.int .i64 k, .int .i64 n, .string s, .slice none 0 0] := by simpa using Lies.new ((w.alloc (.cells #[.int .i64 k, .int .i64 n, .string s, .slice A m c] 24)).alloc (.cells #[.int .i64 0, .int .i64 0, .string ⟨#[]⟩, .slice none 0 0] 24)) 24 #[.int .i64 k, .int .i64 n, .string s, .slice none 0 0]
      have m_o : Lies (((w.alloc (.cells #[.int .i64 k, .int .i64 n, .string s, .slice A m c] 24)).alloc (.cells #[.int .i64 0, .int .i64 0, .string ⟨#[]⟩, .slice none 0 0] 24)).alloc (.cells #[.int .i64 k, .int .i64 n, .string s, .slice none 0 0] 24)) (w.heap.size + 1 + 1) 24 #[.int .i64 k, .int .i64 n, .string s, .slice none 0 0] := m_o'
      have m_b : Below w.heap.size w (((w.alloc (.cells #[.int .i64 k, .int .i64 n, .string s, .slice A m c] 24)).alloc (.cells #[.int .i64 0, .int .i64 0, .string ⟨#[]⟩, .slice none 0 0] 24)).alloc (.cells #[.int .i64 k, .int .i64 n, .string s, .slice none 0 0] 24)) := (((Below.refl _ w).alloc (Nat.le_refl _) _).alloc (by simp <;> omega) _).alloc (by simp <;> omega) _
      have m_s : w.heap.size + 3 ≤ (((w.alloc (.cells #[.int .i64 k, .int .i64 n, .string s, .slice A m c] 24)).alloc (.cells #[.int .i64 0, .int .i64 0, .string ⟨#[]⟩, .slice none 0 0] 24)).alloc (.cells #[.int .i64 k, .int .i64 n, .string s, .slice none 0 0] 24)).heap.size := by simp
      clear m_t' m_z' m_o'
      go_loopw [8] (fun x wr => ∃ (i : Nat) (B : Option Addr) (bc : Nat) (zs : List Value), i ≤ m ∧ x = .int .i64 i ∧ Lies wr w.heap.size 24 #[.int .i64 k, .int .i64 n, .string s, .slice A m c] ∧ Lies wr (w.heap.size + 1) 24 #[.int .i64 0, .int .i64 0, .string ⟨#[]⟩, .slice none 0 0] ∧ Lies wr (w.heap.size + 1 + 1) 24 #[.int .i64 k, .int .i64 n, .string s, .slice B i bc] ∧
          wr.ownsRow (w.heap.size + 3) 24 4 (.slice B i bc) i zs ∧
          RowTe wr (fun g => w.heap.size + 3 ≤ g ∧ some g ≠ (Value.slice B i bc).ownBlock) (chEL (instF xl) (l.take i) (f + mo)) zs ∧ w.heap.size + 3 ≤ wr.heap.size ∧ Below w.heap.size w wr) (fun x _ => m - (intOf x).toNat)
      case atStart =>
        exact ⟨0, none, 0, [], by omega, rfl, m_t, m_z, m_o, World.ownsRow_nil _ _ _ _, by simpa [chEL] using RowTe.nil _ _, m_s, m_b⟩
      case round =>
        obtain ⟨i, B, bc, zs, hi, rfl, lt, lz, lo, hown, hrow, hsz, hbw⟩ := hrel
        have c3 := lt.four.1.2.2.2
        by_cases hlt : i < m
        · have hia : i < l.length := by omega
          obtain ⟨g, o, A', c', ⟨hA, _⟩, d0, d1, d2, d3, hIn⟩ := EIn.part (EIn.below _ HI.out hbw (Nat.le_refl _)) i hia
          subst hA
          have hm3 := depthEL_mem l (l[i]'hia) (List.getElem_mem hia)
          have hm4 := sizeEL_mem l (l[i]'hia) (List.getElem_mem hia)
          have ht5 := tameEL_mem l (l[i]'hia) (List.getElem_mem hia) HT.out
          have HS := Lib.hid (chEL_take (instF xl) l i (f + mo) hia)
          simp only [Te.parts] at d0 d1 d2 d3 hIn
          obtain ⟨tr, hu⟩ : ∃ tr, tr = l[i]'hia := ⟨_, rfl⟩
          rw [← hu] at d0 d1 d2 d3 hIn hm3 hm4 HS ht5
          clear hu
          obtain ⟨tk, tn, ts, tl⟩ := tr
          simp only [Te.kind, Te.n, Te.name] at d0 d1 d2 d3
          have hg0 := EIn.part HI.out i hia
          obtain ⟨g0, o0, _, _, ⟨hA0, _⟩, hx0, _⟩ := hg0
          injection hA0 with hA0
          injection hA0 with hA0 hA1
          subst hA0 hA1
          have hgw := cell_lt hx0
          clear hx0
          obtain ⟨⟨c0, c1, c2', _⟩, _⟩ := lt.four
          have e3 := lo.four.1.2.2.2
          have hlto := hown.lt
          have HSK : Hid (∀ W : World, (∀ b j, b < w.heap.size + 3 → W.cell? ⟨b, j, none⟩ = wr.cell? ⟨b, j, none⟩) → (fun V' : World => (V'.cell? ⟨w.heap.size + 1 + 1, 3, none⟩ = some (.slice B i bc) ∧ V'.cell? ⟨w.heap.size, 0, none⟩ = some (.int .i64 k) ∧ V'.cell? ⟨w.heap.size, 1, none⟩ = some (.int .i64 n) ∧ V'.cell? ⟨w.heap.size, 2, none⟩ = some (.string s) ∧ V'.cell? ⟨w.heap.size, 3, none⟩ = some (.slice (some ⟨g, o, none⟩) m c) ∧ V'.cell? ⟨g, o + i * 4, none⟩ = some (.int .i64 tk) ∧ V'.cell? ⟨g, o + i * 4 + 1, none⟩ = some (.int .i64 tn) ∧ V'.cell? ⟨g, o + i * 4 + 2, none⟩ = some (.string ts) ∧ V'.cell? ⟨g, o + i * 4 + 3, none⟩ = some (.slice A' tl.length (capF tl.length c')))) W) := Lib.hid fun W hW =>
            ⟨(hW _ _ (by omega)).trans e3, (hW _ _ (by omega)).trans c0, (hW _ _ (by omega)).trans c1, (hW _ _ (by omega)).trans c2', (hW _ _ (by omega)).trans c3, (hW _ _ (by omega)).trans d0, (hW _ _ (by omega)).trans d1, (hW _ _ (by omega)).trans d2, (hW _ _ (by omega)).trans d3⟩
          have HSS : Hid (∀ V', Below wr.heap.size wr V' → (fun V' : World => (V'.cell? ⟨w.heap.size + 1 + 1, 3, none⟩ = some (.slice B i bc) ∧ V'.cell? ⟨w.heap.size, 0, none⟩ = some (.int .i64 k) ∧ V'.cell? ⟨w.heap.size, 1, none⟩ = some (.int .i64 n) ∧ V'.cell? ⟨w.heap.size, 2, none⟩ = some (.string s) ∧ V'.cell? ⟨w.heap.size, 3, none⟩ = some (.slice (some ⟨g, o, none⟩) m c) ∧ V'.cell? ⟨g, o + i * 4, none⟩ = some (.int .i64 tk) ∧ V'.cell? ⟨g, o + i * 4 + 1, none⟩ = some (.int .i64 tn) ∧ V'.cell? ⟨g, o + i * 4 + 2, none⟩ = some (.string ts) ∧ V'.cell? ⟨g, o + i * 4 + 3, none⟩ = some (.slice A' tl.length (capF tl.length c')))) V') := Lib.hid fun V' h => HSK.out V' fun b j hb => h.cell (p := ⟨b, j, none⟩) (by show b < _; omega)
          obtain ⟨U, hU⟩ : ∃ U, U = chE (instF xl) (.node tk tn ts tl) (f + mo) := ⟨_, rfl⟩
          have HBI : Hid (∀ X, Below wr.heap.size wr X → Calls Try.prog 65 #[.agg #[.int .i64 k, .int .i64 n, .string s, .slice (some ⟨g, o, none⟩) m c]] X fun e w' => e = .returned (.int .i64 mo) ∧ Below X.heap.size X w') := Lib.hid fun X _ => by rw [HMO.out]; exact more_any k n s _ m c X
          have HRE : Hid (∀ X, Below wr.heap.size wr X → Calls Try.prog 63 #[.agg #[.int .i64 tk, .int .i64 tn, .string ts, .slice A' tl.length (capF tl.length c')], .slice Ax xl.length cx, .int .i64 (f + mo)] X fun e w' => ∃ A2 c2, e = .returned (ev U A2 c2) ∧ EIn w' (fun g => X.heap.size ≤ g) U A2 ∧ Below X.heap.size X w') := Lib.hid fun X hX => by
            rw [hU]; exact ih (.node tk tn ts tl) A' c' (f + mo) X (by omega) (by omega) (by omega) ht5 (by omega) (by omega) (EIn.below _ hIn hX (Nat.le_refl _)) (ELIn.keep _ HIX.out fun g j _ hlt => ⟨((hbw.trans (hX.mono hbw.size)).cell (p := ⟨g, j, none⟩) hlt), trivial⟩)
          rw [← hU] at HS
          clear hU
          obtain ⟨uk, un, us, ul⟩ := U
          simp only [ev, Te.kind, Te.n, Te.name, Te.parts] at HRE
          have HOW := Lib.hid hown
          have HRO := Lib.hid hrow
          have HBW := Lib.hid hbw
          have HLt := Lib.hid lt
          have HLz := Lib.hid lz
          have HLo := Lib.hid lo
          clear hown hrow hbw hIn d0 d1 d2 d3 c0 c1 c2' c3 e3 ht5 lt lz lo
          go_upto_region 12 with fail
          have hb_1 : Below wr.heap.size wr wr := Below.refl _ _
          refine wp_region_K (S := (fun V' : World => (V'.cell? ⟨w.heap.size + 1 + 1, 3, none⟩ = some (.slice B i bc) ∧ V'.cell? ⟨w.heap.size, 0, none⟩ = some (.int .i64 k) ∧ V'.cell? ⟨w.heap.size, 1, none⟩ = some (.int .i64 n) ∧ V'.cell? ⟨w.heap.size, 2, none⟩ = some (.string s) ∧ V'.cell? ⟨w.heap.size, 3, none⟩ = some (.slice (some ⟨g, o, none⟩) m c) ∧ V'.cell? ⟨g, o + i * 4, none⟩ = some (.int .i64 tk) ∧ V'.cell? ⟨g, o + i * 4 + 1, none⟩ = some (.int .i64 tn) ∧ V'.cell? ⟨g, o + i * 4 + 2, none⟩ = some (.string ts) ∧ V'.cell? ⟨g, o + i * 4 + 3, none⟩ = some (.slice A' tl.length (capF tl.length c'))))) 16 rfl (HSS.out _ hb_1.drew) (fun hSs => ?_)
          change wpAnyK _ _ _ _ _ _ 17 (Array.replicate 17 false) _ _
          refine wpAnyK_take (i := 0) (oi := ⟨some 58, _, _, _, _, _⟩) (v := .pointer (some ⟨w.heap.size + 1 + 1, 3, none⟩)) rfl (by kernel_rfl) (by kernel_rfl) (by kernel_rfl) (by kernel_rfl) (fun _ _ _ h => h) (.inl ⟨by kernel_rfl, fun W hW => by first | (obtain ⟨z0, z1, z2, z3, z4, z5, z6, z7, z8⟩ := hW; go_simp; done) | (obtain ⟨z0, z1, z2, z3, z4, z5, z6, z7, z8⟩ := hW; go_simp; omega) | (obtain ⟨z0, z1, z2, z3, z4, z5, z6, z7, z8⟩ := hW; go_simp; exact IntWalk.i64_in _ (by omega)) | (obtain ⟨z0, z1, z2, z3, z4, z5, z6, z7, z8⟩ := hW; go_simp; simp [*]; done)⟩) hSs ?_
          try simp only [Act.put, List.setIfInBounds_toArray, List.set_cons_zero, List.set_cons_succ]
          refine wpAnyK_take (i := 1) (oi := ⟨some 59, _, _, _, _, _⟩) (v := .slice B i bc) rfl (by kernel_rfl) (by kernel_rfl) (by kernel_rfl) (by kernel_rfl) (fun _ _ _ h => h) (.inl ⟨by kernel_rfl, fun W hW => by first | (obtain ⟨z0, z1, z2, z3, z4, z5, z6, z7, z8⟩ := hW; go_simp; done) | (obtain ⟨z0, z1, z2, z3, z4, z5, z6, z7, z8⟩ := hW; go_simp; omega) | (obtain ⟨z0, z1, z2, z3, z4, z5, z6, z7, z8⟩ := hW; go_simp; exact IntWalk.i64_in _ (by omega)) | (obtain ⟨z0, z1, z2, z3, z4, z5, z6, z7, z8⟩ := hW; go_simp; simp [*]; done)⟩) hSs ?_
          try simp only [Act.put, List.setIfInBounds_toArray, List.set_cons_zero, List.set_cons_succ]
          refine wpAnyK_take (i := 2) (oi := ⟨some 60, _, _, _, _, _⟩) (v := .pointer (some ⟨w.heap.size, 3, none⟩)) rfl (by kernel_rfl) (by kernel_rfl) (by kernel_rfl) (by kernel_rfl) (fun _ _ _ h => h) (.inl ⟨by kernel_rfl, fun W hW => by first | (obtain ⟨z0, z1, z2, z3, z4, z5, z6, z7, z8⟩ := hW; go_simp; done) | (obtain ⟨z0, z1, z2, z3, z4, z5, z6, z7, z8⟩ := hW; go_simp; omega) | (obtain ⟨z0, z1, z2, z3, z4, z5, z6, z7, z8⟩ := hW; go_simp; exact IntWalk.i64_in _ (by omega)) | (obtain ⟨z0, z1, z2, z3, z4, z5, z6, z7, z8⟩ := hW; go_simp; simp [*]; done)⟩) hSs ?_
          try simp only [Act.put, List.setIfInBounds_toArray, List.set_cons_zero, List.set_cons_succ]
          refine wpAnyK_take (i := 3) (oi := ⟨some 61, _, _, _, _, _⟩) (v := .slice (some ⟨g, o, none⟩) m c) rfl (by kernel_rfl) (by kernel_rfl) (by kernel_rfl) (by kernel_rfl) (fun _ _ _ h => h) (.inl ⟨by kernel_rfl, fun W hW => by first | (obtain ⟨z0, z1, z2, z3, z4, z5, z6, z7, z8⟩ := hW; go_simp; done) | (obtain ⟨z0, z1, z2, z3, z4, z5, z6, z7, z8⟩ := hW; go_simp; omega) | (obtain ⟨z0, z1, z2, z3, z4, z5, z6, z7, z8⟩ := hW; go_simp; exact IntWalk.i64_in _ (by omega)) | (obtain ⟨z0, z1, z2, z3, z4, z5, z6, z7, z8⟩ := hW; go_simp; simp [*]; done)⟩) hSs ?_
          try simp only [Act.put, List.setIfInBounds_toArray, List.set_cons_zero, List.set_cons_succ]
          refine wpAnyK_take (i := 4) (oi := ⟨some 62, _, _, _, _, _⟩) (v := .int .i64 (i : Int)) rfl (by kernel_rfl) (by kernel_rfl) (by kernel_rfl) (by kernel_rfl) (fun _ _ _ h => h) (.inl ⟨by kernel_rfl, fun W hW => by kernel_rfl⟩) hSs ?_
          try simp only [Act.put, List.setIfInBounds_toArray, List.set_cons_zero, List.set_cons_succ]
          refine wpAnyK_take (i := 5) (oi := ⟨some 63, _, _, _, _, _⟩) (v := .pointer (some ⟨g, o + i * 4, none⟩)) rfl (by kernel_rfl) (by kernel_rfl) (by kernel_rfl) (by kernel_rfl) (fun _ _ _ h => h) (.inl ⟨by kernel_rfl, fun W hW => by first | (obtain ⟨z0, z1, z2, z3, z4, z5, z6, z7, z8⟩ := hW; go_simp; done) | (obtain ⟨z0, z1, z2, z3, z4, z5, z6, z7, z8⟩ := hW; go_simp; omega) | (obtain ⟨z0, z1, z2, z3, z4, z5, z6, z7, z8⟩ := hW; go_simp; exact IntWalk.i64_in _ (by omega)) | (obtain ⟨z0, z1, z2, z3, z4, z5, z6, z7, z8⟩ := hW; go_simp; simp [*]; done)⟩) hSs ?_
          try simp only [Act.put, List.setIfInBounds_toArray, List.set_cons_zero, List.set_cons_succ]
          refine wpAnyK_take (i := 6) (oi := ⟨some 64, _, _, _, _, _⟩) (v := .agg #[.int .i64 tk, .int .i64 tn, .string ts, .slice A' tl.length (capF tl.length c')]) rfl (by kernel_rfl) (by kernel_rfl) (by kernel_rfl) (by kernel_rfl) (fun _ _ _ h => h) (.inl ⟨by kernel_rfl, fun W hW => by first | (obtain ⟨z0, z1, z2, z3, z4, z5, z6, z7, z8⟩ := hW; go_simp; done) | (obtain ⟨z0, z1, z2, z3, z4, z5, z6, z7, z8⟩ := hW; go_simp; omega) | (obtain ⟨z0, z1, z2, z3, z4, z5, z6, z7, z8⟩ := hW; go_simp; exact IntWalk.i64_in _ (by omega)) | (obtain ⟨z0, z1, z2, z3, z4, z5, z6, z7, z8⟩ := hW; go_simp; simp [*]; done)⟩) hSs ?_
          try simp only [Act.put, List.setIfInBounds_toArray, List.set_cons_zero, List.set_cons_succ]
          refine wpAnyK_take (i := 7) (oi := ⟨some 65, _, _, _, _, _⟩) (v := .slice Ax xl.length cx) rfl (by kernel_rfl) (by kernel_rfl) (by kernel_rfl) (by kernel_rfl) (fun _ _ _ h => h) (.inl ⟨by kernel_rfl, fun W hW => by kernel_rfl⟩) hSs ?_
          try simp only [Act.put, List.setIfInBounds_toArray, List.set_cons_zero, List.set_cons_succ]
          refine wpAnyK_take (i := 8) (oi := ⟨some 66, _, _, _, _, _⟩) (v := .int .i64 f) rfl (by kernel_rfl) (by kernel_rfl) (by kernel_rfl) (by kernel_rfl) (fun _ _ _ h => h) (.inl ⟨by kernel_rfl, fun W hW => by kernel_rfl⟩) hSs ?_
          try simp only [Act.put, List.setIfInBounds_toArray, List.set_cons_zero, List.set_cons_succ]
          refine wpAnyK_take (i := 9) (oi := ⟨some 67, _, _, _, _, _⟩) (v := .agg #[.int .i64 k, .int .i64 n, .string s, .slice (some ⟨g, o, none⟩) m c]) rfl (by kernel_rfl) (by kernel_rfl) (by kernel_rfl) (by kernel_rfl) (fun _ _ _ h => h) (.inl ⟨by kernel_rfl, fun W hW => by first | (obtain ⟨z0, z1, z2, z3, z4, z5, z6, z7, z8⟩ := hW; go_simp; done) | (obtain ⟨z0, z1, z2, z3, z4, z5, z6, z7, z8⟩ := hW; go_simp; omega) | (obtain ⟨z0, z1, z2, z3, z4, z5, z6, z7, z8⟩ := hW; go_simp; exact IntWalk.i64_in _ (by omega)) | (obtain ⟨z0, z1, z2, z3, z4, z5, z6, z7, z8⟩ := hW; go_simp; simp [*]; done)⟩) hSs ?_
          try simp only [Act.put, List.setIfInBounds_toArray, List.set_cons_zero, List.set_cons_succ]
          refine wpAnyK_one (i := 10) rfl rfl (by kernel_rfl) (fun K hK => ?_)
          go_simp
          refine (HBI.out _ (hb_1.drew) ).mono ?_
          rintro e u_2 ⟨rfl, hq_2⟩
          have hb_2 := (hb_1.drew).trans (hq_2.mono (hb_1.drew).size)
          refine hK.out _ _ (fun _ => HSS.out _ hb_2) (fun hS9 => ?_)
          have hS_2 := hS9 (by decide)
          clear hK K hS9
          try simp only [Act.put, List.setIfInBounds_toArray, List.set_cons_zero, List.set_cons_succ]
          refine wpAnyK_take (i := 11) (oi := ⟨some 69, _, _, _, _, _⟩) (v := .int .i64 (f + mo)) rfl (by kernel_rfl) (by kernel_rfl) (by kernel_rfl) (by kernel_rfl) (fun _ _ _ h => h) (.inl ⟨by kernel_rfl, fun W hW => by first | (obtain ⟨z0, z1, z2, z3, z4, z5, z6, z7, z8⟩ := hW; go_simp; done) | (obtain ⟨z0, z1, z2, z3, z4, z5, z6, z7, z8⟩ := hW; go_simp; omega) | (obtain ⟨z0, z1, z2, z3, z4, z5, z6, z7, z8⟩ := hW; go_simp; exact IntWalk.i64_in _ (by omega)) | (obtain ⟨z0, z1, z2, z3, z4, z5, z6, z7, z8⟩ := hW; go_simp; simp [*]; done)⟩) hS_2 ?_
          try simp only [Act.put, List.setIfInBounds_toArray, List.set_cons_zero, List.set_cons_succ]
          refine wpAnyK_one (i := 12) rfl rfl (by kernel_rfl) (fun K hK => ?_)
          have hX_3 := hb_2.size
          go_simp
          refine (HRE.out _ hb_2 ).mono ?_
          rintro e u_3 ⟨A2, c2, rfl, hT_3, hq_3⟩
          have hb_3 := hb_2.trans (hq_3.mono hb_2.size)
          have hbr := hb_3
          have hs2 := hbr.size
          have hown2 := own_below HOW.out hbr (Nat.le_refl _)
          have hrow2 := HRO.out.below hbr (Nat.le_refl _)
          refine hK.out _ _ (fun _ => HSS.out _ hb_3) (fun hS9 => ?_)
          have hS_3 := hS9 (by decide)
          clear hK K hS9
          try simp only [Act.put, List.setIfInBounds_toArray, List.set_cons_zero, List.set_cons_succ]
          refine wpAnyK_one (i := 13) rfl rfl (by kernel_rfl) (fun K hK => ?_)
          go_simp
          have hb_4 := Below.alloc hb_3 hb_3.size (.cells #[.int .i64 uk, .int .i64 un, .string us, .slice A2 ul.length (capF ul.length c2)] 24)
          have hl_4 : Lies (u_3.alloc (.cells #[.int .i64 uk, .int .i64 un, .string us, .slice A2 ul.length (capF ul.length c2)] 24)) (u_3.heap.size) 24 #[.int .i64 uk, .int .i64 un, .string us, .slice A2 ul.length (capF ul.length c2)] := Lies.new _ _ _
          refine hK.out _ _ (fun _ => HSS.out _ hb_4) (fun hS9 => ?_)
          have hS_4 := hS9 (by decide)
          clear hK K hS9
          try simp only [Act.put, List.setIfInBounds_toArray, List.set_cons_zero, List.set_cons_succ]
          refine wpAnyK_one (i := 14) rfl rfl (by kernel_rfl) (fun K hK => ?_)
          refine wp_append_lies _ _ _ _ rfl (w.heap.size + 3) 24 i0 _ 4 56 Try.underlying22 hi0 hz0 hz1 hz2 rfl (by omega) (.slice B i bc) i zs rfl (hown2.alloc _)
            ⟨u_3.heap.size, 0, none⟩ 1 1 [.int .i64 uk, .int .i64 un, .string us, .slice A2 ul.length (capF ul.length c2)] rfl rfl (World.news_of_block (cs := #[.int .i64 uk, .int .i64 un, .string us, .slice A2 ul.length (capF ul.length c2)]) (t := 24) (fr := (0, 0)) (heap_alloc_new u_3 _)) (by simp [Value.oneCell'])
            (by omega) (by simp only [maxLen]; omega) (by omega) (by simp; omega) (u_3.heap.size + 1) (by simp) ?_
          intro gg c3 w3 hown3 hg3 hat hltg
          have K3 : ∀ b j, b < w.heap.size + 3 → w3.cell? ⟨b, j, none⟩ = wr.cell? ⟨b, j, none⟩ := fun b j hb =>
            (World.cell?_of_block (hg3.block b (by simp; omega) (fun e => by have := (hlto b e.symm).1; omega))).trans ((World.cell?_alloc_lt u_3 _ ⟨b, j, none⟩ (by show b < _; omega)).trans (hbr.cell (p := ⟨b, j, none⟩) (by show b < _; omega)))
          refine hK.out _ _ (fun _ => HSK.out _ K3) (fun hS9 => ?_)
          have hS_9 := hS9 (by decide)
          clear hK K hS9
          try simp only [Act.put, List.setIfInBounds_toArray]
          refine wpAnyK_take (i := 15) (oi := ⟨some 73, _, _, _, _, _⟩) (v := .pointer (some ⟨w.heap.size + 1 + 1, 3, none⟩)) rfl (by kernel_rfl) (by kernel_rfl) (by kernel_rfl) (by kernel_rfl) (fun _ _ _ h => h) (.inl ⟨by kernel_rfl, fun W hW => by first | (obtain ⟨z0, z1, z2, z3, z4, z5, z6, z7, z8⟩ := hW; go_simp; done) | (obtain ⟨z0, z1, z2, z3, z4, z5, z6, z7, z8⟩ := hW; go_simp; omega) | (obtain ⟨z0, z1, z2, z3, z4, z5, z6, z7, z8⟩ := hW; go_simp; exact IntWalk.i64_in _ (by omega)) | (obtain ⟨z0, z1, z2, z3, z4, z5, z6, z7, z8⟩ := hW; go_simp; simp [*]; done)⟩) hS_9 ?_
          try simp only [Act.put]
          refine wpAnyK_one (i := 16) rfl rfl (by kernel_rfl) (fun K hK => ?_)
          have hs3 := hg3.size
          simp at hs3
          have hnb : ∀ b, b < w.heap.size + 3 → some b ≠ (Value.slice B i bc).ownBlock := fun b hb e => by have := (hlto b e.symm).1; omega
          have jt := ((HLt.out.below hbr (by have := HLt.out.lt; omega)).old (.cells #[.int .i64 uk, .int .i64 un, .string us, .slice A2 ul.length (capF ul.length c2)] 24)).grown hg3 (hnb _ (by omega))
          have jz := ((HLz.out.below hbr (by have := HLz.out.lt; omega)).old (.cells #[.int .i64 uk, .int .i64 un, .string us, .slice A2 ul.length (capF ul.length c2)] 24)).grown hg3 (hnb _ (by omega))
          have jo := ((HLo.out.below hbr (by have := HLo.out.lt; omega)).old (.cells #[.int .i64 uk, .int .i64 un, .string us, .slice A2 ul.length (capF ul.length c2)] 24)).grown hg3 (hnb _ (by omega))
          have hB3 : Below w.heap.size w w3 := ((HBW.out.trans (hbr.mono HBW.out.size)).alloc (by have := HBW.out.size; omega) (.cells #[.int .i64 uk, .int .i64 un, .string us, .slice A2 ul.length (capF ul.length c2)] 24)).grown hg3 (by simp; omega) (fun q hq => by have := (hlto q hq).1; omega)
          have e4 := jo.four.1.2.2.2
          have f4 := jo.four.2.2.2.2
          have hfar : ∀ b j, b < u_3.heap.size → some b ≠ (Value.slice B i bc).ownBlock → w3.cell? ⟨b, j, none⟩ = u_3.cell? ⟨b, j, none⟩ ∧ some b ≠ (Value.slice (some ⟨gg, 0, none⟩) (i + 1) c3).ownBlock := fun b j hb hne => by
            refine ⟨(World.cell?_of_block (hg3.block b (by simp; omega) hne)).trans (World.cell?_alloc_lt u_3 _ ⟨b, j, none⟩ hb), fun e => ?_⟩
            have e9 : b = gg := Option.some.inj e
            rcases hat with h | h
            · exact hne (by rw [h, e9])
            · omega
          have hrow3 : RowTe w3 (fun g => w.heap.size + 3 ≤ g ∧ some g ≠ (Value.slice (some ⟨gg, 0, none⟩) (i + 1) c3).ownBlock) (chEL (instF xl) (l.take i) (f + mo)) zs :=
            hrow2.keep fun b j hX hb => ⟨(hfar b j hb hX.2).1, hX.1, (hfar b j hb hX.2).2⟩
          have hT3 : EIn w3 (fun g => w.heap.size + 3 ≤ g ∧ some g ≠ (Value.slice (some ⟨gg, 0, none⟩) (i + 1) c3).ownBlock) (.node uk un us ul) A2 :=
            EIn.keep _ hT_3 fun b j hX hb => by
              have hX' : _ ≤ b := hX
              have hne : some b ≠ (Value.slice B i bc).ownBlock := fun e => by have := (hlto b e.symm).2; omega
              exact ⟨(hfar b j hb hne).1, by omega, (hfar b j hb hne).2⟩
          clear hi0 hz0 hz1 hz2 hg3 hat hown2 hrow2 hfar hT_3 K3
          go_wp2_with fail
          refine hK.out _ _ (fun h => absurd rfl h) (fun _ => ?_)
          clear hK K
          try simp only [Act.put, List.setIfInBounds_toArray, List.set_cons_zero, List.set_cons_succ]
          refine wpAnyK_done (by kernel_rfl) ?_ _
          go_wp2_with fail
          go_roundw
          case rel =>
            refine ⟨i + 1, some ⟨gg, 0, none⟩, c3, zs ++ [.int .i64 uk, .int .i64 un, .string us, .slice A2 ul.length (capF ul.length c2)], by omega, by go_num, jt.far (by simp <;> omega) _, jz.far (by simp <;> omega) _, by simpa using jo.put 3 (.slice (some ⟨gg, 0, none⟩) (i + 1) c3), ?_, ?_, by simp [World.setCell]; omega, hB3.setCell (by show w.heap.size ≤ w.heap.size + 1 + 1; omega) _⟩
            · exact ownsRow_setCell_below hown3 (by show w.heap.size + 1 + 1 < _; omega) _
            · rw [HS.out]
              exact (hrow3.snoc (c := c2) hT3).setCell _ _ (fun h => by have h9 : w.heap.size + 3 ≤ w.heap.size + 1 + 1 := h.1; omega)
          case measure => simp [intOf]; omega
        · have e0 := lo.four.1.1
          have e1 := lo.four.1.2.1
          have e2 := lo.four.1.2.2.1
          have e3 := lo.four.1.2.2.2
          obtain ⟨⟨z0, z1, z2, z3⟩, f0, f1, f2, f3⟩ := lz.four
          go_wp2_with fail
          obtain rfl : i = m := by omega
          rw [List.take_of_length_le (by omega)] at hrow
          have hbl := chEL_length (instF xl) l (f + mo)
          have hil : i = l.length := by omega
          refine bodyPost_ret (res_term (p := 6) Try.results63 rfl (lz.all _ _ _ _)) rfl ?_
          rw [HE.out]
          refine ⟨B, bc, ?_, ?_, ?_⟩
          · rw [ev]
            simp only [Te.kind, Te.n, Te.name, Te.parts, hbl]
            rw [capF_of (show l.length ≤ bc by have := own_le hown; omega), hil]
          · refine ein_mk hss hn0 hn1 (by omega) ?_
            have hL := hrow.owned (Y := fun g => w.heap.size + 3 ≤ g) hown (fun g hg => hg) (fun g hg _ => hg.1)
            refine ELIn.keep _ hL fun g j hg _ => ⟨?_, by omega⟩
            have hne : ∀ q u, (⟨w.heap.size + 1, q, none⟩ : Addr) ≠ ⟨g, u, none⟩ := fun q u e => by injection e with e; omega
            rw [World.cell?_setCell_other _ _ _ _ (hne _ _), World.cell?_setCell_other _ _ _ _ (hne _ _), World.cell?_setCell_other _ _ _ _ (hne _ _), World.cell?_setCell_other _ _ _ _ (hne _ _)]
          · exact Below.all hbw (by omega) _ _ _ _
end Lx
end Go.Proofs.Ytgnafcnokenogaa
namespace Go.Proofs.Ytgnafcnokenogaa
open Go.RowKit
namespace Lx
set_option maxRecDepth 100000
/-- The answer is a term as a value, wherever its parts lie. -/
def GivesA (t : Te) (w : World) (e : Ending) (w' : World) : Prop :=
  ∃ A c, e = .returned (ev t A c) ∧ EIn w' Any t A ∧ Below w.heap.size w w'
theorem GivesE.any {t : Te} {w w' : World} {e : Ending} (h : GivesE t w e w') : GivesA t w e w' := by
  obtain ⟨A, c, h1, h2, h3⟩ := h
  exact ⟨A, c, h1, EIn.any _ h2, h3⟩
theorem rput_any (t u : Te) (A Au : Option Addr) (c cu : Nat) (k : Int) (w : World) (hI : EIn w Any t A) (hd : depthE t ≤ 12000) (hs : sizeE t ≤ 100000) (ht : tameE 1099511627776 1099511627776 t)
    (hIu : EIn w Any u Au) (hdu : depthE u ≤ 12000) (hsu : sizeE u ≤ 100000) (htu : tameE 1099511627776 1099511627776 u) (h0 : -36028797018963968 ≤ k) (h1 : k ≤ 36028797018963968) :
    Calls Try.prog 39 #[ev t A c, .int .i64 k, ev u Au cu] w (GivesE (putE t k u) w) := by
  obtain ⟨tk, tn, ts, tl⟩ := t
  obtain ⟨uk, un, us, ul⟩ := u
  show Calls Try.prog 39 #[.agg #[.int .i64 tk, .int .i64 tn, .string ts, .slice A tl.length (capF tl.length c)], .int .i64 k, .agg #[.int .i64 uk, .int .i64 un, .string us, .slice Au ul.length (capF ul.length cu)]] w _
  obtain ⟨O1, hO1⟩ : ∃ O, O = Obj.cells #[.int .i64 tk, .int .i64 tn, .string ts, .slice A tl.length (capF tl.length c)] 24 := ⟨_, rfl⟩
  obtain ⟨O3, hO3⟩ : ∃ O, O = Obj.cells #[.int .i64 uk, .int .i64 un, .string us, .slice Au ul.length (capF ul.length cu)] 24 := ⟨_, rfl⟩
  obtain ⟨O4, hO4⟩ : ∃ O, O = Obj.cells #[.int .i64 0, .int .i64 0, .string ⟨#[]⟩, .slice none 0 0] 24 := ⟨_, rfl⟩
  obtain ⟨W, hW⟩ : ∃ W, W = ((w.alloc O1).alloc O3).alloc O4 := ⟨_, rfl⟩
  have hb : Below w.heap.size w W := by rw [hW]; exact (((Below.refl _ w).alloc (Nat.le_refl _) _).alloc (by simp) _).alloc (by simp; omega) _
  have hz : W.heap.size = w.heap.size + 3 := by rw [hW]; simp
  have lz : Lies W (w.heap.size + 1 + 1) 24 #[.int .i64 0, .int .i64 0, .string ⟨#[]⟩, .slice none 0 0] := by
    rw [hW, hO4]; simpa using Lies.new ((w.alloc O1).alloc O3) 24 #[.int .i64 0, .int .i64 0, .string ⟨#[]⟩, .slice none 0 0]
  have hch := rput_in k h0 h1 uk un us ul Au cu hdu hsu htu (depthE (.node tk tn ts tl)) (.node tk tn ts tl) A c 0 W (Nat.le_refl _) hd hs ht (by omega) (by omega) (EIn.below _ hI hb (Nat.le_refl _)) (EIn.below _ hIu hb (Nat.le_refl _))
  have hpe : chE (putF k (.node uk un us ul)) (.node tk tn ts tl) 0 = putE (.node tk tn ts tl) k (.node uk un us ul) := rfl
  rw [hpe] at hch
  simp only [ev, Te.kind, Te.n, Te.name, Te.parts] at hch
  have HCH := Lib.hid hch
  generalize putE (.node tk tn ts tl) k (.node uk un us ul) = U at HCH
  clear hch ht hs hd hI hIu hdu hsu htu hpe
  rw [hW, hO1, hO3, hO4] at HCH
  go_enter Try.func39, Try.ntmps39
  go_wp2_with fail
  refine HCH.out.mono ?_
  rw [← hO1, ← hO3, ← hO4, ← hW]
  clear HCH hW hO1 hO3 hO4
  rintro e w2 ⟨A2, c2, rfl, hT, hb2⟩
  obtain ⟨vk, vn, vs, vl⟩ := U
  simp only [ev, Te.kind, Te.n, Te.name, Te.parts]
  have lz2 := lz.below hb2 lz.lt
  have hbw := hb.trans (hb2.mono hb.size)
  obtain ⟨⟨x0, x1, x2, x3⟩, g0, g1, g2, g3⟩ := lz2.four
  have HT := Lib.hid hT
  clear hT hb2 hb
  go_wp2_with fail
  exact bodyPost_ret (res_term (p := 6) Try.results39 rfl (lz2.all _ _ _ _)) rfl (gives_all HT.out (by omega) lz.lt hbw _ _ _ _)
theorem rinst_any (t : Te) (l : List Te) (A Al : Option Addr) (c cl : Nat) (w : World) (hI : EIn w Any t A) (hd : depthE t ≤ 12000) (hs : sizeE t ≤ 100000) (ht : tameE 1099511627776 1099511627776 t)
    (hIl : ELIn w Any l Al 0) (hl : ∀ t ∈ l, depthE t ≤ 12000 ∧ sizeE t ≤ 100000 ∧ tameE 1099511627776 1099511627776 t) (hlen : l.length ≤ 100000) :
    Calls Try.prog 48 #[ev t A c, .slice Al l.length cl] w (GivesE (instE t l) w) := by
  obtain ⟨tk, tn, ts, tl⟩ := t
  show Calls Try.prog 48 #[.agg #[.int .i64 tk, .int .i64 tn, .string ts, .slice A tl.length (capF tl.length c)], .slice Al l.length cl] w _
  obtain ⟨O1, hO1⟩ : ∃ O, O = Obj.cells #[.int .i64 tk, .int .i64 tn, .string ts, .slice A tl.length (capF tl.length c)] 24 := ⟨_, rfl⟩
  obtain ⟨O4, hO4⟩ : ∃ O, O = Obj.cells #[.int .i64 0, .int .i64 0, .string ⟨#[]⟩, .slice none 0 0] 24 := ⟨_, rfl⟩
  obtain ⟨W, hW⟩ : ∃ W, W = (w.alloc O1).alloc O4 := ⟨_, rfl⟩
  have hb : Below w.heap.size w W := by rw [hW]; exact ((Below.refl _ w).alloc (Nat.le_refl _) _).alloc (by simp) _
  have hz : W.heap.size = w.heap.size + 2 := by rw [hW]; simp
  have lz : Lies W (w.heap.size + 1) 24 #[.int .i64 0, .int .i64 0, .string ⟨#[]⟩, .slice none 0 0] := by
    rw [hW, hO4]; simpa using Lies.new (w.alloc O1) 24 #[.int .i64 0, .int .i64 0, .string ⟨#[]⟩, .slice none 0 0]
  have hch := rinst_in l Al cl hlen hl (depthE (.node tk tn ts tl)) (.node tk tn ts tl) A c 0 W (Nat.le_refl _) hd hs ht (by omega) (by omega) (EIn.below _ hI hb (Nat.le_refl _)) (ELIn.keep _ hIl fun g j _ hlt => ⟨hb.cell (p := ⟨g, j, none⟩) hlt, trivial⟩)
  have hpe : chE (instF l) (.node tk tn ts tl) 0 = instE (.node tk tn ts tl) l := rfl
  rw [hpe] at hch
  simp only [ev, Te.kind, Te.n, Te.name, Te.parts] at hch
  have HCH := Lib.hid hch
  generalize instE (.node tk tn ts tl) l = U at HCH
  clear hch ht hs hd hI hIl hl hlen hpe
  rw [hW, hO1, hO4] at HCH
  go_enter Try.func48, Try.ntmps48
  go_wp2_with fail
  refine HCH.out.mono ?_
  rw [← hO1, ← hO4, ← hW]
  clear HCH hW hO1 hO4
  rintro e w2 ⟨A2, c2, rfl, hT, hb2⟩
  obtain ⟨vk, vn, vs, vl⟩ := U
  simp only [ev, Te.kind, Te.n, Te.name, Te.parts]
  have lz2 := lz.below hb2 lz.lt
  have hbw := hb.trans (hb2.mono hb.size)
  obtain ⟨⟨x0, x1, x2, x3⟩, g0, g1, g2, g3⟩ := lz2.four
  have HT := Lib.hid hT
  clear hT hb2 hb
  go_wp2_with fail
  exact bodyPost_ret (res_term (p := 4) Try.results48 rfl (lz2.all _ _ _ _)) rfl (gives_all HT.out (by omega) lz.lt hbw _ _ _ _)
end Lx
end Go.Proofs.Ytgnafcnokenogaa
