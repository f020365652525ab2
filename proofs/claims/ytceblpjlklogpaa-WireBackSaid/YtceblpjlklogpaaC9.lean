/-
  Texts that lie one behind the other: NwI NwL.
-/
import Derived.Test.YtceblpjlklogpaaC7
import Derived.Test.YtceblpjlklogpaaC8
import Derived.Test.YtceblpjlklogpaaC2
namespace Go.Proofs.Ytceblpjlklogpaa
open Go Go.RowKit
namespace Lx
set_option maxRecDepth 100000
theorem at_any (a b : Int) (w : World) : Calls Try.prog 24 #[.int .i64 a, .int .i64 b] w fun e w' => e = .returned (.agg #[.int .i64 a, .int .i64 b]) ∧ Below w.heap.size w w' := by
  have hR : Lies (w.alloc (.cells #[.int .i64 0, .int .i64 0] 26)) w.heap.size 26 #[.int .i64 0, .int .i64 0] := Lies.new _ _ _
  have c0 := hR.cell 0
  have c1 := hR.cell 1
  have f0 := hR.frozen 0
  have f1 := hR.frozen 1
  simp at c0 c1
  go_enter Try.func24, Try.ntmps24
  go_wp2_with fail
  first
    | exact bodyPost_ret (res_port1 (p := 4) Try.results24 rfl (lies_put2 hR (.int .i64 a) (.int .i64 b))) rfl ⟨rfl, (((Below.refl _ w).alloc (Nat.le_refl _) _).setCell (p := ⟨w.heap.size, 0, none⟩) (Nat.le_refl _) _).setCell (p := ⟨w.heap.size, 1, none⟩) (Nat.le_refl _) _⟩
    | exact bodyPost_ret (res_port1 (p := 4) Try.results24 rfl (Lies.new w _ #[.int .i64 a, .int .i64 b])) rfl ⟨rfl, (Below.refl _ w).alloc (Nat.le_refl _) _⟩
set_option maxHeartbeats 4000000 in
theorem rnew_any (most : Int) (w : World) (h : 2 ≤ most ∧ most ≤ 4000) : Calls Try.prog 22 #[.int .i64 most] w (GivesNet newNs most [.int .i64 0] w) := by
  have e1 : decide (most < 2) = false := decide_eq_false (by omega)
  have e2 : decide (4000 < most) = false := decide_eq_false (by omega)
  go_enter Try.func22, Try.ntmps22
  go_wp2_with fail
  refine bodyPost_ret (res_net2 (p := 2) Try.results22 rfl ((((Lies.new w _ _).old _).old _).old _)) rfl ⟨some ⟨w.heap.size + 1 + 1 + 1, 0, none⟩, 2, rfl, ?_, (((((Below.refl _ w).alloc (Nat.le_refl _) _).alloc (by simp) _).alloc (by simp; omega) _).alloc (by simp; omega) _)⟩
  generalize hO1 : (Obj.cells #[Value.slice (some { block := w.heap.size + 1 + 1 + 1, off := 0 }) 2 2, Value.int IntKind.i64 most] 24) = O1
  obtain ⟨w1, hw1⟩ : ∃ w1, w1 = w.alloc O1 := ⟨_, rfl⟩
  have hs1 : w1.heap.size = w.heap.size + 1 := by rw [hw1]; simp
  rw [← hw1]
  have hP1 := lies_at (w := w1) (t := 26) (cs := #[.int .i64 1, .int .i64 0]) hs1
  obtain ⟨w2, hw2⟩ : ∃ w2, w2 = w1.alloc (.cells #[.int .i64 1, .int .i64 0] 26) := ⟨_, rfl⟩
  have hs2 : w2.heap.size = w.heap.size + 1 + 1 := by rw [hw2]; simp [hs1]
  rw [← hw2] at hP1 ⊢
  have hQ3 := lies_at (w := w2) (t := 26) (cs := #[.int .i64 0, .int .i64 0]) hs2
  have hP3 := hP1.old (.cells #[.int .i64 0, .int .i64 0] 26)
  obtain ⟨w5, hw5⟩ : ∃ w4, w4 = w2.alloc (.cells #[.int .i64 0, .int .i64 0] 26) := ⟨_, rfl⟩
  have hs5 : w5.heap.size = w.heap.size + 1 + 1 + 1 := by rw [hw5]; simp [hs2]
  rw [← hw5] at hP3 hQ3 ⊢
  have hN := lies_at (w := w5) (t := 43) (cs := #[Value.int IntKind.i64 1, Value.int IntKind.i64 0, Value.int IntKind.i64 0, Value.string { data := #[] }, Value.slice none 0 0, Value.slice (some { block := w.heap.size + 1, off := 0 }) 1 1, Value.int IntKind.i64 13, Value.int IntKind.i64 0, Value.int IntKind.i64 0, Value.string { data := #[] }, Value.slice none 0 0, Value.slice (some { block := w.heap.size + 1 + 1, off := 0 }) 1 1]) hs5
  have hP5 := hP3.old (.cells #[Value.int IntKind.i64 1, Value.int IntKind.i64 0, Value.int IntKind.i64 0, Value.string { data := #[] }, Value.slice none 0 0, Value.slice (some { block := w.heap.size + 1, off := 0 }) 1 1, Value.int IntKind.i64 13, Value.int IntKind.i64 0, Value.int IntKind.i64 0, Value.string { data := #[] }, Value.slice none 0 0, Value.slice (some { block := w.heap.size + 1 + 1, off := 0 }) 1 1] 43)
  have hQ5 := hQ3.old (.cells #[Value.int IntKind.i64 1, Value.int IntKind.i64 0, Value.int IntKind.i64 0, Value.string { data := #[] }, Value.slice none 0 0, Value.slice (some { block := w.heap.size + 1, off := 0 }) 1 1, Value.int IntKind.i64 13, Value.int IntKind.i64 0, Value.int IntKind.i64 0, Value.string { data := #[] }, Value.slice none 0 0, Value.slice (some { block := w.heap.size + 1 + 1, off := 0 }) 1 1] 43)
  intro i hi
  rcases (by simp [newNs] at hi; omega : i = 0 ∨ i = 1) with rfl | rfl
  · refine ⟨_, 0, none, 0, some ⟨w.heap.size + 1, 0, none⟩, 1, ⟨rfl, by omega⟩, ⟨hN.cell 0, hN.cell 1, hN.cell 2, hN.cell 3, hN.cell 4, hN.cell 5⟩, newNs_b1, AltIn.nil, fun j hj => ?_⟩
    obtain rfl : j = 0 := by simp [newNs] at hj; omega
    exact ⟨_, 0, ⟨rfl, by omega⟩, hP5.cell 0, hP5.cell 1⟩
  · refine ⟨_, 0, none, 0, some ⟨w.heap.size + 1 + 1, 0, none⟩, 1, ⟨rfl, by omega⟩, ⟨hN.cell 6, hN.cell 7, hN.cell 8, hN.cell 9, hN.cell 10, hN.cell 11⟩, newNs_b2, AltIn.nil, fun j hj => ?_⟩
    obtain rfl : j = 0 := by simp [newNs] at hj; omega
    exact ⟨_, 0, ⟨rfl, by omega⟩, hQ5.cell 0, hQ5.cell 1⟩
end Lx
end Go.Proofs.Ytceblpjlklogpaa
namespace Go.Proofs.Ytceblpjlklogpaa
open Go Go.RowKit
namespace Lx
set_option maxRecDepth 100000
set_option maxHeartbeats 16000000 in
theorem others_any (ns ms : List Nd) (A A' : Option Addr) (m c c' : Nat) (cap cap' : Int) (but : List (Int × Int)) (C : Option Addr) (nb cb : Nat) (w : World) (hm : m = ns.length) (hm2 : m ≤ 1000000) (hk : ∀ i, i < m → (ndAt ns i).to.length ≤ 1000000) (ho : othersN ns ms but)
    (hN : NdsIn w AnyB ns A) (hN' : NdsIn w AnyB ms A') (hnb : nb = but.length) (hnb2 : nb ≤ 1000) (hT : ToIn w AnyB but C) :
    Calls Try.prog 21 #[.agg #[.slice A m c, .int .i64 cap], .agg #[.slice A' m c', .int .i64 cap'], .slice C nb cb] w fun e w' => e = .returned (.bool true) ∧ Below w.heap.size w w' := by
  obtain ⟨w1, hw1⟩ : ∃ w1, w1 = ((w.alloc (.cells #[.slice A m c, .int .i64 cap] 24)).alloc (.cells #[.slice A' m c', .int .i64 cap'] 24)) := ⟨_, rfl⟩
  have hb : Below w.heap.size w w1 := by rw [hw1]; exact ((Below.refl _ w).alloc (Nat.le_refl _) _).alloc (by simp) _
  have L0 : Lies w1 w.heap.size 24 #[.slice A m c, .int .i64 cap] := by rw [hw1]; exact (Lies.new _ _ _).old _
  have L1 : Lies w1 (w.heap.size + 1) 24 #[.slice A' m c', .int .i64 cap'] := by rw [hw1]; simpa using Lies.new (w.alloc (.cells #[.slice A m c, .int .i64 cap] 24)) 24 #[.slice A' m c', .int .i64 cap']
  have HL0 := Lib.hid L0
  have HL1 := Lib.hid L1
  have HN := Lib.hid (hN.below hb (Nat.le_refl _))
  have HN' := Lib.hid (hN'.below hb (Nat.le_refl _))
  have HT := Lib.hid (hT.below hb (Nat.le_refl _))
  have HB := Lib.hid hb
  have HM := Lib.hid hm
  have HK := Lib.hid hk
  have HO := Lib.hid ho
  have HNB := Lib.hid hnb
  obtain ⟨n0, n1⟩ := two_cells L0
  obtain ⟨q0, q1⟩ := two_cells L1
  clear hN hN' hT hb hm hk ho hnb L0 L1
  go_enter Try.func21, Try.ntmps21
  go_upto_region 1 with fail
  rw [← hw1]
  clear hw1
  go_wp2_with fail
  go_loopw [7] (fun y wr => ∃ i : Nat, i ≤ m ∧ y = .int .i64 i ∧ Hid (Below w1.heap.size w1 wr)) (fun y _ => m - (intOf y).toNat)
  case atStart => exact ⟨0, Nat.zero_le _, rfl, Lib.hid (Below.refl _ _)⟩
  case round =>
    obtain ⟨i, hi, rfl, hbr⟩ := hrel
    clear n0 n1 q0 q1
    obtain ⟨w2, hw2⟩ : ∃ V, V = wr := ⟨_, rfl⟩
    rw [← hw2] at hbr ⊢
    clear hw2
    obtain ⟨n0, n1⟩ := two_cells (HL0.out.below hbr.out HL0.out.lt)
    obtain ⟨q0, q1⟩ := two_cells (HL1.out.below hbr.out HL1.out.lt)
    by_cases hlt : i < m
    · have hil : i < ns.length := by have := HM.out; omega
      have hil' : i < ms.length := by have := HO.out.1; omega
      obtain ⟨g, o, x, B, bb, Cx, cc, hx, rfl, _, ⟨x0, _, _, _, _, x5⟩, hI⟩ := NdsIn.get (HN.out.below hbr.out (Nat.le_refl _)) i hil
      obtain ⟨g', o', x', B', bb', Cx', cc', hx', rfl, _, ⟨y0, _, _, _, _, y5⟩, hI'⟩ := NdsIn.get (HN'.out.below hbr.out (Nat.le_refl _)) i hil'
      obtain ⟨hlen, hkind, hport⟩ := HO.out.2 i hil
      have hkl := HK.out i hlt
      rw [← hx] at hlen hkind hport hkl
      rw [← hx'] at hlen hkind hport
      obtain ⟨mt, hmt⟩ : ∃ q, q = x.to.length := ⟨_, rfl⟩
      obtain ⟨kk, hkk⟩ : ∃ q, q = x.kind := ⟨_, rfl⟩
      rw [← hmt] at x5 hlen hkl
      rw [← hkk] at x0 hkind
      rw [← hlen] at y5
      rw [← hkind] at y0
      have HX := Lib.hid hI.2.2
      have HX' := Lib.hid hI'.2.2
      have HLEN := Lib.hid hlen
      have HMT := Lib.hid hmt
      have HPO := Lib.hid hport
      have z0 := Abv.cell x0
      have z5 := Abv.cell x5
      have u0 := Abv.cell y0
      have u5 := Abv.cell y5
      have p0 := Abv.cell n0
      have r0 := Abv.cell q0
      have hcx := le_capN mt cc
      have hcx' := le_capN mt cc'
      clear hx hx' hI hI' hlen hkind hport hmt hkk
      go_upto_region 6 with fail
      clear n1 q1
      refine region_calm (by kernel_rfl) (by kernel_rfl) ?_
      repeat (go_big_quiet_step (fail))
      refine wpQuiet_nil ?_
      rintro _ ⟨V, rfl⟩
      obtain ⟨w3, hb3⟩ := V
      dsimp only
      clear p0 r0 z0 z5 u0 u5
      have hw3 := hbr.out.trans (hb3.mono hbr.out.size)
      have n0' := (hb3.cell (p := ⟨w.heap.size, 0, none⟩) (ncell_lt n0)).trans n0
      have q0' := (hb3.cell (p := ⟨w.heap.size + 1, 0, none⟩) (ncell_lt q0)).trans q0
      have x5' := (hb3.cell (p := ⟨g, _, none⟩) (ncell_lt x5)).trans x5
      have y5' := (hb3.cell (p := ⟨g', _, none⟩) (ncell_lt y5)).trans y5
      have HX3 := Lib.hid (HX.out.below hb3 (Nat.le_refl _))
      have HX3' := Lib.hid (HX'.out.below hb3 (Nat.le_refl _))
      have HW3 := Lib.hid hw3
      clear n0 q0 x0 x5 y0 y5 hb3 hw3 HX HX'
      go_wp2_with fail
      go_loopw [8] (fun y wr => ∃ k : Nat, k ≤ mt ∧ y = .int .i64 k ∧ Hid (Below w3.heap.size w3 wr)) (fun y _ => mt - (intOf y).toNat)
      case atStart => exact ⟨0, Nat.zero_le _, rfl, Lib.hid (Below.refl _ _)⟩
      case round =>
        obtain ⟨k, hk, rfl, hbr3⟩ := hrel
        obtain ⟨w4, hw4⟩ : ∃ V, V = wr := ⟨_, rfl⟩
        rw [← hw4] at hbr3 ⊢
        clear hw4
        have n0 := (hbr3.out.cell (p := ⟨w.heap.size, 0, none⟩) (ncell_lt n0')).trans n0'
        have q0 := (hbr3.out.cell (p := ⟨w.heap.size + 1, 0, none⟩) (ncell_lt q0')).trans q0'
        have x5 := (hbr3.out.cell (p := ⟨g, _, none⟩) (ncell_lt x5')).trans x5'
        have y5 := (hbr3.out.cell (p := ⟨g', _, none⟩) (ncell_lt y5')).trans y5'
        by_cases hlt2 : k < mt
        · have HAT := Lib.hid (at_any (i : Int) (k : Int) w4)
          go_wp2_with fail
          refine HAT.out.mono ?_
          rintro e u5 ⟨rfl, hb5⟩
          clear HAT
          go_upto_region 12 with fail
          obtain ⟨w5, hw5⟩ : ∃ V, V = u5.alloc (.cells #[.int .i64 i, .int .i64 k] 26) := ⟨_, rfl⟩
          obtain ⟨P, hP⟩ : ∃ P, P = u5.heap.size := ⟨_, rfl⟩
          have hbw5 : Below u5.heap.size u5 w5 := by rw [hw5]; exact (Below.refl _ u5).alloc (Nat.le_refl _) _
          have LP : Lies w5 P 26 #[.int .i64 i, .int .i64 k] := by rw [hw5, hP]; exact Lies.new _ _ _
          have hb45 := hb5.trans (hbw5.mono hb5.size)
          rw [← hw5, ← hP]
          have HLP := Lib.hid LP
          have HB45 := Lib.hid hb45
          clear hw5 hP hbw5 LP hb5 hb45
          go_wp2_with fail
          go_loopw [10, 11] (fun z y wr => ∃ j : Nat, j ≤ nb ∧ y = .int .i64 j ∧ z = .bool ((but.take j).any fun r => r == ((i : Int), (k : Int))) ∧ Hid (Below w5.heap.size w5 wr)) (fun _ y _ => nb - (intOf y).toNat)
          case atStart => exact ⟨0, Nat.zero_le _, rfl, by simp, Lib.hid (Below.refl _ _)⟩
          case round =>
            obtain ⟨j, hj, rfl, rfl, hbr5⟩ := hrel
            obtain ⟨w6, hw6⟩ : ∃ V, V = wr := ⟨_, rfl⟩
            rw [← hw6] at hbr5 ⊢
            clear hw6
            have hall := HB45.out.trans (hbr5.out.mono HB45.out.size)
            have hall3 := hbr3.out.trans (hall.mono hbr3.out.size)
            have hall1 := HW3.out.trans (hall3.mono HW3.out.size)
            have hLP := HLP.out.below hbr5.out HLP.out.lt
            have e0 := hLP.cell 0
            have e1 := hLP.cell 1
            simp at e0 e1
            obtain ⟨β, hβ⟩ : ∃ β, β = ((but.take j).any fun r => r == ((i : Int), (k : Int))) := ⟨_, rfl⟩
            rw [← hβ]
            by_cases hlt3 : j < nb
            · have hjl : j < but.length := by have := HNB.out; omega
              obtain ⟨g6, o6, ⟨rfl, _⟩, d0, d1⟩ := HT.out j hjl
              replace d0 := (hall1.cell (p := ⟨g6, o6 + j * 2, none⟩) (ncell_lt d0)).trans d0
              replace d1 := (hall1.cell (p := ⟨g6, o6 + j * 2 + 1, none⟩) (ncell_lt d1)).trans d1
              obtain ⟨ra, hra⟩ : ∃ q, q = (but[j]'hjl).1 := ⟨_, rfl⟩
              obtain ⟨rb, hrb⟩ : ∃ q, q = (but[j]'hjl).2 := ⟨_, rfl⟩
              rw [← hra] at d0
              rw [← hrb] at d1
              have HQ : Hid ((but.take (j + 1)).any (fun r => r == ((i : Int), (k : Int))) = (β || (((ra, rb) : Int × Int) == ((i : Int), (k : Int))))) := Lib.hid (by rw [List.take_succ_eq_append_getElem hjl, List.any_append, hβ, hra, hrb]; simp)
              have heq := port_eql ra rb (i : Int) (k : Int)
              have s0 := Abv.cell d0
              have s1 := Abv.cell d1
              have t0 := Abv.cell e0
              have t1 := Abv.cell e1
              clear hra hrb hβ
              cases β with
              | true =>
                simp only [Bool.true_or] at HQ
                go_upto_region 16 with fail
                refine region_calm (by kernel_rfl) (by kernel_rfl) ?_
                repeat (go_big_quiet_step (fail))
                refine wpQuiet_nil ?_
                rintro _ ⟨V, rfl⟩
                go_wp2_with fail
                go_roundw
                case rel =>
                  go_light
                  exact ⟨j + 1, by omega, by go_num, by rw [HQ.out], Lib.hid (hbr5.out.trans (V.2.mono hbr5.out.size))⟩
                case measure => simp [intOf]; omega
              | false =>
                obtain ⟨δ, hδ⟩ : ∃ δ, δ = (((ra, rb) : Int × Int) == ((i : Int), (k : Int))) := ⟨_, rfl⟩
                rw [← hδ] at heq HQ
                simp only [Bool.false_or] at HQ
                clear hδ
                go_upto_region 16 with fail
                refine region_calm (by kernel_rfl) (by kernel_rfl) ?_
                repeat (go_big_quiet_step (fail))
                refine wpQuiet_nil ?_
                rintro _ ⟨V, rfl⟩
                go_wp2_with fail
                go_roundw
                case rel =>
                  go_light
                  exact ⟨j + 1, by omega, by go_num, by rw [HQ.out], Lib.hid (hbr5.out.trans (V.2.mono hbr5.out.size))⟩
                case measure => simp [intOf]; omega
            · have hjn : j = nb := by omega
              subst hjn
              rw [List.take_of_length_le (by have := HNB.out; omega)] at hβ
              have hkx : k < x.to.length := by have := HMT.out; omega
              have hkx' : k < x'.to.length := by have := HLEN.out; omega
              obtain ⟨g7, o7, ⟨rfl, _⟩, d0, d1⟩ := HX3.out k hkx
              obtain ⟨g8, o8, ⟨rfl, _⟩, d2, d3⟩ := HX3'.out k hkx'
              replace d0 := (hall3.cell (p := ⟨g7, _, none⟩) (ncell_lt d0)).trans d0
              replace d1 := (hall3.cell (p := ⟨g7, _, none⟩) (ncell_lt d1)).trans d1
              replace d2 := (hall3.cell (p := ⟨g8, _, none⟩) (ncell_lt d2)).trans d2
              replace d3 := (hall3.cell (p := ⟨g8, _, none⟩) (ncell_lt d3)).trans d3
              have n6 := (hall3.cell (p := ⟨w.heap.size, 0, none⟩) (ncell_lt n0')).trans n0'
              have q6 := (hall3.cell (p := ⟨w.heap.size + 1, 0, none⟩) (ncell_lt q0')).trans q0'
              have x6 := (hall3.cell (p := ⟨g, _, none⟩) (ncell_lt x5')).trans x5'
              have y6 := (hall3.cell (p := ⟨g', _, none⟩) (ncell_lt y5')).trans y5'
              have s0 := Abv.cell d0
              have s1 := Abv.cell d1
              have s2 := Abv.cell d2
              have s3 := Abv.cell d3
              have t0 := Abv.cell n6
              have t1 := Abv.cell q6
              have t2 := Abv.cell x6
              have t3 := Abv.cell y6
              have HALL3 := Lib.hid hall3
              cases β with
              | true =>
                clear hβ n0 q0 x5 y5
                go_upto_region 17 with fail
                refine region_calm (by kernel_rfl) (by kernel_rfl) ?_
                repeat (go_big_quiet_step (fail))
                refine wpQuiet_nil ?_
                rintro _ ⟨V, rfl⟩
                go_wp2_with fail
                go_roundw
                case rel =>
                  go_light
                  exact ⟨k + 1, by omega, by go_num, Lib.hid (HALL3.out.trans (V.2.mono HALL3.out.size))⟩
                case measure => simp [intOf]; omega
              | false =>
                have heq9 : x.to[k]'hkx = x'.to[k]'hkx' := by
                  rcases HPO.out k hkx with h | h
                  · exfalso
                    have h2 := List.any_eq_false.1 hβ.symm _ h
                    simp at h2
                  · simpa [hkx, hkx'] using h
                obtain ⟨va, hva⟩ : ∃ q, q = (x.to[k]'hkx).1 := ⟨_, rfl⟩
                obtain ⟨vb, hvb⟩ : ∃ q, q = (x.to[k]'hkx).2 := ⟨_, rfl⟩
                rw [← heq9] at s2 s3
                rw [← hva] at s0 s2
                rw [← hvb] at s1 s3
                clear hβ n0 q0 x5 y5 d0 d1 d2 d3 heq9 hva hvb
                have hnq := port_neq va vb va vb
                simp only [beq_self_eq_true, Bool.not_true] at hnq
                go_upto_region 17 with fail
                refine region_calm (by kernel_rfl) (by kernel_rfl) ?_
                repeat (go_big_quiet_step (fail))
                refine wpQuiet_nil ?_
                rintro _ ⟨V, rfl⟩
                go_wp2_with fail
                go_roundw
                case rel =>
                  go_light
                  exact ⟨k + 1, by omega, by go_num, Lib.hid (HALL3.out.trans (V.2.mono HALL3.out.size))⟩
                case measure => simp [intOf]; omega
        · have hkm : k = mt := by omega
          subst hkm
          have HW4 := Lib.hid (HW3.out.trans (hbr3.out.mono HW3.out.size))
          go_wp2_with fail
          go_roundw
          case rel =>
            go_light
            exact ⟨i + 1, by omega, by go_num, HW4⟩
          case measure => simp [intOf]; omega
    · have him : i = m := by omega
      subst him
      go_wp2_with fail
      go_ret
      exact ⟨rfl, HB.out.trans (hbr.out.mono HB.out.size)⟩
end Lx
end Go.Proofs.Ytceblpjlklogpaa
