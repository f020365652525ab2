/-
  Walk of the law TreeTells.
-/
import Derived.Test.YtakijagieladcaaDoorBox
namespace Go.Proofs.YtakijagieladcaaDoor
open Go.RowKit
namespace Lx
set_option maxHeartbeats 8000000 in
theorem ttells_any (t : Tr) (A : Option Addr) (c : Nat) (w : World) (hI : TIn w Any t A) (hg : Signs w) :
    Calls Tryd.prog 4 #[tv t A c] w fun e w' => e = .returned (.bool true) ∧ Below w.heap.size w w' := by
  obtain ⟨k, s, n, a, l⟩ := t
  show Calls Tryd.prog 4 #[.agg #[.int .i64 k, .string s, .int .i64 n, .int .i64 a, .slice A l.length c]] w _
  have hB0 := Bx.new (c := c) hI hg
  have HS := Lib.hid (hB0.small 500 (by omega) (by omega))
  have HB0 := Lib.hid hB0
  clear hI hB0
  cases hsm : decide (0 ≤ fewT (.node k s n a l) 500 200) with
  | false =>
    rw [hsm] at HS
    clear hsm
    go_enter Tryd.func4, Tryd.ntmps4
    go_wp2_with fail
    refine HS.out.mono ?_
    rintro e w1 ⟨rfl, hb1⟩
    have hB1 := HB0.out.step hb1
    go_wp2_with fail
    refine (fixT_any _ hB1.sg).mono ?_
    rintro e w2 ⟨rfl, hb2⟩
    go_wp2_with fail
    go_ret
    exact ⟨rfl, (hB1.step hb2).bw⟩
  | true =>
    have hz := (small_size hsm (by omega)).1
    rw [hsm] at HS
    clear hsm
    obtain ⟨b, hbm⟩ : ∃ b, b = mayV (.node k s n a l) := ⟨_, rfl⟩
    obtain ⟨dd, hdd⟩ : ∃ dd, dd = depthT (.node k s n a l) := ⟨_, rfl⟩
    obtain ⟨zz, hzz⟩ : ∃ zz, zz = sizeT (.node k s n a l) := ⟨_, rfl⟩
    have M0 := fun W (h : Bx w W w.heap.size k s n a l A c) => h.may
    have M1 := fun W (h : Bx w W w.heap.size k s n a l A c) => h.rmay
    have M2 := fun W (h : Bx w W w.heap.size k s n a l A c) => h.depth (by omega)
    have M3 := fun W (h : Bx w W w.heap.size k s n a l A c) => h.rdepth (by omega)
    have M4 := fun W (h : Bx w W w.heap.size k s n a l A c) => h.size (by omega)
    have M5 := fun W (h : Bx w W w.heap.size k s n a l A c) => h.rsize (by omega)
    have M6 := fun W (h : Bx w W w.heap.size k s n a l A c) => h.bare (by omega)
    have M7 := fun W (h : Bx w W w.heap.size k s n a l A c) => h.rbare (by omega)
    rw [← hbm] at M0 M1
    rw [← hdd] at M2 M3
    rw [← hzz] at M4 M5
    have HM0 := Lib.hid M0
    have HM1 := Lib.hid M1
    have HM2 := Lib.hid M2
    have HM3 := Lib.hid M3
    have HM4 := Lib.hid M4
    have HM5 := Lib.hid M5
    have HM6 := Lib.hid M6
    have HM7 := Lib.hid M7
    clear M0 M1 M2 M3 M4 M5 M6 M7 hz hbm hdd hzz
    go_enter Tryd.func4, Tryd.ntmps4
    go_wp2_with fail
    refine HS.out.mono ?_
    rintro e w1 ⟨rfl, hb1⟩
    have hB1 := HB0.out.step hb1
    clear HB0 HS hb1
    go_wp2_with fail
    obtain ⟨g, hgg⟩ : ∃ g, g = w.heap.size := ⟨_, rfl⟩
    rw [← hgg] at hB1 HM0 HM1 HM2 HM3 HM4 HM5 HM6 HM7 ⊢
    clear hgg
    have hS : ∀ V, Below w1.heap.size w1 V → V.cell? ⟨g, 0, none⟩ = some (.int .i64 k) ∧ V.cell? ⟨g, 1, none⟩ = some (.string s) ∧ V.cell? ⟨g, 2, none⟩ = some (.int .i64 n) ∧ V.cell? ⟨g, 3, none⟩ = some (.int .i64 a) ∧ V.cell? ⟨g, 4, none⟩ = some (.slice A l.length c) := fun V hb => (hB1.step hb).five
    have HS := Lib.hid hS
    have hF3 : Bx w w1.drew g k s n a l A c := hB1.step (Below.refl _ w1).drew
    have hd3 : Below w1.heap.size w1 w1.drew := (Below.refl _ w1).drew
    clear hS hB1
    go_region_held3 (fun V => V.cell? ⟨g, 0, none⟩ = some (.int .i64 k) ∧ V.cell? ⟨g, 1, none⟩ = some (.string s) ∧ V.cell? ⟨g, 2, none⟩ = some (.int .i64 n) ∧ V.cell? ⟨g, 3, none⟩ = some (.int .i64 a) ∧ V.cell? ⟨g, 4, none⟩ = some (.slice A l.length c))
      (first | exact HS.out _ hd3 | exact HS.out _ hd4 | exact HS.out _ hd5 | exact HS.out _ hd6 | exact HS.out _ hd7 | exact HS.out _ hd8 | exact HS.out _ hd9 | exact HS.out _ hd10 | exact HS.out _ hd11 | exact HS.out _ hd12 | exact HS.out _ hd13)
      ((first
        | (go_at_call 19; (refine (fixT_any _ hF3.sg).mono ?_); rintro e w4 ⟨rfl, hb4⟩; have hF4 := hF3.step hb4; have hd4 := hd3.trans (hb4.mono hd3.size))
        | (go_at_call 20; (with_reducible refine (HM0.out _ ?_).mono ?_); exact hF4; rintro e w5 ⟨rfl, hb5⟩; have hF5 := hF4.step hb5; have hd5 := hd4.trans (hb5.mono hd4.size))
        | (go_at_call 21; (with_reducible refine (HM1.out _ ?_).mono ?_); exact hF5; rintro e w6 ⟨rfl, hb6⟩; have hF6 := hF5.step hb6; have hd6 := hd5.trans (hb6.mono hd5.size))
        | (go_at_call 22; (with_reducible refine (HM2.out _ ?_).mono ?_); exact hF6; rintro e w7 ⟨rfl, hb7⟩; have hF7 := hF6.step hb7; have hd7 := hd6.trans (hb7.mono hd6.size))
        | (go_at_call 23; (with_reducible refine (HM3.out _ ?_).mono ?_); exact hF7; rintro e w8 ⟨rfl, hb8⟩; have hF8 := hF7.step hb8; have hd8 := hd7.trans (hb8.mono hd7.size))
        | (go_at_call 24; (with_reducible refine (HM4.out _ ?_).mono ?_); exact hF8; rintro e w9 ⟨rfl, hb9⟩; have hF9 := hF8.step hb9; have hd9 := hd8.trans (hb9.mono hd8.size))
        | (go_at_call 25; (with_reducible refine (HM5.out _ ?_).mono ?_); exact hF9; rintro e w10 ⟨rfl, hb10⟩; have hF10 := hF9.step hb10; have hd10 := hd9.trans (hb10.mono hd9.size))
        | (go_at_call 27; (with_reducible refine (HM6.out _ ?_).mono ?_); exact hF10; rintro e w11 ⟨A1, c1, rfl, hT1, hb11⟩; have hF11 := hF10.step hb11; have hd11 := hd10.trans (hb11.mono hd10.size))
        | (go_at_call 28; (with_reducible refine (HM7.out _ ?_).mono ?_); exact hF11; rintro e w12 ⟨A2, c2, rfl, hT2, hb12⟩; have hF12 := hF11.step hb12; have hd12 := hd11.trans (hb12.mono hd11.size))
        | (go_at_call 26; (with_reducible refine (one_bare hT1 hT2 hb12).mono ?_); rintro e w13 ⟨rfl, hb13⟩; have hF13 := hF12.step hb13; have hd13 := hd12.trans (hb13.mono hd12.size))))
    go_wp2_with fail
    go_ret
    exact ⟨rfl, hF13.bw⟩
end Lx
end Go.Proofs.YtakijagieladcaaDoor
