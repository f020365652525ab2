/-
  The reference's Put over terms, as the law of layer 11 wants it.
-/
import Derived.Test.YtcefopaphaeejaaSuPut
import Derived.Test.YtcefopaphaeejaaC6
namespace Go.Proofs.Ytcefopaphaeejaa
open Go Go.RowKit
namespace Lx
set_option maxRecDepth 100000
theorem GivesE.any {t : Te} {w w' : World} {e : Ending} (h : GivesE t w e w') : GivesT t w e w' := by
  obtain ⟨A, c, h1, h2, h3⟩ := h
  exact ⟨A, c, h1, EIn.any _ h2, h3⟩
set_option maxHeartbeats 4000000 in
theorem rput_any (t u : Te) (A Au : Option Addr) (c cu : Nat) (k : Int) (w : World) (hI : EIn w Any t A) (hd : depthE t ≤ 12000) (hs : sizeE t ≤ 100000) (ht : tameE 1099511627776 1099511627776 t)
    (hIu : EIn w Any u Au) (hdu : depthE u ≤ 12000) (hsu : sizeE u ≤ 100000) (htu : tameE 1099511627776 1099511627776 u) (h0 : -36028797018963968 ≤ k) (h1 : k ≤ 36028797018963968) :
    Calls Try.prog 28 #[ev t A c, .int .i64 k, ev u Au cu] w (GivesE (putE t k u) w) := by
  obtain ⟨tk, tn, ts, tl⟩ := t
  obtain ⟨uk, un, us, ul⟩ := u
  show Calls Try.prog 28 #[.agg #[.int .i64 tk, .int .i64 tn, .string ts, .slice A tl.length (capF tl.length c)], .int .i64 k, .agg #[.int .i64 uk, .int .i64 un, .string us, .slice Au ul.length (capF ul.length cu)]] w _
  obtain ⟨O1, hO1⟩ : ∃ O, O = Obj.cells #[.int .i64 tk, .int .i64 tn, .string ts, .slice A tl.length (capF tl.length c)] 24 := ⟨_, rfl⟩
  obtain ⟨O3, hO3⟩ : ∃ O, O = Obj.cells #[.int .i64 uk, .int .i64 un, .string us, .slice Au ul.length (capF ul.length cu)] 24 := ⟨_, rfl⟩
  obtain ⟨O4, hO4⟩ : ∃ O, O = Obj.cells #[.int .i64 0, .int .i64 0, .string ⟨#[]⟩, .slice none 0 0] 24 := ⟨_, rfl⟩
  obtain ⟨W, hW⟩ : ∃ W, W = ((w.alloc O1).alloc O3).alloc O4 := ⟨_, rfl⟩
  have hb : Below w.heap.size w W := by rw [hW]; exact (((Below.refl _ w).alloc (Nat.le_refl _) _).alloc (by simp) _).alloc (by simp; omega) _
  have hz : W.heap.size = w.heap.size + 3 := by rw [hW]; simp
  have lz : Lies W (w.heap.size + 1 + 1) 24 #[.int .i64 0, .int .i64 0, .string ⟨#[]⟩, .slice none 0 0] := by
    rw [hW, hO4]; simpa using Lies.new ((w.alloc O1).alloc O3) 24 #[.int .i64 0, .int .i64 0, .string ⟨#[]⟩, .slice none 0 0]
  have hch := rput_in k h0 h1 uk un us ul Au cu hdu hsu htu (depthE (.node tk tn ts tl)) (.node tk tn ts tl) A c 0 W (Nat.le_refl _) hd hs ht (by omega) (by omega) (EIn.below _ hI hb (Nat.le_refl _)) (EIn.below _ hIu hb (Nat.le_refl _))
  have hpe : chE (putF k (.node uk un us ul)) (.node tk tn ts tl) 0 = putE (.node tk tn ts tl) k (.node uk un us ul) := rfl
  rw [hpe] at hch
  simp only [ev, Te.kind, Te.n, Te.name, Te.parts] at hch
  have HCH := Lib.hid hch
  generalize putE (.node tk tn ts tl) k (.node uk un us ul) = U at HCH
  clear hch ht hs hd hI hIu hdu hsu htu hpe
  rw [hW, hO1, hO3, hO4] at HCH
  go_enter Try.func28, Try.ntmps28
  go_wp2_with fail
  refine HCH.out.mono ?_
  rw [← hO1, ← hO3, ← hO4, ← hW]
  clear HCH hW hO1 hO3 hO4
  rintro e w2 ⟨A2, c2, rfl, hT, hb2⟩
  obtain ⟨vk, vn, vs, vl⟩ := U
  simp only [ev, Te.kind, Te.n, Te.name, Te.parts]
  have lz2 := lz.below hb2 lz.lt
  have hbw := hb.trans (hb2.mono hb.size)
  obtain ⟨⟨x0, x1, x2, x3⟩, g0, g1, g2, g3⟩ := lz2.four
  have HT := Lib.hid hT
  clear hT hb2 hb
  go_wp2_with fail
  exact bodyPost_ret (res_term (p := 6) Try.results28 rfl (lz2.all _ _ _ _)) rfl (gives_all HT.out (by omega) lz.lt hbw _ _ _ _)
end Lx
end Go.Proofs.Ytcefopaphaeejaa
