/-
  Texts that lie one behind the other: GBs GAppC GAlt.
-/
import Derived.Test.YtobdoahdjbmflaaGreatDoorC19
import Derived.Deep.AppendLies
namespace Go.Proofs.YtobdoahdjbmflaaGreatDoor
open Go.RowKit
namespace Lx
set_option maxRecDepth 100000
theorem own_far {w : World} {base n size : Nat} {v : Value} {e : TypeId} {xs : List Value} (h : w.ownsRow base e size v n xs) {p : Addr} (hp : v.ownBlock ≠ some p.block) (u : Value) : (w.setCell p u).ownsRow base e size v n xs :=
  h.kept (row := some p.block) ⟨rfl, rfl, rfl, by simp, fun q _ hq => Below.heap_setCell w p u q (fun e => hq (by rw [e]))⟩ (.inr hp)
structure GBs (w : World) (b : Nat) (t : TypeId) (cs : Value → Array Value) (pl : List Tr) (B : Option Addr) (bc : Nat) (xs : List Value) (V : World) : Prop where
  bw : Below w.heap.size w V
  res : Lies V w.heap.size 68 zero7
  box : Lies V b t (cs (.slice B pl.length bc))
  own : V.ownsRow (w.heap.size + 1) 24 5 (.slice B pl.length bc) pl.length xs
  row : RowTr V (fun g => (w.heap.size + 1 ≤ g ∧ g ≠ b) ∧ some g ≠ (Value.slice B pl.length bc).ownBlock) pl xs
  le : w.heap.size + 1 ≤ b
  ne : (Value.slice B pl.length bc).ownBlock ≠ some b
theorem GBs.sz {w : World} {b : Nat} {t : TypeId} {cs : Value → Array Value} {pl : List Tr} {B : Option Addr} {bc : Nat} {xs : List Value} {V : World} (h : GBs w b t cs pl B bc xs V) : b + 1 ≤ V.heap.size := h.box.lt
theorem GBs.below {w : World} {b : Nat} {t : TypeId} {cs : Value → Array Value} {pl : List Tr} {B : Option Addr} {bc : Nat} {xs : List Value} {V V' : World} (h : GBs w b t cs pl B bc xs V) (hb : Below V.heap.size V V') : GBs w b t cs pl B bc xs V' :=
  ⟨below_two h.bw (Below.mono hb (Nat.le_refl _)), h.res.below hb h.res.lt, h.box.below hb h.box.lt, own_below h.own hb (Nat.le_refl _), h.row.below hb (Nat.le_refl _), h.le, h.ne⟩
/-- Another cell of the box is written. -/
theorem GBs.put {w : World} {b : Nat} {t : TypeId} {cs cs' : Value → Array Value} {pl : List Tr} {B : Option Addr} {bc : Nat} {xs : List Value} {V : World} (h : GBs w b t cs pl B bc xs V) (j : Nat) (u : Value) (hcs : ∀ v, (cs v).setIfInBounds j u = cs' v) :
    GBs w b t cs' pl B bc xs (V.setCell ⟨b, j, none⟩ u) := by
  have hle := h.le
  refine ⟨h.bw.setCell (p := ⟨b, j, none⟩) (by show w.heap.size ≤ b; omega) u, h.res.far (p := ⟨b, j, none⟩) (by show w.heap.size ≠ b; omega) u, ?_, own_far h.own (p := ⟨b, j, none⟩) h.ne u, h.row.setCell ⟨b, j, none⟩ u (fun h => h.1.2 rfl), hle, h.ne⟩
  have := h.box.put j u
  rwa [hcs] at this
/-- Behind an append of a tree. -/
theorem GBs.push {w : World} {b : Nat} {t : TypeId} {cs : Value → Array Value} {pl : List Tr} {B : Option Addr} {bc : Nat} {xs : List Value} {V V5 V7 : World} {u : Tr} {A : Option Addr} {c gg c3 : Nat}
    (h : GBs w b t cs pl B bc xs V) (hcs : ∀ v v', (cs v).setIfInBounds 4 v' = cs v') (hm : Below V.heap.size V V5) (hTu : TIn V5 (fun g => V.heap.size ≤ g) u A)
    (hown7 : V7.ownsRow (w.heap.size + 1) 24 5 (.slice (some ⟨gg, 0, none⟩) (pl.length + 1) c3) (pl.length + 1) (xs ++ cellsT u A c))
    (hg7 : (V5.alloc (.cells #[.int .i64 u.kind, .string u.name, .int .i64 u.n, .int .i64 u.place, .slice A u.parts.length (capF u.parts.length c)] 24)).grownBy V7 (Value.slice B pl.length bc).ownBlock)
    (hat : (Value.slice B pl.length bc).ownBlock = some gg ∨ gg = V5.heap.size + 1) :
    Lies V7 b t (cs (.slice B pl.length bc)) ∧ GBs w b t cs (pl ++ [u]) (some ⟨gg, 0, none⟩) c3 (xs ++ cellsT u A c) (V7.setCell ⟨b, 4, none⟩ (.slice (some ⟨gg, 0, none⟩) (pl.length + 1) c3)) := by
  have hsz := h.sz
  have hle := h.le
  have hs5 := hm.size
  have h5 := h.below hm
  have hlt5 := h5.own.lt
  have hlta := h.own.lt
  have hY5 : TIn V5 (fun g => (w.heap.size + 1 ≤ g ∧ g ≠ b) ∧ some g ≠ (Value.slice B pl.length bc).ownBlock) u A := TIn.wide _ hTu fun g hg _ => by
    have h9 : V.heap.size ≤ g := hg
    exact ⟨⟨by omega, by omega⟩, fun e => by have := (hlta g e.symm).2; omega⟩
  have hba6 := (Below.refl _ V5).alloc (Nat.le_refl _) (.cells #[.int .i64 u.kind, .string u.name, .int .i64 u.n, .int .i64 u.place, .slice A u.parts.length (capF u.parts.length c)] 24)
  have h6 := h5.below hba6
  have hY6 := TIn.below _ hY5 hba6 (Nat.le_refl _)
  have hB7 := h6.box.grown hg7 (fun e => h.ne e.symm)
  have hT7 := h6.res.grown hg7 (fun e => by have := (hlt5 _ e.symm).1; omega)
  have hbw7 : Below w.heap.size w V7 := h6.bw.grown hg7 h6.bw.size (fun g hg => by have := (hlt5 _ hg).1; omega)
  have hs7 := hg7.size
  simp at hs7
  have hgg : gg ≠ b := by
    rcases hat with h9 | h9
    · intro e
      exact h.ne (by rw [h9, e])
    · omega
  have hfar : ∀ q j, q < (V5.alloc (.cells #[.int .i64 u.kind, .string u.name, .int .i64 u.n, .int .i64 u.place, .slice A u.parts.length (capF u.parts.length c)] 24)).heap.size → ((w.heap.size + 1 ≤ q ∧ q ≠ b) ∧ some q ≠ (Value.slice B pl.length bc).ownBlock) → q ≠ gg → V7.cell? ⟨q, j, none⟩ = (V5.alloc (.cells #[.int .i64 u.kind, .string u.name, .int .i64 u.n, .int .i64 u.place, .slice A u.parts.length (capF u.parts.length c)] 24)).cell? ⟨q, j, none⟩ ∧ ((w.heap.size + 1 ≤ q ∧ q ≠ b) ∧ some q ≠ (Value.slice (some ⟨gg, 0, none⟩) (pl.length + 1) c3).ownBlock) := fun q j hb hX hne =>
    ⟨World.cell?_of_block (a := ⟨q, j, none⟩) (hg7.block q hb hX.2), hX.1, fun e => hne (Option.some.inj e)⟩
  have hbg : ∀ q, q < (V5.alloc (.cells #[.int .i64 u.kind, .string u.name, .int .i64 u.n, .int .i64 u.place, .slice A u.parts.length (capF u.parts.length c)] 24)).heap.size → some q ≠ (Value.slice B pl.length bc).ownBlock → q ≠ gg := fun q hb hne e => by
    rcases hat with h | h
    · exact hne (by rw [h, e])
    · simp at hb; omega
  have hrow7 : RowTr V7 (fun g => (w.heap.size + 1 ≤ g ∧ g ≠ b) ∧ some g ≠ (Value.slice (some ⟨gg, 0, none⟩) (pl.length + 1) c3).ownBlock) pl xs := h6.row.keep fun q j hX hb => hfar q j hb hX (hbg q hb hX.2)
  have hY7 : TIn V7 (fun g => (w.heap.size + 1 ≤ g ∧ g ≠ b) ∧ some g ≠ (Value.slice (some ⟨gg, 0, none⟩) (pl.length + 1) c3).ownBlock) u A := TIn.keep _ hY6 fun q j hX hb => hfar q j hb hX (hbg q hb hX.2)
  have hrow8 := hrow7.snoc (c := c) hY7
  have hl : (pl ++ [u]).length = pl.length + 1 := by simp
  refine ⟨hB7, ?_⟩
  refine ⟨hbw7.setCell (p := ⟨b, 4, none⟩) (by show w.heap.size ≤ b; omega) _, hT7.far (p := ⟨b, 4, none⟩) (by show w.heap.size ≠ b; omega) _, ?_, ?_, ?_, hle, fun e => hgg (Option.some.inj e)⟩
  · rw [hl]
    have := hB7.put 4 (.slice (some ⟨gg, 0, none⟩) (pl.length + 1) c3)
    rwa [hcs] at this
  · rw [hl]
    exact own_far hown7 (p := ⟨b, 4, none⟩) (fun e => hgg (Option.some.inj e)) _
  · rw [hl]
    exact hrow8.setCell ⟨b, 4, none⟩ _ (fun h => h.1.2 rfl)
/-- The tree that is done. -/
theorem GBs.tin {w : World} {b : Nat} {t : TypeId} {cs : Value → Array Value} {pl : List Tr} {B : Option Addr} {bc : Nat} {xs : List Value} {V : World} (h : GBs w b t cs pl B bc xs V) (k num a : Int) (nm : ByteArray) (hn : nm.size ≤ 140737488351232) (hp : pl.length ≤ 60000) :
    TIn V (fun g => w.heap.size + 1 ≤ g) (.node k nm num a pl) B := by
  have := h.le
  exact TIn.mk hn (by omega) (RowTr.owned h.row h.own (fun g hg => by omega) (fun g h _ => h.1.1))
/-- A row is as long as its capacity at most. -/
theorem GBs.cap {w : World} {b : Nat} {t : TypeId} {cs : Value → Array Value} {pl : List Tr} {B : Option Addr} {bc : Nat} {xs : List Value} {V : World} (h : GBs w b t cs pl B bc xs V) : pl.length ≤ bc ∨ pl.length = 0 := by
  rcases h.own.2 with ⟨e, h0⟩ | ⟨g, cap, cur, e, _, _, hle, _⟩
  · exact .inr h0
  · injection e with e1 e2 e3
    subst e3
    exact .inl hle
theorem GBs.capF {w : World} {b : Nat} {t : TypeId} {cs : Value → Array Value} {pl : List Tr} {B : Option Addr} {bc : Nat} {xs : List Value} {V : World} (h : GBs w b t cs pl B bc xs V) : Lx.capF pl.length bc = bc := by
  unfold Lx.capF
  rcases h.cap with h | h <;> omega
end Lx
end Go.Proofs.YtobdoahdjbmflaaGreatDoor
namespace Go.Proofs.YtobdoahdjbmflaaGreatDoor
open Go.RowKit
namespace Lx
set_option maxRecDepth 100000
def jAt (wr : World) (b : Nat) : Nat := match wr.cell? ⟨b, 5, none⟩ with | some (.int _ z) => z.toNat | _ => 0
theorem jAt_lies {wr : World} {b : Nat} {t : TypeId} {a0 a1 a2 a3 a4 a6 : Value} {j : Nat} (h : Lies wr b t #[a0, a1, a2, a3, a4, .int .i64 j, a6]) : jAt wr b = j := by
  unfold jAt
  rw [h.cell 5]
  simp
theorem appL_stop {l : List Tok} {con : Bool} {j g : Nat} {a : Tr} (h : atomicA l j = false) : gAppL (g + 1) l con a j = .ok (a, j) := by rw [gAppL, if_neg (by simp [h])]
theorem xAt_con {l : List Tok} {i : Nat} (hk : kAt l i = 2) : xAt l i = [] := by
  unfold xAt
  unfold kAt at hk
  cases hl : l[i]? with
  | none => rfl
  | some t => rw [hl] at hk; simp only at hk; simp only; rw [if_neg (by omega)]
theorem gatom_con {f : Nat} {l : List Tok} {i : Nat} (hk : kAt l i = 2) : gAtom (f + 1) l i = .ok (.node 6 (nmAt l i) 0 (plAt l i) [], i + 1) := by
  rw [gAtom, xAt_con hk, hk]
  simp
theorem gpost_row {w V : World} {r : GR} {k num a : Int} {s : ByteArray} {l : List Tr} {A : Option Addr} {j n c : Nat} (hn : l.length = n) (hc : capF l.length c = c) (hr : r = .ok (.node k s num a l, j)) (hb : Below w.heap.size w V) (hT : TIn V (fun g => w.heap.size + 1 ≤ g) (.node k s num a l) A) :
    GPost w r (.returned (.agg #[.int .i64 k, .string s, .int .i64 num, .int .i64 a, .slice A n c, .int .i64 j, .bool true]))
      (put7 V w.heap.size (.int .i64 k) (.string s) (.int .i64 num) (.int .i64 a) (.slice A n c) (.int .i64 j) (.bool true)) := by
  subst hn
  have h := gpost_ok (c := c) hr hb hT
  unfold gv at h
  simp only [Tr.kind, Tr.name, Tr.n, Tr.place, Tr.parts, hc] at h
  exact h
set_option maxHeartbeats 4000000 in
theorem gatomc_any {l : List Tok} {A : Option Addr} {n c : Nat} (T : GTok l n) (i : Nat) (w : World) (hi : i ≤ n + 8) (hR : Row w A l) (hk : kAt l i = 2) :
    Calls Tryz.prog 101 #[.slice A n c, .int .i64 i] w fun e w' => e = .returned (.agg #[.int .i64 6, .string (nmAt l i), .int .i64 0, .int .i64 (plAt l i), .slice none 0 0, .int .i64 ((i : Int) + 1), .bool true]) ∧ Below w.heap.size w w' := by
  have h6 := T.few
  have hb0 := below_seven (w := w)
  have hR1 := hR.at_new hb0
  have HX := Lib.hid (gtext_any l A n c i (w.alloc (.cells zero7 68)) T.len (by omega) h6 hR1)
  have HK := Lib.hid (gkind_any l A n c i (w.alloc (.cells zero7 68)) T.len (by omega) h6 hR1)
  have hL := Lies.new w 68 zero7
  rw [xAt_con hk] at HX
  have hlt : i < l.length := kAt_lt (by omega)
  have hlt' : i < n := by rw [T.len]; exact hlt
  obtain ⟨g, o, rfl, c0, c1, c2, c3⟩ := hR1.get hlt
  rw [hk] at HK
  clear c0
  have HY := Lib.hid (fun V => gyes_at 6 0 (plAt l i) (nmAt l i) none 0 0 (i + 1) ((i : Int) + 1) V (by simp))
  obtain ⟨NM, hNM⟩ : ∃ NM, NM = nmAt l i := ⟨_, rfl⟩
  obtain ⟨NU, hNU⟩ : ∃ NU, NU = nuAt l i := ⟨_, rfl⟩
  obtain ⟨PL, hPL⟩ : ∃ PL, PL = plAt l i := ⟨_, rfl⟩
  rw [← hNM] at c1 HY ⊢
  rw [← hNU] at c2
  rw [← hPL] at c3 HY ⊢
  clear hNM hNU hPL hR1 hR T
  go_enter Tryz.func101, Tryz.ntmps101
  go_wp2_with fail
  refine HX.out.mono ?_
  rintro e w' ⟨rfl, rfl⟩
  go_wp2_with fail
  refine HK.out.mono ?_
  rintro e w' ⟨rfl, rfl⟩
  go_wp2_with fail
  generalize hW : (w.alloc (.cells zero7 68)) = wr at hb0 hL c1 c2 c3 ⊢
  clear hW HX HK
  go_still_tail 13, (by kernel_rfl)
  change wpList _ _ _ _ _ wr.drew
  go_wp2_with fail
  refine (HY.out _).mono ?_
  rintro e V ⟨rfl, hb2⟩
  have hb := (hb0.drew).trans (hb2.mono (by exact hb0.size))
  have L9 := (hL.drew).below hb2 hL.lt
  have q9 := L9.seven
  go_wp2_with fail
  exact bodyPost_ret (res_got (p := 4) Tryz.results101 rfl (Lies.all7 L9 _ _ _ _ _ _ _)) rfl ⟨rfl, Below.all7 hb (Nat.le_refl _) _ _ _ _ _ _ _⟩
set_option maxHeartbeats 16000000 in
theorem gappc_any {l : List Tok} {A : Option Addr} {n c f : Nat} (T : GTok l n) (HAt : ∀ g, g ≤ f → GC 101 l A n c 1 gAtom g) (i : Nat) (w : World) (hi : i ≤ n + 8) (hf : 8 * (n - i) + 2 ≤ f + 1) (hR : Row w A l) (hk : kAt l i = 2) :
    Calls Tryz.prog 91 #[.slice A n c, .int .i64 i] w (GPost w (gApp (f + 1) l i)) := by
  have h6 := T.few
  have hb0 := below_seven (w := w)
  have hR1 := hR.at_new hb0
  have hL := Lies.new w 68 zero7
  have hlt : i < n := by rw [T.len]; exact kAt_lt (by omega)
  have hln1 : n ≤ l.length := Nat.le_of_eq T.len
  have hln2 : l.length ≤ n := Nat.le_of_eq T.len.symm
  have HC := Lib.hid (gatomc_any (c := c) T i (w.alloc (.cells zero7 68)) hi hR1 hk)
  have HE : Hid (gApp (f + 1) l i = gAppL f l true (.node 6 (nmAt l i) 0 (plAt l i) []) (i + 1)) := by
    refine Lib.hid ?_
    obtain ⟨f', rfl⟩ : ∃ q, f = q + 1 := ⟨f - 1, by omega⟩
    rw [gApp, gatom_con hk, hk]
    rfl
  have HKK := Lib.hid (fun V (h : Row V A l) => gkind_at l A n c i (i : Int) V rfl T.len (by omega) h6 h)
  rw [hk] at HKK
  obtain ⟨NM, hNM⟩ : ∃ q, q = nmAt l i := ⟨_, rfl⟩
  obtain ⟨PL, hPL⟩ : ∃ q, q = plAt l i := ⟨_, rfl⟩
  have hNMs : NM.size ≤ 140737488351232 := by rw [hNM]; exact T.small _
  rw [← hNM, ← hPL] at HE HC
  clear hNM hPL hk hR1
  obtain ⟨i0, hi0, hz0, hz1, hz2⟩ := info_parts infoT
  go_enter Tryz.func91, Tryz.ntmps91
  go_wp2_with fail
  refine HC.out.mono ?_
  rintro e V ⟨rfl, hbV⟩
  have hb := hb0.trans (hbV.mono hb0.size)
  have L := hL.below hbV (by simp)
  have hsz := hbV.size
  have hbA := hb.alloc hb.size (.cells #[.int .i64 6, .string NM, .int .i64 0, .int .i64 PL, .slice none 0 0, .int .i64 ((i : Int) + 1), .bool true] 68)
  have Lr := L.old (.cells #[.int .i64 6, .string NM, .int .i64 0, .int .i64 PL, .slice none 0 0, .int .i64 ((i : Int) + 1), .bool true] 68)
  have L7 := Lies.new V 68 #[.int .i64 6, .string NM, .int .i64 0, .int .i64 PL, .slice none 0 0, .int .i64 ((i : Int) + 1), .bool true]
  have hwV : w.heap.size + 1 ≤ V.heap.size := by simpa using hsz
  have HK := Lib.hid (HKK.out _ (hR.below hbA (Nat.le_refl _)))
  obtain ⟨b5, hb5⟩ : ∃ b5, b5 = V.heap.size := ⟨_, rfl⟩
  rw [← hb5] at L7 hwV
  clear HKK
  go_wp2_with fail
  refine HK.out.mono ?_
  rintro e w' ⟨rfl, rfl⟩
  go_wp2_with fail
  rw [← hb5]
  obtain ⟨VA, hVA⟩ : ∃ VA, VA = V.alloc (.cells #[.int .i64 6, .string NM, .int .i64 0, .int .i64 PL, .slice none 0 0, .int .i64 ((i : Int) + 1), .bool true] 68) := ⟨_, rfl⟩
  rw [← hVA] at hbA Lr L7 ⊢
  clear hVA hb5 hb L hbV hsz hL HC HK
  have hG0 : GBs w b5 68 (fun v => #[.int .i64 6, .string NM, .int .i64 0, .int .i64 PL, v, .int .i64 ((i : Int) + 1), .bool true]) [] none 0 [] VA := ⟨hbA, Lr, L7, World.ownsRow_nil _ _ _ _, RowTr.nil _ _, hwV, by simp [Value.ownBlock]⟩
  go_loopw [] (fun wr => ∃ (j g : Nat) (pl : List Tr) (B : Option Addr) (bc : Nat) (xs : List Value), gApp (f + 1) l i = gAppL g l true (.node 6 NM 0 PL pl) j ∧ 8 * (n - j) + 2 ≤ g ∧ g ≤ f ∧ j ≤ n ∧ pl.length ≤ 8 ∧ GBs w b5 68 (fun v => #[.int .i64 6, .string NM, .int .i64 0, .int .i64 PL, v, .int .i64 (j : Int), .bool true]) pl B bc xs wr) (fun wr => n + 1 - jAt wr b5)
  case atStart => exact ⟨i + 1, f, [], none, 0, [], HE.out, by omega, Nat.le_refl _, by omega, by simp, by simpa using hG0⟩
  case round =>
    clear hbA Lr L7 HE hG0 hwV
    obtain ⟨j, g, pl, B, bc, xs, hE, hg1, hg2, hj, hp8, hG⟩ := hrel
    obtain ⟨g, rfl⟩ : ∃ q, g = q + 1 := ⟨g - 1, by omega⟩
    have hbw := hG.bw
    have Lr := hG.res
    have hRw := hR.below hbw (Nat.le_refl _)
    have L7 : Lies wr b5 68 #[.int .i64 6, .string NM, .int .i64 0, .int .i64 PL, .slice B pl.length bc, .int .i64 j, .bool true] := hG.box
    have HJ := Lib.hid (jAt_lies L7)
    have HAC := Lib.hid (gatomic_any l A n c j wr T.len (by omega) h6 hRw)
    by_cases ha : atomicA l j = true
    · rw [ha] at HAC
      by_cases h8 : pl.length = 8
      · have HE2 : gAppL (g + 1) l true (.node 6 NM 0 PL pl) j = .error j := by
          rw [gAppL, if_pos ha, if_pos ⟨rfl, h8⟩]
        rw [HE2] at hE
        replace hE := Lib.hid hE
        have HN := Lib.hid (gno_j j j wr rfl)
        rw [h8] at L7
        obtain ⟨⟨q0, q1, q2, q3, q4, q5, q6⟩, _⟩ := L7.seven
        clear ha HE2 h8 hG hp8
        go_wp2_with fail
        refine HAC.out.mono ?_
        rintro e w' ⟨rfl, rfl⟩
        go_wp2_with fail
        refine HN.out.mono ?_
        rintro e V2 ⟨rfl, hb2⟩
        have L9 := Lr.below hb2 Lr.lt
        have q9 := L9.seven
        have hb9 := hbw.trans (hb2.mono hbw.size)
        clear q0 q1 q2 q3 q4 q5 q6
        go_wp2_with fail
        exact bodyPost_ret (res_got (p := 4) Tryz.results91 rfl (Lies.all7 L9 _ _ _ _ _ _ _)) rfl (gpost_err (j := j) hE.out hb9)
      · have HC := Lib.hid (HAt g (by omega) j (j : Int) wr rfl (by omega) (by omega) hRw)
        have hpo := (prog_all g).atom l j
        have HE2 : gAppL (g + 1) l true (.node 6 NM 0 PL pl) j = (match gAtom g l j with | .error j2 => .error j2 | .ok (b, j2) => gAppL g l true (.node 6 NM 0 PL (pl ++ [b])) j2) := by
          rw [gAppL, if_pos ha, if_neg (fun h => h8 h.2)]
          all_goals (rcases gAtom g l j with j9 | ⟨b9, j9⟩ <;> rfl)
        rw [HE2] at hE
        replace hE := Lib.hid hE
        obtain ⟨m, hm⟩ : ∃ m, m = pl.length := ⟨_, rfl⟩
        rw [← hm] at L7 h8 hp8
        have h8i : ¬ (m : Int) = 8 := by omega
        have h8b : ((m : Int) == 8) = false := by simpa using h8i
        obtain ⟨⟨q0, q1, q2, q3, q4, q5, q6⟩, _⟩ := L7.seven
        have HM := Lib.hid hm
        clear ha HE2 hm
        go_wp2_with fail
        refine HAC.out.mono ?_
        rintro e w' ⟨rfl, rfl⟩
        go_wp2_with fail
        refine HC.out.mono ?_
        intro e V2 hG2
        clear HAC HC q0 q1 q2 q3 q4 q5 q6
        rcases hG2.split with ⟨j2, hr2, rfl⟩ | ⟨u, j2, A3, cu, hr2, rfl, hT2⟩
        · replace hE := hE.out
          rw [hr2] at hE
          have L9 := (Lr.below hG2.1 Lr.lt).old (.cells #[.int .i64 0, .string ⟨#[]⟩, .int .i64 0, .int .i64 0, .slice none 0 0, .int .i64 j2, .bool false] 68)
          have q9 := L9.seven
          have hb9 := hbw.trans (hG2.1.mono hbw.size)
          have hb9 := hb9.alloc hb9.size (.cells #[.int .i64 0, .string ⟨#[]⟩, .int .i64 0, .int .i64 0, .slice none 0 0, .int .i64 j2, .bool false] 68)
          go_wp2_with fail
          exact bodyPost_ret (res_got (p := 4) Tryz.results91 rfl (Lies.all7 L9 _ _ _ _ _ _ _)) rfl (gpost_err hE hb9)
        · replace hE := hE.out
          rw [hr2] at hE
          replace hE := Lib.hid hE
          have hpr2 := hpo u j2 hr2
          obtain ⟨uk, us, un, ua, ul⟩ := u
          simp only [Tr.kind, Tr.name, Tr.n, Tr.place, Tr.parts]
          have hm5 := hG2.1.alloc hG2.1.size (.cells #[.int .i64 uk, .string us, .int .i64 un, .int .i64 ua, .slice A3 ul.length (capF ul.length cu), .int .i64 j2, .bool true] 68)
          have LU := Lies.new V2 68 #[.int .i64 uk, .string us, .int .i64 un, .int .i64 ua, .slice A3 ul.length (capF ul.length cu), .int .i64 j2, .bool true]
          have hs2 := hG2.1.size
          have hTu := TIn.below _ hT2 ((Below.refl _ V2).alloc (Nat.le_refl _) (.cells #[.int .i64 uk, .string us, .int .i64 un, .int .i64 ua, .slice A3 ul.length (capF ul.length cu), .int .i64 j2, .bool true] 68)) (Nat.le_refl _)
          obtain ⟨b7, hb7⟩ : ∃ b7, b7 = V2.heap.size := ⟨_, rfl⟩
          rw [← hb7] at LU
          have hwb : wr.heap.size ≤ b7 := by omega
          clear hr2 hG2 hT2 Lr L7 hpo
          go_upto_region 10 with fail
          rw [← hb7]
          obtain ⟨V5, hV5⟩ : ∃ q, q = V2.alloc (.cells #[.int .i64 uk, .string us, .int .i64 un, .int .i64 ua, .slice A3 ul.length (capF ul.length cu), .int .i64 j2, .bool true] 68) := ⟨_, rfl⟩
          rw [← hV5] at hm5 LU hTu ⊢
          clear hV5 hb7
          have hG5 := hG.below hm5
          have L75 : Lies V5 b5 68 #[.int .i64 6, .string NM, .int .i64 0, .int .i64 PL, .slice B m bc, .int .i64 j, .bool true] := by rw [HM.out]; exact hG5.box
          obtain ⟨⟨q0, q1, q2, q3, q4, q5, q6⟩, _⟩ := L75.seven
          obtain ⟨⟨r0, r1, r2, r3, r4, r5, r6⟩, _⟩ := LU.seven
          have hown := hG5.own
          have hlto := hG.own.lt
          rw [← HM.out] at hown
          have h5lt := hG.sz
          have hle5 := hG.le
          have hs5 := hm5.size
          go_wp2_with (at_builtin; refine wpList_append_lies _ rfl _ _ 22 rfl (w.heap.size + 1) 24 i0 _ 5 64 Tryz.underlying22 hi0 hz0 hz1 hz2 rfl (by decide) (.slice B m bc) m xs rfl (own_below hown ((Below.refl _ V5).alloc (Nat.le_refl _) _) (Nat.le_refl _)) ⟨V5.heap.size, 0, none⟩ 1 1 [.int .i64 uk, .string us, .int .i64 un, .int .i64 ua, .slice A3 ul.length (capF ul.length cu)] rfl rfl ?c1 ?c2 (by omega) ?c3 ?c4 ?c5 (V5.heap.size + 1) (by simp) ?_)
          case c2 => simp [Value.oneCell']
          case c3 => first | omega | (simp only [maxLen]; omega)
          case c4 => omega
          case c5 => first | omega | (simp; omega)
          intro gg c3 w7 hown7 hg7 hat hltg
          clear q0 q1 q2 q3 q4 q5 q6 r0 r1 r2 r3 r4 r5 r6
          have hP := hG.push (u := .node uk us un ua ul) (A := A3) (c := cu) (gg := gg) (c3 := c3) (fun _ _ => rfl) hm5 hTu (by rw [← HM.out]; exact hown7) (by rw [← HM.out]; exact hg7) (by rw [← HM.out]; exact hat)
          obtain ⟨hB7, hG7⟩ := hP
          rw [← HM.out] at hB7 hG7
          have L77 : Lies w7 b5 68 #[.int .i64 6, .string NM, .int .i64 0, .int .i64 PL, .slice B m bc, .int .i64 j, .bool true] := hB7
          have L78 : Lies (w7.setCell ⟨b5, 4, none⟩ (.slice (some ⟨gg, 0, none⟩) (m + 1) c3)) b5 68 #[.int .i64 6, .string NM, .int .i64 0, .int .i64 PL, .slice (some ⟨gg, 0, none⟩) (m + 1) c3, .int .i64 j, .bool true] := by simpa using L77.put 4 (.slice (some ⟨gg, 0, none⟩) (m + 1) c3)
          have LU7 := (LU.old (.cells #[.int .i64 uk, .string us, .int .i64 un, .int .i64 ua, .slice A3 ul.length (capF ul.length cu)] 24)).grown hg7 (fun e => by rw [HM.out] at e; have := (hlto _ e.symm).2; omega)
          have LU8 := LU7.far (p := ⟨b5, 4, none⟩) (by show b7 ≠ b5; omega) (.slice (some ⟨gg, 0, none⟩) (m + 1) c3)
          have HGP := Lib.hid (hG7.put 5 (.int .i64 j2) (cs' := (fun v => #[.int .i64 6, .string NM, .int .i64 0, .int .i64 PL, v, .int .i64 (j2 : Int), .bool true])) (fun _ => rfl))
          have HJ2 := Lib.hid (show Lies ((w7.setCell ⟨b5, 4, none⟩ (.slice (some ⟨gg, 0, none⟩) (m + 1) c3)).setCell ⟨b5, 5, none⟩ (.int .i64 j2)) b5 68 #[.int .i64 6, .string NM, .int .i64 0, .int .i64 PL, .slice (some ⟨gg, 0, none⟩) (m + 1) c3, .int .i64 j2, .bool true] from by simpa using L78.put 5 (.int .i64 j2))
          obtain ⟨⟨q0, q1, q2, q3, q4, q5, q6⟩, e0, e1, e2, e3, e4, e5, e6⟩ := L77.seven
          obtain ⟨⟨p0, p1, p2, p3, p4, p5, p6⟩, d0, d1, d2, d3, d4, d5, d6⟩ := L78.seven
          obtain ⟨⟨r0, r1, r2, r3, r4, r5, r6⟩, _⟩ := LU8.seven
          clear hown7 hg7 hat hB7 hG7 LU7 LU8 L77 L78 hG5 L75 hown hG hTu hm5
          go_wp2_with fail
          go_roundw
          case rel =>
            exact ⟨j2, g, pl ++ [.node uk us un ua ul], some ⟨gg, 0, none⟩, c3, _, hE.out, by omega, by omega, by omega, by have := HM.out; simp; omega, HGP.out⟩
          case measure =>
            rw [jAt_lies HJ2.out, HJ.out]
            omega
    · have ha' : atomicA l j = false := by simpa using ha
      rw [appL_stop ha'] at hE
      rw [ha'] at HAC
      have L9 := Lr
      have q9 := L9.seven
      obtain ⟨⟨q0, q1, q2, q3, q4, q5, q6⟩, _⟩ := L7.seven
      replace hE := Lib.hid hE
      clear ha ha'
      go_wp2_with fail
      refine HAC.out.mono ?_
      rintro e w' ⟨rfl, rfl⟩
      go_wp2_with fail
      exact bodyPost_ret (res_got (p := 4) Tryz.results91 rfl (Lies.all7 L9 _ _ _ _ _ _ _)) rfl (gpost_row rfl hG.capF hE.out hbw (hG.tin 6 0 PL NM hNMs (by omega)))
end Lx
end Go.Proofs.YtobdoahdjbmflaaGreatDoor
namespace Go.Proofs.YtobdoahdjbmflaaGreatDoor
open Go.RowKit
namespace Lx
set_option maxRecDepth 100000
theorem grown_drew {w w' : World} {row : Option Nat} (h : w.drew.grownBy w' row) : w.drew.grownBy w' row := h
set_option maxHeartbeats 16000000 in
theorem galt_any {l : List Tok} {A : Option Addr} {n c f : Nat} (T : GTok l n) (HX0 : GC 37 l A n c 7 gExpr f) :
    GC 90 l A n c 6 gAlt (f + 1) := by
  intro i x w hx hi hf hR
  subst hx
  have h6 := T.few
  have hb0 := below_seven (w := w)
  have hR1 := hR.at_new hb0
  have hL := Lies.new w 68 zero7
  have HK := Lib.hid (gkind_at l A n c i (i : Int) (w.alloc (.cells zero7 68)) rfl T.len (by omega) h6 hR1)
  by_cases hk : kAt l i = 2
  · have hlt : i < n := by rw [T.len]; exact kAt_lt (by omega)
    have hln1 : n ≤ l.length := Nat.le_of_eq T.len
    have hln2 : l.length ≤ n := Nat.le_of_eq T.len.symm
    have HE : (∀ j, gNames (l.length + 1) l (i + 1) [] = .error j → gAlt (f + 1) l i = .error j) ∧ (∀ vs j, gNames (l.length + 1) l (i + 1) [] = .ok (vs, j) → (xAt l j = [45, 62] → (∀ j2, gExpr f l (j + 1) = .error j2 → gAlt (f + 1) l i = .error j2) ∧ (∀ b j2, gExpr f l (j + 1) = .ok (b, j2) → gAlt (f + 1) l i = .ok (.node 8 (nmAt l i) vs.length (plAt l i) (vs ++ [b]), j2))) ∧ (¬ xAt l j = [45, 62] → gAlt (f + 1) l i = .error j)) := by
      refine ⟨fun j h => ?_, fun vs j h => ⟨fun hx => ⟨fun j2 h2 => ?_, fun b j2 h2 => ?_⟩, fun hx => ?_⟩⟩
      · rw [gAlt, if_neg (fun e => e hk), h]
      · rw [gAlt, if_neg (fun e => e hk), h]
        simp only [hx, ne_eq, not_true_eq_false, if_false, h2]
      · rw [gAlt, if_neg (fun e => e hk), h]
        simp only [hx, ne_eq, not_true_eq_false, if_false, h2]
      · rw [gAlt, if_neg (fun e => e hk), h]
        simp only [hx, ne_eq, not_false_eq_true, if_true]
    obtain ⟨g, o, rfl, -, c1, -, c3'⟩ := hR1.get (i := i) (by rw [← T.len]; omega)
    rw [hk] at HK
    obtain ⟨NM, hNM⟩ : ∃ q, q = nmAt l i := ⟨_, rfl⟩
    obtain ⟨PL, hPL⟩ : ∃ q, q = plAt l i := ⟨_, rfl⟩
    have HNM := Lib.hid (show NM.size ≤ 140737488351232 from by rw [hNM]; exact T.small _)
    rw [← hNM] at c1 HE
    rw [← hPL] at c3' HE
    replace HE := Lib.hid HE
    obtain ⟨i0, hi0, hz0, hz1, hz2⟩ := info_parts infoT
    clear hNM hPL hk
    go_enter Tryz.func90, Tryz.ntmps90
    go_wp2_with fail
    refine HK.out.mono ?_
    rintro e w' ⟨rfl, rfl⟩
    go_upto_region 3 with fail
    obtain ⟨V8, hV8⟩ : ∃ q, q = (w.alloc (.cells zero7 68)) := ⟨_, rfl⟩
    rw [← hV8] at hb0 hL c1 c3' ⊢
    have HS : Hid (∀ V', Below V8.heap.size V8 V' → (fun V' : World => (V'.cell? ⟨g, o + i * 4 + 1, none⟩ = some (.string NM) ∧ V'.cell? ⟨g, o + i * 4 + 3, none⟩ = some (.int .i64 PL))) V') := Lib.hid fun V' h =>
      ⟨(h.cell (p := ⟨g, _, none⟩) (cell_lt c1)).trans c1, (h.cell (p := ⟨g, _, none⟩) (cell_lt c3')).trans c3'⟩
    have HB1 := Lib.hid hb0
    have HL8 := Lib.hid hL
    have hlti : i < n := hlt
    clear hV8 hb0 hL c1 c3' HK hR1
    have hb_1 : Below V8.heap.size V8 V8 := Below.refl _ _
    refine wp_region_K (S := (fun V' : World => (V'.cell? ⟨g, o + i * 4 + 1, none⟩ = some (.string NM) ∧ V'.cell? ⟨g, o + i * 4 + 3, none⟩ = some (.int .i64 PL)))) 12 rfl (HS.out _ hb_1.drew) (fun hSs => ?_)
    change wpAnyK _ _ _ _ _ _ 13 (Array.replicate 13 false) _ _
    refine wpAnyK_take (i := 0) (oi := ⟨some 14, _, _, _, _, _⟩) (v := .slice (some ⟨g, o, none⟩) n c) rfl (by kernel_rfl) (by kernel_rfl) (by kernel_rfl) (by kernel_rfl) (fun _ _ _ h => h) (.inl ⟨by kernel_rfl, fun W hW => by kernel_rfl⟩) hSs ?_
    try simp only [Act.put, List.setIfInBounds_toArray, List.set_cons_zero, List.set_cons_succ]
    refine wpAnyK_take (i := 1) (oi := ⟨some 15, _, _, _, _, _⟩) (v := .int .i64 i) rfl (by kernel_rfl) (by kernel_rfl) (by kernel_rfl) (by kernel_rfl) (fun _ _ _ h => h) (.inl ⟨by kernel_rfl, fun W hW => by kernel_rfl⟩) hSs ?_
    try simp only [Act.put, List.setIfInBounds_toArray, List.set_cons_zero, List.set_cons_succ]
    refine wpAnyK_take (i := 2) (oi := ⟨some 16, _, _, _, _, _⟩) (v := .pointer (some ⟨g, o + i * 4, none⟩)) rfl (by kernel_rfl) (by kernel_rfl) (by kernel_rfl) (by kernel_rfl) (fun _ _ _ h => h) (.inl ⟨by kernel_rfl, fun W hW => by first | (obtain ⟨z0, z1⟩ := hW; go_simp; done) | (obtain ⟨z0, z1⟩ := hW; go_simp; omega) | (obtain ⟨z0, z1⟩ := hW; go_simp; simp [*]; done)⟩) hSs ?_
    try simp only [Act.put, List.setIfInBounds_toArray, List.set_cons_zero, List.set_cons_succ]
    refine wpAnyK_take (i := 3) (oi := ⟨some 17, _, _, _, _, _⟩) (v := .pointer (some ⟨g, o + i * 4 + 1, none⟩)) rfl (by kernel_rfl) (by kernel_rfl) (by kernel_rfl) (by kernel_rfl) (fun _ _ _ h => h) (.inl ⟨by kernel_rfl, fun W hW => by first | (obtain ⟨z0, z1⟩ := hW; go_simp; done) | (obtain ⟨z0, z1⟩ := hW; go_simp; omega) | (obtain ⟨z0, z1⟩ := hW; go_simp; simp [*]; done)⟩) hSs ?_
    try simp only [Act.put, List.setIfInBounds_toArray, List.set_cons_zero, List.set_cons_succ]
    refine wpAnyK_take (i := 4) (oi := ⟨some 18, _, _, _, _, _⟩) (v := .string NM) rfl (by kernel_rfl) (by kernel_rfl) (by kernel_rfl) (by kernel_rfl) (fun _ _ _ h => h) (.inl ⟨by kernel_rfl, fun W hW => by first | (obtain ⟨z0, z1⟩ := hW; go_simp; done) | (obtain ⟨z0, z1⟩ := hW; go_simp; omega) | (obtain ⟨z0, z1⟩ := hW; go_simp; simp [*]; done)⟩) hSs ?_
    try simp only [Act.put, List.setIfInBounds_toArray, List.set_cons_zero, List.set_cons_succ]
    refine wpAnyK_take (i := 5) (oi := ⟨some 19, _, _, _, _, _⟩) (v := .slice (some ⟨g, o, none⟩) n c) rfl (by kernel_rfl) (by kernel_rfl) (by kernel_rfl) (by kernel_rfl) (fun _ _ _ h => h) (.inl ⟨by kernel_rfl, fun W hW => by kernel_rfl⟩) hSs ?_
    try simp only [Act.put, List.setIfInBounds_toArray, List.set_cons_zero, List.set_cons_succ]
    refine wpAnyK_take (i := 6) (oi := ⟨some 20, _, _, _, _, _⟩) (v := .int .i64 i) rfl (by kernel_rfl) (by kernel_rfl) (by kernel_rfl) (by kernel_rfl) (fun _ _ _ h => h) (.inl ⟨by kernel_rfl, fun W hW => by kernel_rfl⟩) hSs ?_
    try simp only [Act.put, List.setIfInBounds_toArray, List.set_cons_zero, List.set_cons_succ]
    refine wpAnyK_take (i := 7) (oi := ⟨some 21, _, _, _, _, _⟩) (v := .pointer (some ⟨g, o + i * 4, none⟩)) rfl (by kernel_rfl) (by kernel_rfl) (by kernel_rfl) (by kernel_rfl) (fun _ _ _ h => h) (.inl ⟨by kernel_rfl, fun W hW => by first | (obtain ⟨z0, z1⟩ := hW; go_simp; done) | (obtain ⟨z0, z1⟩ := hW; go_simp; omega) | (obtain ⟨z0, z1⟩ := hW; go_simp; simp [*]; done)⟩) hSs ?_
    try simp only [Act.put, List.setIfInBounds_toArray, List.set_cons_zero, List.set_cons_succ]
    refine wpAnyK_take (i := 8) (oi := ⟨some 22, _, _, _, _, _⟩) (v := .pointer (some ⟨g, o + i * 4 + 3, none⟩)) rfl (by kernel_rfl) (by kernel_rfl) (by kernel_rfl) (by kernel_rfl) (fun _ _ _ h => h) (.inl ⟨by kernel_rfl, fun W hW => by first | (obtain ⟨z0, z1⟩ := hW; go_simp; done) | (obtain ⟨z0, z1⟩ := hW; go_simp; omega) | (obtain ⟨z0, z1⟩ := hW; go_simp; simp [*]; done)⟩) hSs ?_
    try simp only [Act.put, List.setIfInBounds_toArray, List.set_cons_zero, List.set_cons_succ]
    refine wpAnyK_take (i := 9) (oi := ⟨some 23, _, _, _, _, _⟩) (v := .int .i64 PL) rfl (by kernel_rfl) (by kernel_rfl) (by kernel_rfl) (by kernel_rfl) (fun _ _ _ h => h) (.inl ⟨by kernel_rfl, fun W hW => by first | (obtain ⟨z0, z1⟩ := hW; go_simp; done) | (obtain ⟨z0, z1⟩ := hW; go_simp; omega) | (obtain ⟨z0, z1⟩ := hW; go_simp; simp [*]; done)⟩) hSs ?_
    try simp only [Act.put, List.setIfInBounds_toArray, List.set_cons_zero, List.set_cons_succ]
    refine wpAnyK_take (i := 10) (oi := ⟨some 24, _, _, _, _, _⟩) (v := .agg #[.int .i64 8, .string NM, .int .i64 0, .int .i64 PL, .slice none 0 0]) rfl (by kernel_rfl) (by kernel_rfl) (by kernel_rfl) (by kernel_rfl) (fun _ _ _ h => h) (.inl ⟨by kernel_rfl, fun W hW => by first | (obtain ⟨z0, z1⟩ := hW; go_simp; done) | (obtain ⟨z0, z1⟩ := hW; go_simp; omega) | (obtain ⟨z0, z1⟩ := hW; go_simp; simp [*]; done)⟩) hSs ?_
    try simp only [Act.put, List.setIfInBounds_toArray, List.set_cons_zero, List.set_cons_succ]
    refine wpAnyK_one (i := 11) rfl rfl (by kernel_rfl) (fun K hK => ?_)
    go_simp
    have hb_2 := Below.alloc hb_1 hb_1.size (.cells #[.int .i64 0, .string (⟨#[]⟩ : ByteArray), .int .i64 0, .int .i64 0, .slice none 0 0] 24)
    have hl_2 : Lies (V8.alloc (.cells #[.int .i64 0, .string (⟨#[]⟩ : ByteArray), .int .i64 0, .int .i64 0, .slice none 0 0] 24)) (V8.heap.size) 24 #[.int .i64 0, .string (⟨#[]⟩ : ByteArray), .int .i64 0, .int .i64 0, .slice none 0 0] := Lies.new _ _ _
    refine hK.out _ _ (fun _ => HS.out _ (hb_2.drew)) (fun hS9 => ?_)
    have hS_2 := hS9 (by decide)
    clear hK K hS9
    try simp only [Act.put, List.setIfInBounds_toArray, List.set_cons_zero, List.set_cons_succ]
    refine wpAnyK_one (i := 12) rfl rfl (by kernel_rfl) (fun K hK => ?_)
    have hlt_3_0 := hl_2.lt
    have hsz_3 := hb_2.size
    refine wp_store_let (F := fun W9 => Below V8.heap.size V8 W9 ∧ Lies W9 (V8.heap.size) 24 #[.int .i64 8, .string NM, .int .i64 0, .int .i64 PL, .slice none 0 0]) _ _ _ rfl (V8.heap.size) 0 #[.int .i64 8, .string NM, .int .i64 0, .int .i64 PL, .slice none 0 0] rfl rfl (lies_there hl_2.drew rfl) (by kernel_rfl) (by simp [Value.oneCell']) ⟨below_setCells (hb_2.drew) (by omega) _ _, lies_set5 (hl_2.drew) (.int .i64 8) (.string NM) (.int .i64 0) (.int .i64 PL) (.slice none 0 0)⟩ (fun W_3 hF_3 => ?_)
    refine hK.out _ _ (fun h => absurd rfl h) (fun _ => ?_)
    clear hK K
    try simp only [Act.put, List.setIfInBounds_toArray]
    obtain ⟨hb_3, hl_2_3⟩ := hF_3
    refine wpAnyK_done (by kernel_rfl) ?_ _
    have LB0 := hl_2_3
    have hbz := HB1.out.trans (hb_3.mono HB1.out.size)
    have Lr0 := HL8.out.below hb_3 HL8.out.lt
    have hwV : w.heap.size + 1 ≤ V8.heap.size := by have := HL8.out.lt; omega
    obtain ⟨b5, hb5⟩ : ∃ q, q = V8.heap.size := ⟨_, rfl⟩
    rw [← hb5] at LB0 hwV
    try rw [← hb5]
    obtain ⟨VA, hVA⟩ : ∃ q, q = W_3 := ⟨_, rfl⟩
    rw [← hVA] at LB0 hbz Lr0
    try rw [← hVA]
    have hG0 : GBs w b5 24 (fun v => #[.int .i64 8, .string NM, .int .i64 ((([] : List Tr).length : Nat) : Int), .int .i64 PL, v]) [] none 0 [] VA := ⟨hbz, Lr0, LB0, World.ownsRow_nil _ _ _ _, RowTr.nil _ _, hwV, by simp [Value.ownBlock]⟩
    clear hl_2_3 hb_3 hb5 hVA LB0 hbz Lr0 HS HL8 HB1
    go_wp2_with fail
    go_loopw [6] (fun x wr => ∃ (j g' : Nat) (pl : List Tr) (B : Option Addr) (bc : Nat) (xs : List Value), x = .int .i64 j ∧ gNames (l.length + 1) l (i + 1) [] = gNames g' l j pl ∧ g' + j = l.length + i + 2 ∧ i + 1 ≤ j ∧ j ≤ n ∧ pl.length ≤ 8 ∧ GBs w b5 24 (fun v => #[.int .i64 8, .string NM, .int .i64 (pl.length : Int), .int .i64 PL, v]) pl B bc xs wr) (fun x _ => n - (intOf x).toNat)
    case atStart => exact ⟨i + 1, l.length + 1, [], none, 0, [], by go_num, rfl, by omega, by omega, by omega, by simp, hG0⟩
    case round =>
      clear hG0 hwV
      obtain ⟨j, g', pl, B, bc, xs, rfl, hE, hgj, hij, hj, hp8, hG⟩ := hrel
      obtain ⟨g', rfl⟩ : ∃ q, g' = q + 1 := ⟨g' - 1, by omega⟩
      have hbw := hG.bw
      have Lr := hG.res
      have hRw := hR.below hbw (Nat.le_refl _)
      have LB : Lies wr b5 24 #[.int .i64 8, .string NM, .int .i64 (pl.length : Int), .int .i64 PL, .slice B pl.length bc] := hG.box
      have HK := Lib.hid (gkind_at l _ n c j (j : Int) wr rfl T.len (by omega) h6 hRw)
      by_cases hk : kAt l j = 1
      · by_cases h8 : pl.length = 8
        · have hE2 : gNames (l.length + 1) l (i + 1) [] = .error j := by rw [hE, gNames, if_pos hk, if_pos h8]
          have HE2 := Lib.hid (HE.out.1 _ hE2)
          have HN := Lib.hid (gno_j j j wr rfl)
          rw [hk] at HK
          rw [h8] at LB
          obtain ⟨⟨q0, q1, q2, q3, q4⟩, _⟩ := LB.five
          clear hk hE2 h8 hG hp8 hE
          go_wp2_with fail
          refine HK.out.mono ?_
          rintro e w' ⟨rfl, rfl⟩
          go_wp2_with fail
          refine HN.out.mono ?_
          rintro e V2 ⟨rfl, hb2⟩
          have L9 := Lr.below hb2 Lr.lt
          have q9 := L9.seven
          have hb9 := hbw.trans (hb2.mono hbw.size)
          clear q0 q1 q2 q3 q4
          go_wp2_with fail
          exact bodyPost_ret (res_got (p := 4) Tryz.results90 rfl (Lies.all7 L9 _ _ _ _ _ _ _)) rfl (gpost_err (j := j) HE2.out hb9)
        · have hjn : j < n := by rw [T.len]; exact kAt_lt (by omega)
          have HEN2 : gNames (g' + 1) l j pl = gNames g' l (j + 1) (pl ++ [.node 1 (nmAt l j) 0 (plAt l j) []]) := by
            rw [gNames, if_pos hk, if_neg h8]
          rw [HEN2] at hE
          replace hE := Lib.hid hE
          rw [hk] at HK
          obtain ⟨m, hm⟩ : ∃ m, m = pl.length := ⟨_, rfl⟩
          rw [← hm] at LB h8 hp8
          have h8i : ¬ (m : Int) = 8 := by omega
          have h8b : ((m : Int) == 8) = false := by simpa using h8i
          obtain ⟨⟨q0, q1, q2, q3, q4⟩, e0, e1, e2, e3, e4⟩ := LB.five
          have HM := Lib.hid hm
          have hG8 := hG.put 2 (.int .i64 ((m : Int) + 1)) (cs' := (fun v => #[.int .i64 8, .string NM, .int .i64 ((m : Int) + 1), .int .i64 PL, v])) (fun _ => rfl)
          clear hk HEN2 hm
          go_wp2_with fail
          refine HK.out.mono ?_
          rintro e w' ⟨rfl, rfl⟩
          go_upto_region 9 with fail
          obtain ⟨V8, hV8⟩ : ∃ q, q = wr.setCell ⟨b5, 2, none⟩ (.int .i64 ((m : Int) + 1)) := ⟨_, rfl⟩
          rw [← hV8] at hG8 ⊢
          have hR8 := hR.below hG8.bw (Nat.le_refl _)
          obtain ⟨g9, o9, e9, -, c1, -, c3'⟩ := hR8.get (i := j) (by rw [← T.len]; omega)
          cases e9
          have LB8 : Lies V8 b5 24 #[.int .i64 8, .string NM, .int .i64 ((m : Int) + 1), .int .i64 PL, .slice B m bc] := by rw [HM.out]; have h9 := hG8.box; rw [← HM.out] at h9 ⊢; exact h9
          obtain ⟨VN, hVN⟩ : ∃ q, q = nmAt l j := ⟨_, rfl⟩
          obtain ⟨VP, hVP⟩ : ∃ q, q = plAt l j := ⟨_, rfl⟩
          have HVN := Lib.hid (show VN.size ≤ 140737488351232 from by rw [hVN]; exact T.small _)
          rw [← hVN] at c1 hE
          rw [← hVP] at c3' hE
          have HEN := hE
          have HG8 := Lib.hid hG8
          have hgw : g < V8.heap.size := cell_lt c1
          have hlo9 := hG8.own.lt
          rw [← HM.out] at hlo9
          have HLO := Lib.hid hlo9
          have HGB := Lib.hid (show g < w.heap.size from by
            obtain ⟨g9, o9, e9, -, c9, -, -⟩ := hR.get (i := j) (by rw [← T.len]; omega)
            cases e9
            exact cell_lt c9)
          have HOW := Lib.hid (show V8.ownsRow (w.heap.size + 1) 24 5 (.slice B m bc) m xs from by have h9 := hG8.own; rw [← HM.out] at h9; exact h9)
          have hb5w := hG8.le
          have hb5s := hG8.sz
          have HS : Hid (∀ V', Below V8.heap.size V8 V' → (fun V' : World => (V'.cell? ⟨g, o + j * 4 + 1, none⟩ = some (.string VN) ∧ V'.cell? ⟨g, o + j * 4 + 3, none⟩ = some (.int .i64 VP) ∧ V'.cell? ⟨b5, 4, none⟩ = some (.slice B m bc))) V') := Lib.hid fun V' h =>
            ⟨(h.cell (p := ⟨g, _, none⟩) (cell_lt c1)).trans c1, (h.cell (p := ⟨g, _, none⟩) (cell_lt c3')).trans c3', (h.cell (p := ⟨b5, 4, none⟩) LB8.lt).trans (LB8.cell 4)⟩
          clear q0 q1 q2 q3 q4 e0 e1 e2 e3 e4 hV8 hG hG8 hR8 c1 c3' hlo9 LB8 LB hVN hVP HK hE Lr hbw hRw h8b h8i hR
          have hb_1 : Below V8.heap.size V8 V8 := Below.refl _ _
          refine wp_region_K (S := (fun V' : World => (V'.cell? ⟨g, o + j * 4 + 1, none⟩ = some (.string VN) ∧ V'.cell? ⟨g, o + j * 4 + 3, none⟩ = some (.int .i64 VP) ∧ V'.cell? ⟨b5, 4, none⟩ = some (.slice B m bc)))) 16 rfl (HS.out _ hb_1.drew) (fun hSs => ?_)
          change wpAnyK _ _ _ _ _ _ 17 (Array.replicate 17 false) _ _
          refine wpAnyK_take (i := 0) (oi := ⟨some 40, _, _, _, _, _⟩) (v := .pointer (some ⟨b5, 4, none⟩)) rfl (by kernel_rfl) (by kernel_rfl) (by kernel_rfl) (by kernel_rfl) (fun _ _ _ h => h) (.inl ⟨by kernel_rfl, fun W hW => by first | (obtain ⟨z0, z1, z2⟩ := hW; go_simp; done) | (obtain ⟨z0, z1, z2⟩ := hW; go_simp; omega) | (obtain ⟨z0, z1, z2⟩ := hW; go_simp; simp [*]; done)⟩) hSs ?_
          try simp only [Act.put, List.setIfInBounds_toArray, List.set_cons_zero, List.set_cons_succ]
          refine wpAnyK_take (i := 1) (oi := ⟨some 41, _, _, _, _, _⟩) (v := .slice B m bc) rfl (by kernel_rfl) (by kernel_rfl) (by kernel_rfl) (by kernel_rfl) (fun _ _ _ h => h) (.inl ⟨by kernel_rfl, fun W hW => by first | (obtain ⟨z0, z1, z2⟩ := hW; go_simp; done) | (obtain ⟨z0, z1, z2⟩ := hW; go_simp; omega) | (obtain ⟨z0, z1, z2⟩ := hW; go_simp; simp [*]; done)⟩) hSs ?_
          try simp only [Act.put, List.setIfInBounds_toArray, List.set_cons_zero, List.set_cons_succ]
          refine wpAnyK_take (i := 2) (oi := ⟨some 42, _, _, _, _, _⟩) (v := .slice (some ⟨g, o, none⟩) n c) rfl (by kernel_rfl) (by kernel_rfl) (by kernel_rfl) (by kernel_rfl) (fun _ _ _ h => h) (.inl ⟨by kernel_rfl, fun W hW => by kernel_rfl⟩) hSs ?_
          try simp only [Act.put, List.setIfInBounds_toArray, List.set_cons_zero, List.set_cons_succ]
          refine wpAnyK_take (i := 3) (oi := ⟨some 43, _, _, _, _, _⟩) (v := .int .i64 j) rfl (by kernel_rfl) (by kernel_rfl) (by kernel_rfl) (by kernel_rfl) (fun _ _ _ h => h) (.inl ⟨by kernel_rfl, fun W hW => by kernel_rfl⟩) hSs ?_
          try simp only [Act.put, List.setIfInBounds_toArray, List.set_cons_zero, List.set_cons_succ]
          refine wpAnyK_take (i := 4) (oi := ⟨some 44, _, _, _, _, _⟩) (v := .pointer (some ⟨g, o + j * 4, none⟩)) rfl (by kernel_rfl) (by kernel_rfl) (by kernel_rfl) (by kernel_rfl) (fun _ _ _ h => h) (.inl ⟨by kernel_rfl, fun W hW => by first | (obtain ⟨z0, z1, z2⟩ := hW; go_simp; done) | (obtain ⟨z0, z1, z2⟩ := hW; go_simp; omega) | (obtain ⟨z0, z1, z2⟩ := hW; go_simp; simp [*]; done)⟩) hSs ?_
          try simp only [Act.put, List.setIfInBounds_toArray, List.set_cons_zero, List.set_cons_succ]
          refine wpAnyK_take (i := 5) (oi := ⟨some 45, _, _, _, _, _⟩) (v := .pointer (some ⟨g, o + j * 4 + 1, none⟩)) rfl (by kernel_rfl) (by kernel_rfl) (by kernel_rfl) (by kernel_rfl) (fun _ _ _ h => h) (.inl ⟨by kernel_rfl, fun W hW => by first | (obtain ⟨z0, z1, z2⟩ := hW; go_simp; done) | (obtain ⟨z0, z1, z2⟩ := hW; go_simp; omega) | (obtain ⟨z0, z1, z2⟩ := hW; go_simp; simp [*]; done)⟩) hSs ?_
          try simp only [Act.put, List.setIfInBounds_toArray, List.set_cons_zero, List.set_cons_succ]
          refine wpAnyK_take (i := 6) (oi := ⟨some 46, _, _, _, _, _⟩) (v := .string VN) rfl (by kernel_rfl) (by kernel_rfl) (by kernel_rfl) (by kernel_rfl) (fun _ _ _ h => h) (.inl ⟨by kernel_rfl, fun W hW => by first | (obtain ⟨z0, z1, z2⟩ := hW; go_simp; done) | (obtain ⟨z0, z1, z2⟩ := hW; go_simp; omega) | (obtain ⟨z0, z1, z2⟩ := hW; go_simp; simp [*]; done)⟩) hSs ?_
          try simp only [Act.put, List.setIfInBounds_toArray, List.set_cons_zero, List.set_cons_succ]
          refine wpAnyK_take (i := 7) (oi := ⟨some 47, _, _, _, _, _⟩) (v := .slice (some ⟨g, o, none⟩) n c) rfl (by kernel_rfl) (by kernel_rfl) (by kernel_rfl) (by kernel_rfl) (fun _ _ _ h => h) (.inl ⟨by kernel_rfl, fun W hW => by kernel_rfl⟩) hSs ?_
          try simp only [Act.put, List.setIfInBounds_toArray, List.set_cons_zero, List.set_cons_succ]
          refine wpAnyK_take (i := 8) (oi := ⟨some 48, _, _, _, _, _⟩) (v := .int .i64 j) rfl (by kernel_rfl) (by kernel_rfl) (by kernel_rfl) (by kernel_rfl) (fun _ _ _ h => h) (.inl ⟨by kernel_rfl, fun W hW => by kernel_rfl⟩) hSs ?_
          try simp only [Act.put, List.setIfInBounds_toArray, List.set_cons_zero, List.set_cons_succ]
          refine wpAnyK_take (i := 9) (oi := ⟨some 49, _, _, _, _, _⟩) (v := .pointer (some ⟨g, o + j * 4, none⟩)) rfl (by kernel_rfl) (by kernel_rfl) (by kernel_rfl) (by kernel_rfl) (fun _ _ _ h => h) (.inl ⟨by kernel_rfl, fun W hW => by first | (obtain ⟨z0, z1, z2⟩ := hW; go_simp; done) | (obtain ⟨z0, z1, z2⟩ := hW; go_simp; omega) | (obtain ⟨z0, z1, z2⟩ := hW; go_simp; simp [*]; done)⟩) hSs ?_
          try simp only [Act.put, List.setIfInBounds_toArray, List.set_cons_zero, List.set_cons_succ]
          refine wpAnyK_take (i := 10) (oi := ⟨some 50, _, _, _, _, _⟩) (v := .pointer (some ⟨g, o + j * 4 + 3, none⟩)) rfl (by kernel_rfl) (by kernel_rfl) (by kernel_rfl) (by kernel_rfl) (fun _ _ _ h => h) (.inl ⟨by kernel_rfl, fun W hW => by first | (obtain ⟨z0, z1, z2⟩ := hW; go_simp; done) | (obtain ⟨z0, z1, z2⟩ := hW; go_simp; omega) | (obtain ⟨z0, z1, z2⟩ := hW; go_simp; simp [*]; done)⟩) hSs ?_
          try simp only [Act.put, List.setIfInBounds_toArray, List.set_cons_zero, List.set_cons_succ]
          refine wpAnyK_take (i := 11) (oi := ⟨some 51, _, _, _, _, _⟩) (v := .int .i64 VP) rfl (by kernel_rfl) (by kernel_rfl) (by kernel_rfl) (by kernel_rfl) (fun _ _ _ h => h) (.inl ⟨by kernel_rfl, fun W hW => by first | (obtain ⟨z0, z1, z2⟩ := hW; go_simp; done) | (obtain ⟨z0, z1, z2⟩ := hW; go_simp; omega) | (obtain ⟨z0, z1, z2⟩ := hW; go_simp; simp [*]; done)⟩) hSs ?_
          try simp only [Act.put, List.setIfInBounds_toArray, List.set_cons_zero, List.set_cons_succ]
          refine wpAnyK_take (i := 12) (oi := ⟨some 52, _, _, _, _, _⟩) (v := .agg #[.int .i64 1, .string VN, .int .i64 0, .int .i64 VP, .slice none 0 0]) rfl (by kernel_rfl) (by kernel_rfl) (by kernel_rfl) (by kernel_rfl) (fun _ _ _ h => h) (.inl ⟨by kernel_rfl, fun W hW => by first | (obtain ⟨z0, z1, z2⟩ := hW; go_simp; done) | (obtain ⟨z0, z1, z2⟩ := hW; go_simp; omega) | (obtain ⟨z0, z1, z2⟩ := hW; go_simp; simp [*]; done)⟩) hSs ?_
          try simp only [Act.put, List.setIfInBounds_toArray, List.set_cons_zero, List.set_cons_succ]
          refine wpAnyK_one (i := 13) rfl rfl (by kernel_rfl) (fun K hK => ?_)
          go_simp
          have hb_2 := Below.alloc hb_1 hb_1.size (.cells #[.int .i64 1, .string VN, .int .i64 0, .int .i64 VP, .slice none 0 0] 24)
          have hl_2 : Lies (V8.alloc (.cells #[.int .i64 1, .string VN, .int .i64 0, .int .i64 VP, .slice none 0 0] 24)) (V8.heap.size) 24 #[.int .i64 1, .string VN, .int .i64 0, .int .i64 VP, .slice none 0 0] := Lies.new _ _ _
          refine hK.out _ _ (fun _ => HS.out _ (hb_2.drew)) (fun hS9 => ?_)
          have hS_2 := hS9 (by decide)
          clear hK K hS9
          try simp only [Act.put, List.setIfInBounds_toArray, List.set_cons_zero, List.set_cons_succ]
          refine wpAnyK_one (i := 14) rfl rfl (by kernel_rfl) (fun K hK => ?_)
          refine wp_append_lies _ _ _ _ rfl (w.heap.size + 1) 24 i0 _ 5 64 Tryz.underlying22 hi0 hz0 hz1 hz2 rfl (by decide) (.slice B m bc) m xs rfl (own_below HOW.out (hb_2.drew) (Nat.le_refl _)) ⟨V8.heap.size, 0, none⟩ 1 1 [.int .i64 1, .string VN, .int .i64 0, .int .i64 VP, .slice none 0 0] rfl rfl (World.news_of_block (cs := #[.int .i64 1, .string VN, .int .i64 0, .int .i64 VP, .slice none 0 0]) (t := 24) (fr := (0, 0)) hl_2) (by simp [Value.oneCell']) (by omega) (by simp only [maxLen]; omega) (by omega) (by have := (hb_2.drew).size; omega) (V8.heap.size + 1) (by simp) ?_
          intro gg c3 w7 hown7 hg7 hat hltg
          have hP := HG8.out.push (V5 := V8.drew) (u := .node 1 VN 0 VP []) (A := none) (c := 0) (gg := gg) (c3 := c3) (fun _ _ => rfl) (Below.refl _ _).drew (TIn.leaf HVN.out) (by rw [← HM.out]; exact hown7) (by rw [← HM.out]; exact hg7) (by rw [← HM.out]; exact hat)
          obtain ⟨hB7, hG7⟩ := hP
          rw [← HM.out] at hB7 hG7
          have hS7 : (fun V' : World => (V'.cell? ⟨g, o + j * 4 + 1, none⟩ = some (.string VN) ∧ V'.cell? ⟨g, o + j * 4 + 3, none⟩ = some (.int .i64 VP) ∧ V'.cell? ⟨b5, 4, none⟩ = some (.slice B m bc))) w7 := ⟨(World.cell?_of_block (a := ⟨g, _, none⟩) (hg7.block g (by have := (hb_2.drew).size; simp; omega) (fun e => by have := (HLO.out _ e.symm).1; have := HGB.out; omega))).trans (HS.out _ (hb_2.drew)).1, (World.cell?_of_block (a := ⟨g, _, none⟩) (hg7.block g (by have := (hb_2.drew).size; simp; omega) (fun e => by have := (HLO.out _ e.symm).1; have := HGB.out; omega))).trans (HS.out _ (hb_2.drew)).2.1, hB7.cell 4⟩
          refine hK.out _ _ (fun _ => hS7) (fun hS9 => ?_)
          have hS_3 := hS9 (by decide)
          clear hK K hS9
          try simp only [Act.put, List.setIfInBounds_toArray]
          refine wpAnyK_take (i := 15) (oi := ⟨some 55, _, _, _, _, _⟩) (v := .pointer (some ⟨b5, 4, none⟩)) rfl (by kernel_rfl) (by kernel_rfl) (by kernel_rfl) (by kernel_rfl) (fun _ _ _ h => h) (.inl ⟨by kernel_rfl, fun W hW => by first | (obtain ⟨z0, z1, z2⟩ := hW; go_simp; done) | (obtain ⟨z0, z1, z2⟩ := hW; go_simp; omega) | (obtain ⟨z0, z1, z2⟩ := hW; go_simp; simp [*]; done)⟩) hS_3 ?_
          try simp only [Act.put]
          refine wpAnyK_one (i := 16) rfl rfl (by kernel_rfl) (fun K hK => ?_)
          obtain ⟨⟨p0, p1, p2, p3, p4⟩, d0, d1, d2, d3, d4⟩ := (show Lies w7 b5 24 #[.int .i64 8, .string NM, .int .i64 ((m : Int) + 1), .int .i64 PL, .slice B m bc] from hB7).five
          go_wp2_with fail
          refine hK.out _ _ (fun h => absurd rfl h) (fun _ => ?_)
          clear hK K
          refine wpAnyK_done (by kernel_rfl) ?_ _
          clear p0 p1 p2 p3 p4 d0 d1 d2 d3 d4 hown7 hg7 hat hltg hB7
          have HG9 := Lib.hid hG7
          clear hG7
          go_wp2_with fail
          go_roundw
          case rel =>
            exact ⟨j + 1, g', pl ++ [.node 1 VN 0 VP []], some ⟨gg, 0, none⟩, c3, _, rfl, HEN.out, by omega, by omega, by omega, by have := HM.out; simp; omega, by have h9 := HG9.out; have h8 := HM.out; simp only [List.length_append, List.length_cons, List.length_nil, Nat.zero_add, Int.natCast_add, Int.natCast_one, ← h8]; exact h9⟩
          case measure => simp [intOf]; omega
      · have hE2 : gNames (l.length + 1) l (i + 1) [] = .ok (pl, j) := by rw [hE, gNames, if_neg hk]
        have HE2 := Lib.hid (HE.out.2 _ _ hE2)
        have HX := Lib.hid (gtext_at l _ n c j (j : Int) wr rfl T.len (by omega) h6 hRw)
        obtain ⟨k, hk'⟩ : ∃ k, k = kAt l j := ⟨_, rfl⟩
        rw [← hk'] at HK hk
        have hk2 : (k == 1) = false := by simpa using hk
        clear hk' hE2 hE
        by_cases hx : xAt l j = [45, 62]
        · have hjn : j < n := by rw [T.len]; exact xAt_lt hx (by simp)
          have HC := Lib.hid (HX0 (j + 1) ((j : Int) + 1) wr (by simp) (by omega) (by omega) hRw)
          rw [hx] at HX
          have HE3 := Lib.hid (HE2.out.1 hx)
          have hpo := (prog_all f).expr l (j + 1)
          obtain ⟨m, hm⟩ : ∃ m, m = pl.length := ⟨_, rfl⟩
          have HM := Lib.hid hm
          clear hx HE2 hm LB
          go_wp2_with fail
          refine HK.out.mono ?_
          rintro e w' ⟨rfl, rfl⟩
          go_wp2_with fail
          refine HX.out.mono ?_
          rintro e w' ⟨rfl, rfl⟩
          go_wp2_with fail
          refine HC.out.mono ?_
          intro e V2 hG2
          clear HK HX HC
          rcases hG2.split with ⟨j2, hr2, rfl⟩ | ⟨u, j2, A3, cu, hr2, rfl, hT2⟩
          · have HE4 := HE3.out.1 _ hr2
            have L9 := (Lr.below hG2.1 Lr.lt).old (.cells #[.int .i64 0, .string ⟨#[]⟩, .int .i64 0, .int .i64 0, .slice none 0 0, .int .i64 j2, .bool false] 68)
            have q9 := L9.seven
            have hb9 := hbw.trans (hG2.1.mono hbw.size)
            have hb9 := hb9.alloc hb9.size (.cells #[.int .i64 0, .string ⟨#[]⟩, .int .i64 0, .int .i64 0, .slice none 0 0, .int .i64 j2, .bool false] 68)
            replace HE4 := Lib.hid HE4
            go_wp2_with fail
            exact bodyPost_ret (res_got (p := 4) Tryz.results90 rfl (Lies.all7 L9 _ _ _ _ _ _ _)) rfl (gpost_err HE4.out hb9)
          · have HE4 := Lib.hid (HE3.out.2 _ _ hr2)
            have hpr2 := hpo u j2 hr2
            obtain ⟨uk, us, un, ua, ul⟩ := u
            simp only [Tr.kind, Tr.name, Tr.n, Tr.place, Tr.parts]
            have hm5 := hG2.1.alloc hG2.1.size (.cells #[.int .i64 uk, .string us, .int .i64 un, .int .i64 ua, .slice A3 ul.length (capF ul.length cu), .int .i64 j2, .bool true] 68)
            have LU := Lies.new V2 68 #[.int .i64 uk, .string us, .int .i64 un, .int .i64 ua, .slice A3 ul.length (capF ul.length cu), .int .i64 j2, .bool true]
            have hs2 := hG2.1.size
            have hTu := TIn.below _ hT2 ((Below.refl _ V2).alloc (Nat.le_refl _) (.cells #[.int .i64 uk, .string us, .int .i64 un, .int .i64 ua, .slice A3 ul.length (capF ul.length cu), .int .i64 j2, .bool true] 68)) (Nat.le_refl _)
            obtain ⟨b7, hb7⟩ : ∃ b7, b7 = V2.heap.size := ⟨_, rfl⟩
            rw [← hb7] at LU
            have hwb : wr.heap.size ≤ b7 := by omega
            clear hr2 hG2 hT2 Lr hpo HE3
            go_upto_region 16 with fail
            rw [← hb7]
            obtain ⟨V5, hV5⟩ : ∃ q, q = V2.alloc (.cells #[.int .i64 uk, .string us, .int .i64 un, .int .i64 ua, .slice A3 ul.length (capF ul.length cu), .int .i64 j2, .bool true] 68) := ⟨_, rfl⟩
            rw [← hV5] at hm5 LU hTu ⊢
            clear hV5 hb7
            have hG5 := hG.below hm5
            have L75 : Lies V5 b5 24 #[.int .i64 8, .string NM, .int .i64 (m : Int), .int .i64 PL, .slice B m bc] := by rw [HM.out]; exact hG5.box
            obtain ⟨⟨q0, q1, q2, q3, q4⟩, _⟩ := L75.five
            obtain ⟨⟨r0, r1, r2, r3, r4, r5, r6⟩, _⟩ := LU.seven
            have hown := hG5.own
            have hlto := hG.own.lt
            rw [← HM.out] at hown
            have h5lt := hG.sz
            have hle5 := hG.le
            have hs5 := hm5.size
            have hm8 : m ≤ 8 := by have := HM.out; omega
            go_wp2_with (at_builtin; refine wpList_append_lies _ rfl _ _ 22 rfl (w.heap.size + 1) 24 i0 _ 5 64 Tryz.underlying22 hi0 hz0 hz1 hz2 rfl (by decide) (.slice B m bc) m xs rfl (own_below hown ((Below.refl _ V5).alloc (Nat.le_refl _) _) (Nat.le_refl _)) ⟨V5.heap.size, 0, none⟩ 1 1 [.int .i64 uk, .string us, .int .i64 un, .int .i64 ua, .slice A3 ul.length (capF ul.length cu)] rfl rfl ?c1 ?c2 (by omega) ?c3 ?c4 ?c5 (V5.heap.size + 1) (by simp) ?_)
            case c1 => exact World.news_of_block (cs := #[.int .i64 uk, .string us, .int .i64 un, .int .i64 ua, .slice A3 ul.length (capF ul.length cu)]) (t := 24) (fr := (0, 0)) (heap_alloc_new V5 _)
            case c2 => simp [Value.oneCell']
            case c3 => first | omega | (simp only [maxLen]; omega)
            case c4 => omega
            case c5 => first | omega | (simp; omega)
            intro gg c3 w7 hown7 hg7 hat hltg
            clear q0 q1 q2 q3 q4 r0 r1 r2 r3 r4 r5 r6
            have hP := hG.push (u := .node uk us un ua ul) (A := A3) (c := cu) (gg := gg) (c3 := c3) (fun _ _ => rfl) hm5 hTu (by rw [← HM.out]; exact hown7) (by rw [← HM.out]; exact hg7) (by rw [← HM.out]; exact hat)
            obtain ⟨hB7, hG7⟩ := hP
            rw [← HM.out] at hB7 hG7
            have L77 : Lies w7 b5 24 #[.int .i64 8, .string NM, .int .i64 (m : Int), .int .i64 PL, .slice B m bc] := hB7
            have L78 : Lies (w7.setCell ⟨b5, 4, none⟩ (.slice (some ⟨gg, 0, none⟩) (m + 1) c3)) b5 24 #[.int .i64 8, .string NM, .int .i64 (m : Int), .int .i64 PL, .slice (some ⟨gg, 0, none⟩) (m + 1) c3] := by simpa using L77.put 4 (.slice (some ⟨gg, 0, none⟩) (m + 1) c3)
            have LU7 := (LU.old (.cells #[.int .i64 uk, .string us, .int .i64 un, .int .i64 ua, .slice A3 ul.length (capF ul.length cu)] 24)).grown hg7 (fun e => by rw [HM.out] at e; have := (hlto _ e.symm).2; omega)
            have LU8 := LU7.far (p := ⟨b5, 4, none⟩) (by show b7 ≠ b5; omega) (.slice (some ⟨gg, 0, none⟩) (m + 1) c3)
            have HG9 := Lib.hid hG7
            obtain ⟨⟨q0, q1, q2, q3, q4⟩, e0, e1, e2, e3, e4⟩ := L77.five
            obtain ⟨⟨p0, p1, p2, p3, p4⟩, _⟩ := L78.five
            obtain ⟨⟨r0, r1, r2, r3, r4, r5, r6⟩, _⟩ := LU8.seven
            clear hown7 hg7 hat hB7 hG7 LU7 LU8 L77 L78 hG5 L75 hown hG hTu hm5
            go_wp2_with fail
            refine (gyes_j 8 (m : Int) PL NM (some ⟨gg, 0, none⟩) (m + 1) c3 j2 j2 _ rfl).mono ?_
            rintro e w9 ⟨rfl, hb9⟩
            have hGz := HG9.out.below hb9
            have L9 := hGz.res
            have q9 := L9.seven
            clear q0 q1 q2 q3 q4 e0 e1 e2 e3 e4 p0 p1 p2 p3 p4 r0 r1 r2 r3 r4 r5 r6
            go_wp2_with fail
            exact bodyPost_ret (res_got (p := 4) Tryz.results90 rfl (Lies.all7 L9 _ _ _ _ _ _ _)) rfl (gpost_row (by have := HM.out; simp; omega) hGz.capF (by have h9 := HE4.out; rw [← HM.out] at h9; exact h9) hGz.bw (hGz.tin 8 (m : Int) PL NM HNM.out (by have := HM.out; simp; omega)))
        · have HE3 := Lib.hid (HE2.out.2 hx)
          have HN := Lib.hid (gno_j j j wr rfl)
          obtain ⟨X, hX⟩ : ∃ X, X = xAt l j := ⟨_, rfl⟩
          rw [← hX] at HX hx
          have n1 := bytes_ne hx
          have b0 : (X == [45, 62]) = false := beq_eq_false_iff_ne.2 hx
          clear hX HE2 hG LB
          go_wp2_with fail
          refine HK.out.mono ?_
          rintro e w' ⟨rfl, rfl⟩
          go_wp2_with fail
          refine HX.out.mono ?_
          rintro e w' ⟨rfl, rfl⟩
          go_wp2_with fail
          refine HN.out.mono ?_
          rintro e V2 ⟨rfl, hb2⟩
          have L9 := Lr.below hb2 Lr.lt
          have q9 := L9.seven
          have hb9 := hbw.trans (hb2.mono hbw.size)
          go_wp2_with fail
          exact bodyPost_ret (res_got (p := 4) Tryz.results90 rfl (Lies.all7 L9 _ _ _ _ _ _ _)) rfl (gpost_err (j := j) HE3.out hb9)
  · have HE : Hid (gAlt (f + 1) l i = .error i) := by
      refine Lib.hid ?_
      rw [gAlt, if_pos hk]
    have HN := Lib.hid (gno_j i (i : Int) (w.alloc (.cells zero7 68)) rfl)
    obtain ⟨k, hk'⟩ : ∃ k, k = kAt l i := ⟨_, rfl⟩
    rw [← hk'] at HK hk
    clear hk'
    go_enter Tryz.func90, Tryz.ntmps90
    go_wp2_with fail
    refine HK.out.mono ?_
    rintro e w' ⟨rfl, rfl⟩
    go_wp2_with fail
    refine HN.out.mono ?_
    rintro e V2 ⟨rfl, hb2⟩
    have L9 := hL.below hb2 hL.lt
    have q9 := L9.seven
    have hb9 := hb0.trans (hb2.mono hb0.size)
    go_wp2_with fail
    exact bodyPost_ret (res_got (p := 4) Tryz.results90 rfl (Lies.all7 L9 _ _ _ _ _ _ _)) rfl (gpost_err (j := i) HE.out hb9)
end Lx
end Go.Proofs.YtobdoahdjbmflaaGreatDoor
