/-
  Texts that lie one behind the other: PBs PAlt PChoice PExprV PExprW PWhole PWholeA PParse.
-/
import Derived.Test.YteabbkhlgnoliaaGreatDoorK4
import Derived.Test.YteabbkhlgnoliaaGreatDoorK3
namespace Go.Proofs.YteabbkhlgnoliaaGreatDoor
open Go.RowKit
namespace Lx
set_option maxRecDepth 100000
/-- In block g3 of the call's own lies a tree with the parts pl so far; the reader in r has q ahead. -/
structure Bs (w : World) (r Tb : Nat) (e : Int) (g3 : Nat) (k : Int) (nm : ByteArray) (n pc : Int) (pl : List Tr) (q : List Tok) (B : Option Addr) (bc : Nat) (xs : List Value) (V : World) : Prop where
  mv : Moves r w V
  res : Lies V w.heap.size 24 #[.int .i64 0, .string ⟨#[]⟩, .int .i64 0, .int .i64 0, .slice none 0 0]
  box : Lies V g3 24 #[.int .i64 k, .string nm, .int .i64 n, .int .i64 pc, .slice B pl.length bc]
  own : V.ownsRow (g3 + 1) 24 5 (.slice B pl.length bc) pl.length xs
  row : RowTr V (fun g => (w.heap.size + 1 ≤ g ∧ g ≠ g3) ∧ some g ≠ (Value.slice B pl.length bc).ownBlock) pl xs
  sz : g3 + 1 ≤ V.heap.size
  rd : Rd V r Tb q e
  le : w.heap.size + 1 ≤ g3
  rlt : r < w.heap.size
  tlt : Tb < w.heap.size
theorem Bs.step {w : World} {r Tb : Nat} {e : Int} {g3 : Nat} {k : Int} {nm : ByteArray} {n pc : Int} {pl : List Tr} {q q' : List Tok} {B : Option Addr} {bc : Nat} {xs : List Value} {V V' : World}
    (h : Bs w r Tb e g3 k nm n pc pl q B bc xs V) (hm : Moves r V V') (hR : Rd V' r Tb q' e) : Bs w r Tb e g3 k nm n pc pl q' B bc xs V' := by
  have h1 := h.sz
  have h2 := h.le
  have h3 := h.rlt
  exact ⟨h.mv.trans hm, hm.lies h.res (by omega), hm.lies h.box (by omega), own_moves h.own hm (by omega),
    RowTr.grown h.row hm (fun g hg hX => by have e9 : r = g := Option.some.inj hg; have := hX.1.1; omega), Nat.le_trans h1 hm.size, hR, h2, h3, h.tlt⟩
theorem Bs.below {w : World} {r Tb : Nat} {e : Int} {g3 : Nat} {k : Int} {nm : ByteArray} {n pc : Int} {pl : List Tr} {q : List Tok} {B : Option Addr} {bc : Nat} {xs : List Value} {V V' : World}
    (h : Bs w r Tb e g3 k nm n pc pl q B bc xs V) (hb : Below V.heap.size V V') : Bs w r Tb e g3 k nm n pc pl q B bc xs V' := h.step (Moves.of_below hb) (h.rd.below hb)
/-- Behind a call that answered a tree, and an append of it. -/
theorem Bs.push {w : World} {r Tb : Nat} {e : Int} {g3 : Nat} {k : Int} {nm : ByteArray} {n pc : Int} {pl : List Tr} {q q' : List Tok} {B : Option Addr} {bc : Nat} {xs : List Value} {wa w5 w7 : World} {u : Tr} {A : Option Addr} {c : Nat} {gg c3 : Nat}
    (h : Bs w r Tb e g3 k nm n pc pl q B bc xs wa) (hm : Moves r wa w5) (hTu : TIn w5 (fun g => wa.heap.size ≤ g) u A) (hR : Rd w5 r Tb q' e)
    (hown7 : w7.ownsRow (g3 + 1) 24 5 (.slice (some ⟨gg, 0, none⟩) (pl.length + 1) c3) (pl.length + 1) (xs ++ cellsT u A c))
    (hg7 : (w5.alloc (.cells #[.int .i64 u.kind, .string u.name, .int .i64 u.n, .int .i64 u.place, .slice A u.parts.length (capF u.parts.length c)] 24)).grownBy w7 (Value.slice B pl.length bc).ownBlock)
    (hat : (Value.slice B pl.length bc).ownBlock = some gg ∨ gg = w5.heap.size + 1) :
    w7.cell? ⟨g3, 4, none⟩ = some (.slice B pl.length bc) ∧ w7.frozen? ⟨g3, 4, none⟩ = false ∧
      Bs w r Tb e g3 k nm n pc (pl ++ [u]) q' (some ⟨gg, 0, none⟩) c3 (xs ++ cellsT u A c) (w7.setCell ⟨g3, 4, none⟩ (.slice (some ⟨gg, 0, none⟩) (pl.length + 1) c3)) := by
  have hsz := h.sz
  have hle := h.le
  have hr := h.rlt
  have hTb := h.tlt
  have hs5 := hm.size
  have hB5 := hm.lies h.box (by omega)
  have hT5 := hm.lies h.res (by omega)
  have hown5 := own_moves h.own hm (by omega)
  have hlta := h.own.lt
  have hrow5 : RowTr w5 (fun g => (w.heap.size + 1 ≤ g ∧ g ≠ g3) ∧ some g ≠ (Value.slice B pl.length bc).ownBlock) pl xs := RowTr.grown h.row hm (fun g hg h => by have e9 : r = g := Option.some.inj hg; have := h.1.1; omega)
  have hY5 : TIn w5 (fun g => (w.heap.size + 1 ≤ g ∧ g ≠ g3) ∧ some g ≠ (Value.slice B pl.length bc).ownBlock) u A := TIn.wide _ hTu fun g hg _ => by
    have h9 : wa.heap.size ≤ g := hg
    exact ⟨⟨by omega, by omega⟩, fun e => by have := (hlta g e.symm).2; omega⟩
  have hba6 := (Below.refl _ w5).alloc (Nat.le_refl _) (.cells #[.int .i64 u.kind, .string u.name, .int .i64 u.n, .int .i64 u.place, .slice A u.parts.length (capF u.parts.length c)] 24)
  have hB6 := hB5.below hba6 hB5.lt
  have hT6 := hT5.below hba6 hT5.lt
  have hR6 := hR.below hba6
  have hrow6 := hrow5.below hba6 (Nat.le_refl _)
  have hY6 := TIn.below _ hY5 hba6 (Nat.le_refl _)
  have hm6 : Moves r w (w5.alloc (.cells #[.int .i64 u.kind, .string u.name, .int .i64 u.n, .int .i64 u.place, .slice A u.parts.length (capF u.parts.length c)] 24)) := (h.mv.trans hm).alloc _
  have hlt5 := hown5.lt
  have hB7 := hB6.grown hg7 (fun e => by have := (hlt5 _ e.symm).1; omega)
  have hT7 := hT6.grown hg7 (fun e => by have := (hlt5 _ e.symm).1; omega)
  have hR7 := hR6.grown hg7 (fun e => by have := (hlt5 _ e).1; omega) (fun e => by have := (hlt5 _ e).1; omega)
  have hm7 := hm6.grown hg7 (fun g hg => by have := (hlt5 _ hg).1; omega)
  have hs7 := hg7.size
  simp at hs7
  have hgg : g3 + 1 ≤ gg := by
    rcases hat with h | h
    · exact (hlt5 _ h).1
    · omega
  have hfar : ∀ b j, b < (w5.alloc (.cells #[.int .i64 u.kind, .string u.name, .int .i64 u.n, .int .i64 u.place, .slice A u.parts.length (capF u.parts.length c)] 24)).heap.size → ((w.heap.size + 1 ≤ b ∧ b ≠ g3) ∧ some b ≠ (Value.slice B pl.length bc).ownBlock) → b ≠ gg → w7.cell? ⟨b, j, none⟩ = (w5.alloc (.cells #[.int .i64 u.kind, .string u.name, .int .i64 u.n, .int .i64 u.place, .slice A u.parts.length (capF u.parts.length c)] 24)).cell? ⟨b, j, none⟩ ∧ ((w.heap.size + 1 ≤ b ∧ b ≠ g3) ∧ some b ≠ (Value.slice (some ⟨gg, 0, none⟩) (pl.length + 1) c3).ownBlock) := fun b j hb hX hne =>
    ⟨World.cell?_of_block (a := ⟨b, j, none⟩) (hg7.block b hb hX.2), hX.1, fun e => hne (Option.some.inj e)⟩
  have hbg : ∀ b, b < (w5.alloc (.cells #[.int .i64 u.kind, .string u.name, .int .i64 u.n, .int .i64 u.place, .slice A u.parts.length (capF u.parts.length c)] 24)).heap.size → some b ≠ (Value.slice B pl.length bc).ownBlock → b ≠ gg := fun b hb hne e => by
    rcases hat with h | h
    · exact hne (by rw [h, e])
    · simp at hb; omega
  have hrow7 : RowTr w7 (fun g => (w.heap.size + 1 ≤ g ∧ g ≠ g3) ∧ some g ≠ (Value.slice (some ⟨gg, 0, none⟩) (pl.length + 1) c3).ownBlock) pl xs := hrow6.keep fun b j hX hb => hfar b j hb hX (hbg b hb hX.2)
  have hY7 : TIn w7 (fun g => (w.heap.size + 1 ≤ g ∧ g ≠ g3) ∧ some g ≠ (Value.slice (some ⟨gg, 0, none⟩) (pl.length + 1) c3).ownBlock) u A := TIn.keep _ hY6 fun b j hX hb => hfar b j hb hX (hbg b hb hX.2)
  have hrow8 := hrow7.snoc (c := c) hY7
  have hl : (pl ++ [u]).length = pl.length + 1 := by simp
  refine ⟨hB7.five.1.2.2.2.2, hB7.five.2.2.2.2.2, ?_⟩
  refine ⟨hm7.put (by omega) 4 _, hT7.far (p := ⟨g3, 4, none⟩) (by show w.heap.size ≠ g3; omega) _, ?_, ?_, ?_, by simp [World.setCell]; omega, hR7.put (by omega) (by omega) 4 _, hle, hr, hTb⟩
  · rw [hl]
    simpa using hB7.put 4 (.slice (some ⟨gg, 0, none⟩) (pl.length + 1) c3)
  · rw [hl]
    exact ownsRow_setCell_below hown7 (by show g3 < _; omega) _
  · rw [hl]
    exact hrow8.setCell ⟨g3, 4, none⟩ _ (fun h => h.1.2 rfl)
theorem Bs.putN {w : World} {r Tb : Nat} {e : Int} {g3 : Nat} {k : Int} {nm : ByteArray} {n pc : Int} {pl : List Tr} {q : List Tok} {B : Option Addr} {bc : Nat} {xs : List Value} {V : World}
    (h : Bs w r Tb e g3 k nm n pc pl q B bc xs V) (n' : Int) : Bs w r Tb e g3 k nm n' pc pl q B bc xs (V.setCell ⟨g3, 2, none⟩ (.int .i64 n')) := by
  have h1 := h.sz
  have h2 := h.le
  have h3 := h.rlt
  have h4 := h.tlt
  exact ⟨h.mv.put (by omega) 2 _, h.res.far (p := ⟨g3, 2, none⟩) (by show w.heap.size ≠ g3; omega) _, by simpa using h.box.put 2 (.int .i64 n'), ownsRow_setCell_below h.own (by show g3 < _; omega) _,
    h.row.setCell ⟨g3, 2, none⟩ _ (fun h => h.1.2 rfl), by simp [World.setCell]; omega, h.rd.put (by omega) (by omega) 2 _, h2, h3, h4⟩
/-- The tree is done: it is laid into the result's block. -/
theorem Bs.finish {w : World} {r Tb : Nat} {e : Int} {g3 : Nat} {k : Int} {nm : ByteArray} {n pc : Int} {pl : List Tr} {q : List Tok} {B : Option Addr} {bc : Nat} {xs : List Value} {V : World}
    (h : Bs w r Tb e g3 k nm n pc pl q B bc xs V) (hsz : nm.size ≤ 140737488351232) (hp : pl.length ≤ 9) :
    (Moves r w (((((V.setCell ⟨w.heap.size, 0, none⟩ (.int .i64 k)).setCell ⟨w.heap.size, 1, none⟩ (.string nm)).setCell ⟨w.heap.size, 2, none⟩ (.int .i64 n)).setCell ⟨w.heap.size, 3, none⟩ (.int .i64 pc)).setCell ⟨w.heap.size, 4, none⟩ (.slice B pl.length bc)) ∧
      Rd (((((V.setCell ⟨w.heap.size, 0, none⟩ (.int .i64 k)).setCell ⟨w.heap.size, 1, none⟩ (.string nm)).setCell ⟨w.heap.size, 2, none⟩ (.int .i64 n)).setCell ⟨w.heap.size, 3, none⟩ (.int .i64 pc)).setCell ⟨w.heap.size, 4, none⟩ (.slice B pl.length bc)) r Tb q e ∧
      TIn (((((V.setCell ⟨w.heap.size, 0, none⟩ (.int .i64 k)).setCell ⟨w.heap.size, 1, none⟩ (.string nm)).setCell ⟨w.heap.size, 2, none⟩ (.int .i64 n)).setCell ⟨w.heap.size, 3, none⟩ (.int .i64 pc)).setCell ⟨w.heap.size, 4, none⟩ (.slice B pl.length bc)) (fun g => w.heap.size + 1 ≤ g) (.node k nm n pc pl) B) ∧
    Lies (((((V.setCell ⟨w.heap.size, 0, none⟩ (.int .i64 k)).setCell ⟨w.heap.size, 1, none⟩ (.string nm)).setCell ⟨w.heap.size, 2, none⟩ (.int .i64 n)).setCell ⟨w.heap.size, 3, none⟩ (.int .i64 pc)).setCell ⟨w.heap.size, 4, none⟩ (.slice B pl.length bc)) w.heap.size 24 #[.int .i64 k, .string nm, .int .i64 n, .int .i64 pc, .slice B pl.length bc] := by
  have h2 := h.le
  have hX9 : TIn V (fun g => w.heap.size + 1 ≤ g) (.node k nm n pc pl) B := TIn.mk hsz (by omega) (RowTr.owned h.row h.own (fun g hg => by omega) (fun g h _ => h.1.1))
  exact ⟨put5 h.mv h.rd (Nat.le_refl _) h.rlt h.tlt (.int .i64 k) (.string nm) (.int .i64 n) (.int .i64 pc) (.slice B pl.length bc) hX9 (G := w.heap.size) (by omega), h.res.all5 (.int .i64 k) (.string nm) (.int .i64 n) (.int .i64 pc) (.slice B pl.length bc)⟩
end Lx
end Go.Proofs.YteabbkhlgnoliaaGreatDoor
namespace Go.Proofs.YteabbkhlgnoliaaGreatDoor
open Go.RowKit
namespace Lx
set_option maxRecDepth 100000
def altEnd (ex : List Tok → PR) (e : Int) (nm : ByteArray) (pc : Int) (pl : List Tr) (l : List Tok) : PR :=
  (takeV [45, 62] e l).bind fun x => (ex x.2).bind fun y => .ok (.node 8 nm pl.length pc (pl ++ [y.1]), y.2)
def altLoop (ex : List Tok → PR) (e : Int) (nm : ByteArray) (pc : Int) : Nat → List Tr → List Tok → PR
  | 0, pl, l => altEnd ex e nm pc pl l
  | n + 1, pl, l => if (peekV l e).kind = 1 then (match atomV ex e l with
    | .error p => .error p
    | .ok (u, q) => altLoop ex e nm pc n (pl ++ [u]) q) else altEnd ex e nm pc pl l
def altV (ex : List Tok → PR) (e : Int) (l : List Tok) : PR :=
  (takeKV 2 e l).bind fun x => altLoop ex e ⟨x.1.text.toArray⟩ x.1.place 8 [] x.2
set_option maxHeartbeats 8000000 in
theorem alt_any (r Tb : Nat) (e : Int) (ex : List Tok → PR) (l : List Tok) (w : World) (hR : Rd w r Tb l e)
    (hex : ∀ (l' : List Tok) (w' : World), l'.length < l.length → Rd w' r Tb l' e → Calls Tryz.prog 67 #[.pointer (some ⟨r, 0, none⟩)] w' fun x w'' => PPost w' r Tb e (ex l') x w'')
    (hxl : ∀ l' t' q', l'.length < l.length → ex l' = .ok (t', q') → q'.length < l'.length) :
    Calls Tryz.prog 145 #[.pointer (some ⟨r, 0, none⟩)] w fun x w' => PPost w r Tb e (altV ex e l) x w' := by
  have hr := hR.lt'
  have hTb := hR.lt
  have hb00 : Below w.heap.size w (w.alloc (.cells #[.int .i64 0, .string ⟨#[]⟩, .int .i64 0, .int .i64 0, .slice none 0 0] 24)) := (Below.refl _ w).alloc (Nat.le_refl _) _
  have hT := Lies.new w 24 #[.int .i64 0, .string ⟨#[]⟩, .int .i64 0, .int .i64 0, .slice none 0 0]
  have har := bytes2 45 62
  have HTK := Lib.hid (takeKind_both r Tb 2 (by decide) l e _ (hR.below hb00))
  have HT2 := fun l' w' (h : Rd w' r Tb l' e) => Lib.hid (take_both r Tb ⟨#[45, 62]⟩ (by rw [har]; simp) l' e w' h)
  rw [har] at HT2
  have HAT := Lib.hid (fun l' w' (hl : l'.length < l.length) (h : Rd w' r Tb l' e) => atom_any r Tb e ex l' w' h (fun l2 w2 h2 hR2 => hex l2 w2 (Nat.lt_trans h2 hl) hR2))
  have HXL := Lib.hid (fun l' t' q' (hl : l'.length < l.length) (h : atomV ex e l' = .ok (t', q')) => atomV_len (fun l2 t2 q2 h2 => hxl l2 t2 q2 (Nat.lt_trans h2 hl)) h)
  have HEX := Lib.hid hex
  have hf0 := fld0
  obtain ⟨res, hres⟩ : ∃ res, res = altV ex e l := ⟨_, rfl⟩
  have hW := hres
  simp only [altV] at hW
  have HW := Lib.hid hW
  rw [← hres]
  clear hR hex hxl hres hW har
  go_enter Tryz.func145, Tryz.ntmps145
  go_wp2_with fail
  refine HTK.out.mono ?_
  rintro x w1 ⟨hm1, hg1, hbd1⟩
  have hm01 := (Moves.of_below hb00).trans hm1
  cases h1 : takeKV 2 e l with
  | error p =>
    obtain rfl := hbd1 p h1
    have H9 := Lib.hid (show res = .error p from by rw [HW.out, h1]; rfl)
    clear hg1 hbd1 h1
    go_wp2_with fail
    refine ⟨rfl, ?_⟩
    exact ⟨hm01, fun t q h => (by rw [H9.out] at h; cases h), fun p' h => by rw [H9.out] at h; cases h; rfl⟩
  | ok x1 =>
    obtain ⟨t1, l1⟩ := x1
    obtain ⟨rfl, htx, hR1⟩ := hg1 t1 l1 h1
    have n1 := takeKV_len h1
    have H1 := Lib.hid (show res = altLoop ex e ⟨t1.text.toArray⟩ t1.place 8 [] l1 from by rw [HW.out, h1]; rfl)
    have hs1 : w.heap.size + 1 ≤ w1.heap.size := by have h := hm1.size; simp at h; omega
    obtain ⟨nm, hnm⟩ : ∃ nm : ByteArray, nm = ⟨t1.text.toArray⟩ := ⟨_, rfl⟩
    obtain ⟨pc, hpc⟩ : ∃ pc, pc = t1.place := ⟨_, rfl⟩
    have hsz : nm.size ≤ 140737488351232 := by rw [hnm]; show t1.text.toArray.size ≤ _; simp; omega
    unfold Tok.val
    rw [← hnm, ← hpc] at H1 ⊢
    have hT1 := hm1.lies hT (by omega)
    have hbw := ((Below.refl _ w1).alloc (Nat.le_refl _) (.cells #[.int .i64 t1.kind, .string nm, .int .i64 t1.n, .int .i64 pc] 68)).alloc (by simp) (.cells #[.int .i64 8, .string nm, .int .i64 0, .int .i64 pc, .slice none 0 0] 24)
    have HST := Lib.hid (show Bs w r Tb e (w1.heap.size + 1) 8 nm (([] : List Tr).length : Nat) pc [] l1 none 0 [] ((w1.alloc (.cells #[.int .i64 t1.kind, .string nm, .int .i64 t1.n, .int .i64 pc] 68)).alloc (.cells #[.int .i64 8, .string nm, .int .i64 0, .int .i64 pc, .slice none 0 0] 24)) from
      ⟨(hm01.alloc _).alloc _, hT1.below hbw hT1.lt, by simpa using Lies.new (w1.alloc (.cells #[.int .i64 t1.kind, .string nm, .int .i64 t1.n, .int .i64 pc] 68)) 24 #[.int .i64 8, .string nm, .int .i64 0, .int .i64 pc, .slice none 0 0],
        World.ownsRow_nil _ _ _ _, RowTr.nil _ _, by simp, hR1.below hbw, by omega, hr, hTb⟩)
    have hK := (Lies.new w1 68 #[.int .i64 t1.kind, .string nm, .int .i64 t1.n, .int .i64 pc])
    obtain ⟨i0, hi0, hz0, hz1, hz2⟩ := info_parts infoT
    obtain ⟨g3, hg3⟩ : ∃ g, g = w1.heap.size + 1 := ⟨_, rfl⟩
    clear hg1 hbd1 h1 hT1 hbw hR1 hm01 hm1 hb00 hT HTK HW hK hnm hpc
    go_wp2_with fail
    rw [← hg3] at HST ⊢
    clear hg3
    go_loopw [] (fun wr => ∃ (n : Nat) (pl : List Tr) (q' : List Tok) (B : Option Addr) (bc : Nat) (xs : List Value), pl.length + n = 8 ∧ Bs w r Tb e g3 8 nm (pl.length : Nat) pc pl q' B bc xs wr ∧ q'.length ≤ l1.length ∧ Hid (res = altLoop ex e nm pc n pl q')) (fun wr => restLen r wr)
    case atStart => exact ⟨8, [], l1, none, 0, [], rfl, HST.out, Nat.le_refl _, H1⟩
    case round =>
      obtain ⟨n, pl, q', B, bc, xs, hn, hb, hq', HE⟩ := hrel
      obtain ⟨⟨y0, y1, y2, y3, y4⟩, _⟩ := hb.box.five
      cases n with
      | zero =>
        have h8 : ¬ (pl.length : Int) < 8 := by omega
        have hE := HE.out
        simp only [altLoop] at hE
        have HE := Lib.hid hE
        clear hE y0 y1 y3 y4
        have hb0 := hb
        clear hb
        obtain ⟨wa, hwa⟩ : ∃ wa, wa = wr := ⟨_, rfl⟩
        subst hwa
        go_wp2_with fail
        refine (HT2 q' _ hb0.rd).out.mono ?_
        rintro x wt7 ⟨hm6, hg6, hbd6⟩
        cases h6 : takeV [45, 62] e q' with
        | error p =>
          obtain rfl := hbd6 p h6
          have hm9 := hb0.mv.trans hm6
          have H9 := Lib.hid (show res = .error p from by rw [HE.out, altEnd, h6]; rfl)
          clear hg6 hbd6 h6
          go_wp2_with fail
          refine ⟨rfl, ?_⟩
          exact ⟨hm9, fun t q h => (by rw [H9.out] at h; cases h), fun p' h => by rw [H9.out] at h; cases h; rfl⟩
        | ok x6 =>
          obtain ⟨t7, q7⟩ := x6
          obtain ⟨rfl, hR6⟩ := hg6 t7 q7 h6
          have n7 := takeV_len h6
          have H7 := Lib.hid (show res = (ex q7).bind fun y => .ok (.node 8 nm pl.length pc (pl ++ [y.1]), y.2) from by rw [HE.out, altEnd, h6]; rfl)
          have hb7 := hb0.step hm6 hR6
          clear hg6 hbd6 h6 hm6 hR6 hb0
          unfold Tok.val
          have HS8 := Lib.hid (fun V (h : Moves r wt7 V) => (show V.cell? ⟨g3, 4, none⟩ = some (.slice B pl.length bc) from (h.lies hb7.box (by have := hb7.le; have := hb7.rlt; omega)).five.1.2.2.2.2))
          have HAQ8 := Lib.hid (HEX.out q7 wt7.drew (by omega) (hb7.rd.below (Below.refl _ wt7).drew))
          obtain ⟨⟨y0, y1, y2, y3, y4⟩, _⟩ := hb7.box.five
          clear y0 y1 y2 y3
          go_wp2_with fail
          refine wp_region_K (S := fun V => V.cell? ⟨g3, 4, none⟩ = some (.slice B pl.length bc)) 7 (by kernel_rfl) (HS8.out _ (Moves.of_below (Below.refl _ wt7).drew)) fun hS1 => ?_
          change wpAnyK _ _ _ _ _ _ 8 (Array.replicate 8 false) _ _
          refine wpAnyK_take (i := 0) (v := .pointer (some ⟨g3, 4, none⟩)) rfl (by kernel_rfl) (by kernel_rfl) (by kernel_rfl) (by kernel_rfl) (fun _ _ _ h => h) (.inl ⟨by kernel_rfl, fun W hW => by kernel_rfl⟩) hS1 ?_
          try simp only [Act.put, List.setIfInBounds_toArray]
          refine wpAnyK_take (i := 1) (v := .slice B pl.length bc) rfl (by kernel_rfl) (by kernel_rfl) (by kernel_rfl) (by kernel_rfl) (fun _ _ _ h => h) (.inl ⟨by kernel_rfl, fun W hW => by go_simp⟩) hS1 ?_
          try simp only [Act.put]
          refine wpAnyK_take (i := 2) (v := .pointer (some ⟨r, 0, none⟩)) rfl (by kernel_rfl) (by kernel_rfl) (by kernel_rfl) (by kernel_rfl) (fun _ _ _ h => h) (.inl ⟨by kernel_rfl, fun W hW => by kernel_rfl⟩) hS1 ?_
          try simp only [Act.put]
          clear hS1 y4
          refine wpAnyK_one (i := 3) rfl rfl (by kernel_rfl) (fun K9 hK => ?_)
          go_wp2_with fail
          refine HAQ8.out.mono ?_
          rintro x w58 ⟨hm5, hg5, hbd5⟩
          have hm5' : Moves r wt7 w58 := (Moves.of_below (Below.refl _ wt7).drew).trans hm5
          cases h5 : ex q7 with
          | error p =>
            obtain rfl := hbd5 p h5
            have hm9 := hb7.mv.trans hm5'
            have H9 := Lib.hid (show res = .error p from by rw [H7.out, h5]; rfl)
            clear hg5 hbd5 h5
            go_wp2_with fail
            refine ⟨rfl, ?_⟩
            exact ⟨hm9, fun t q h => (by rw [H9.out] at h; cases h), fun p' h => by rw [H9.out] at h; cases h; rfl⟩
          | ok tq =>
            obtain ⟨u8, q58⟩ := tq
            obtain ⟨A8, c8, rfl, hTu, hR5⟩ := hg5 u8 q58 h5
            have H58 := Lib.hid (show res = .ok (.node 8 nm pl.length pc (pl ++ [u8]), q58) from by rw [H7.out, h5]; rfl)
            have N58 := Lib.hid h5
            have hTu' : TIn w58 (fun g => wt7.heap.size ≤ g) u8 A8 := TIn.wide _ hTu fun g hg _ => (by have h9 : wt7.heap.size ≤ g := hg; exact h9)
            have hs5 := hm5'.size
            have hown6 := (own_moves hb7.own hm5' (by have := hb7.le; have := hb7.rlt; omega)).alloc (.cells #[.int .i64 u8.kind, .string u8.name, .int .i64 u8.n, .int .i64 u8.place, .slice A8 u8.parts.length (capF u8.parts.length c8)] 24)
            have hm6' : Moves r wt7 (w58.alloc (.cells #[.int .i64 u8.kind, .string u8.name, .int .i64 u8.n, .int .i64 u8.place, .slice A8 u8.parts.length (capF u8.parts.length c8)] 24)) := hm5'.alloc _
            have hszb := hb7.sz
            have HPU := Lib.hid (fun gg c3 w7 a b d => Bs.push (gg := gg) (c3 := c3) (w7 := w7) (c := c8) hb7 hm5' hTu' hR5 a b d)
            clear hg5 hbd5 h5 hTu hTu' hR5
            unfold tv
            go_wp2_with fail
            refine hK.out _ _ (fun _ => HS8.out _ hm5') fun _ => ?_
            clear hK
            try simp only [Act.put, List.setIfInBounds_toArray, List.set_cons_zero, List.set_cons_succ]
            refine wpAnyK_one (i := 4) rfl rfl (by kernel_rfl) (fun K9 hK => ?_)
            go_wp2_with fail
            refine hK.out _ _ (fun _ => HS8.out _ hm6') fun _ => ?_
            clear hK
            try simp only [Act.put, List.setIfInBounds_toArray, List.set_cons_zero, List.set_cons_succ]
            refine wpAnyK_one (i := 5) rfl rfl (by kernel_rfl) (fun K9 hK => ?_)
            refine wp_append_lies _ _ _ _ rfl (g3 + 1) 24 i0 _ 5 64 Tryz.underlying22 hi0 hz0 hz1 hz2 rfl (by decide) (.slice B pl.length bc) pl.length xs rfl hown6 ⟨w58.heap.size, 0, none⟩ 1 1 [.int .i64 u8.kind, .string u8.name, .int .i64 u8.n, .int .i64 u8.place, .slice A8 u8.parts.length (capF u8.parts.length c8)] rfl rfl
              (World.news_of_block (cs := #[.int .i64 u8.kind, .string u8.name, .int .i64 u8.n, .int .i64 u8.place, .slice A8 u8.parts.length (capF u8.parts.length c8)]) (t := 24) (fr := (0, 0)) (heap_alloc_new w58 _)) (by simp [Value.oneCell']) (by omega) (by simp only [maxLen]; omega) (by omega) (by simp; omega) (w58.heap.size + 1) (by simp) ?_
            intro gg8 c38 w78 hown7 hg7 hat hltg
            obtain ⟨e4, f4, hB8⟩ := HPU.out _ _ _ hown7 hg7 hat
            have HB8 := Lib.hid hB8
            clear hg7 hat hown6 hown7 HPU hB8 hm5 hm5' hm6' hltg hb7 HS8 HAQ8
            refine hK.out _ _ (fun _ => e4) fun _ => ?_
            clear hK
            try simp only [Act.put, List.setIfInBounds_toArray]
            refine wpAnyK_one (i := 6) rfl rfl (by kernel_rfl) (fun K9 hK => ?_)
            go_wp2_with fail
            refine hK.out _ _ (fun _ => e4) fun _ => ?_
            clear hK
            try simp only [Act.put, List.setIfInBounds_toArray, List.set_cons_zero, List.set_cons_succ]
            refine wpAnyK_one (i := 7) rfl rfl (by kernel_rfl) (fun K9 hK => ?_)
            go_wp2_with fail
            refine hK.out _ _ (fun h => absurd rfl h) fun _ => ?_
            clear hK e4 f4
            try simp only [Act.put, List.setIfInBounds_toArray, List.set_cons_zero, List.set_cons_succ]
            refine wpAnyK_done (by kernel_rfl) ?_ _
            obtain ⟨wb8, hwb⟩ : ∃ wb, wb = w78.setCell ⟨g3, 4, none⟩ (.slice (some ⟨gg8, 0, none⟩) (pl.length + 1) c38) := ⟨_, rfl⟩
            rw [← hwb] at HB8 ⊢
            have hb8 := HB8.out
            clear hwb HB8
            obtain ⟨pl2, hpl2⟩ : ∃ m, m = pl ++ [u8] := ⟨_, rfl⟩
            have hl2 : pl2.length ≤ 9 := by rw [hpl2]; simp; omega
            rw [← hpl2] at hb8 H58
            clear hpl2
            have hle9 := own_le hb8.own
            have HFI := Lib.hid (Bs.finish hb8 hsz hl2)
            obtain ⟨⟨z0, z1, z2, z3, z4⟩, f0, f1, f2, f3, f4⟩ := hb8.res.five
            obtain ⟨⟨y0, y1, y2, y3, y4⟩, _⟩ := hb8.box.five
            clear hb8
            go_wp2_with fail
            refine bodyPost_ret (res_tree (p := 2) Tryz.results145 rfl HFI.out.2) rfl ?_
            obtain ⟨q1, q2, q3⟩ := HFI.out.1
            refine ⟨q1, fun t' q'' h => ?_, fun p h => (by rw [H58.out] at h; cases h)⟩
            rw [H58.out] at h
            simp only [Except.ok.injEq, Prod.mk.injEq] at h
            obtain ⟨rfl, rfl⟩ := h
            exact ⟨(some ⟨gg8, 0, none⟩), c38, tv_own hle9, TIn.wide _ q3 fun g hg _ => Nat.le_of_succ_le hg, q2⟩
      | succ n =>
        have h8 : (pl.length : Int) < 8 := by omega
        have HP := Lib.hid (peek_any r Tb q' e wr hb.rd)
        have hRest := hb.rd.rest
        have hE := HE.out
        unfold altLoop at hE
        clear HE y0 y1 y3 y4
        by_cases ha : (peekV q' e).kind = 1
        · rw [if_pos ha] at hE
          have HE := Lib.hid hE
          obtain ⟨tp, htp⟩ : ∃ tp, tp = peekV q' e := ⟨_, rfl⟩
          rw [← htp] at HP ha
          clear hE htp
          unfold Tok.val at HP
          go_wp2_with fail
          refine HP.out.mono ?_
          rintro x wa ⟨rfl, hba⟩
          have hb1 := hb.below hba
          clear hb y2 hba HP
          rw [ha]
          have HS5 := Lib.hid (fun V (h : Moves r wa V) => (show V.cell? ⟨g3, 4, none⟩ = some (.slice B pl.length bc) from (h.lies hb1.box (by have := hb1.le; have := hb1.rlt; omega)).five.1.2.2.2.2))
          have HAQ5 := Lib.hid (HAT.out q' wa.drew (by omega) (hb1.rd.below (Below.refl _ wa).drew))
          obtain ⟨⟨y0, y1, y2, y3, y4⟩, _⟩ := hb1.box.five
          clear y0 y1 y2 y3
          go_wp2_with fail
          refine wp_region_K (S := fun V => V.cell? ⟨g3, 4, none⟩ = some (.slice B pl.length bc)) 7 (by kernel_rfl) (HS5.out _ (Moves.of_below (Below.refl _ wa).drew)) fun hS1 => ?_
          change wpAnyK _ _ _ _ _ _ 8 (Array.replicate 8 false) _ _
          refine wpAnyK_take (i := 0) (v := .pointer (some ⟨g3, 4, none⟩)) rfl (by kernel_rfl) (by kernel_rfl) (by kernel_rfl) (by kernel_rfl) (fun _ _ _ h => h) (.inl ⟨by kernel_rfl, fun W hW => by kernel_rfl⟩) hS1 ?_
          try simp only [Act.put, List.setIfInBounds_toArray]
          refine wpAnyK_take (i := 1) (v := .slice B pl.length bc) rfl (by kernel_rfl) (by kernel_rfl) (by kernel_rfl) (by kernel_rfl) (fun _ _ _ h => h) (.inl ⟨by kernel_rfl, fun W hW => by go_simp⟩) hS1 ?_
          try simp only [Act.put]
          refine wpAnyK_take (i := 2) (v := .pointer (some ⟨r, 0, none⟩)) rfl (by kernel_rfl) (by kernel_rfl) (by kernel_rfl) (by kernel_rfl) (fun _ _ _ h => h) (.inl ⟨by kernel_rfl, fun W hW => by kernel_rfl⟩) hS1 ?_
          try simp only [Act.put]
          clear hS1 y4
          refine wpAnyK_one (i := 3) rfl rfl (by kernel_rfl) (fun K9 hK => ?_)
          go_wp2_with fail
          refine HAQ5.out.mono ?_
          rintro x w55 ⟨hm5, hg5, hbd5⟩
          have hm5' : Moves r wa w55 := (Moves.of_below (Below.refl _ wa).drew).trans hm5
          cases h5 : atomV ex e q' with
          | error p =>
            obtain rfl := hbd5 p h5
            have hm9 := hb1.mv.trans hm5'
            have H9 := Lib.hid (show res = .error p from by rw [HE.out, h5])
            clear hg5 hbd5 h5
            go_wp2_with fail
            refine ⟨rfl, ?_⟩
            exact ⟨hm9, fun t q h => (by rw [H9.out] at h; cases h), fun p' h => by rw [H9.out] at h; cases h; rfl⟩
          | ok tq =>
            obtain ⟨u5, q55⟩ := tq
            obtain ⟨A5, c5, rfl, hTu, hR5⟩ := hg5 u5 q55 h5
            have H55 := Lib.hid (show res = altLoop ex e nm pc n (pl ++ [u5]) q55 from by rw [HE.out, h5])
            have N55 := Lib.hid h5
            have hTu' : TIn w55 (fun g => wa.heap.size ≤ g) u5 A5 := TIn.wide _ hTu fun g hg _ => (by have h9 : wa.heap.size ≤ g := hg; exact h9)
            have hs5 := hm5'.size
            have hown6 := (own_moves hb1.own hm5' (by have := hb1.le; have := hb1.rlt; omega)).alloc (.cells #[.int .i64 u5.kind, .string u5.name, .int .i64 u5.n, .int .i64 u5.place, .slice A5 u5.parts.length (capF u5.parts.length c5)] 24)
            have hm6' : Moves r wa (w55.alloc (.cells #[.int .i64 u5.kind, .string u5.name, .int .i64 u5.n, .int .i64 u5.place, .slice A5 u5.parts.length (capF u5.parts.length c5)] 24)) := hm5'.alloc _
            have hszb := hb1.sz
            have HPU := Lib.hid (fun gg c3 w7 a b d => Bs.push (gg := gg) (c3 := c3) (w7 := w7) (c := c5) hb1 hm5' hTu' hR5 a b d)
            clear hg5 hbd5 h5 hTu hTu' hR5
            unfold tv
            go_wp2_with fail
            refine hK.out _ _ (fun _ => HS5.out _ hm5') fun _ => ?_
            clear hK
            try simp only [Act.put, List.setIfInBounds_toArray, List.set_cons_zero, List.set_cons_succ]
            refine wpAnyK_one (i := 4) rfl rfl (by kernel_rfl) (fun K9 hK => ?_)
            go_wp2_with fail
            refine hK.out _ _ (fun _ => HS5.out _ hm6') fun _ => ?_
            clear hK
            try simp only [Act.put, List.setIfInBounds_toArray, List.set_cons_zero, List.set_cons_succ]
            refine wpAnyK_one (i := 5) rfl rfl (by kernel_rfl) (fun K9 hK => ?_)
            refine wp_append_lies _ _ _ _ rfl (g3 + 1) 24 i0 _ 5 64 Tryz.underlying22 hi0 hz0 hz1 hz2 rfl (by decide) (.slice B pl.length bc) pl.length xs rfl hown6 ⟨w55.heap.size, 0, none⟩ 1 1 [.int .i64 u5.kind, .string u5.name, .int .i64 u5.n, .int .i64 u5.place, .slice A5 u5.parts.length (capF u5.parts.length c5)] rfl rfl
              (World.news_of_block (cs := #[.int .i64 u5.kind, .string u5.name, .int .i64 u5.n, .int .i64 u5.place, .slice A5 u5.parts.length (capF u5.parts.length c5)]) (t := 24) (fr := (0, 0)) (heap_alloc_new w55 _)) (by simp [Value.oneCell']) (by omega) (by simp only [maxLen]; omega) (by omega) (by simp; omega) (w55.heap.size + 1) (by simp) ?_
            intro gg5 c35 w75 hown7 hg7 hat hltg
            obtain ⟨e4, f4, hB8⟩ := HPU.out _ _ _ hown7 hg7 hat
            have HB8 := Lib.hid hB8
            clear hg7 hat hown6 hown7 HPU hB8 hm5 hm5' hm6' hltg hb1 HS5 HAQ5
            refine hK.out _ _ (fun _ => e4) fun _ => ?_
            clear hK
            try simp only [Act.put, List.setIfInBounds_toArray]
            refine wpAnyK_one (i := 6) rfl rfl (by kernel_rfl) (fun K9 hK => ?_)
            go_wp2_with fail
            refine hK.out _ _ (fun _ => e4) fun _ => ?_
            clear hK
            try simp only [Act.put, List.setIfInBounds_toArray, List.set_cons_zero, List.set_cons_succ]
            refine wpAnyK_one (i := 7) rfl rfl (by kernel_rfl) (fun K9 hK => ?_)
            go_wp2_with fail
            refine hK.out _ _ (fun h => absurd rfl h) fun _ => ?_
            clear hK e4 f4
            try simp only [Act.put, List.setIfInBounds_toArray, List.set_cons_zero, List.set_cons_succ]
            refine wpAnyK_done (by kernel_rfl) ?_ _
            obtain ⟨wb5, hwb⟩ : ∃ wb, wb = w75.setCell ⟨g3, 4, none⟩ (.slice (some ⟨gg5, 0, none⟩) (pl.length + 1) c35) := ⟨_, rfl⟩
            rw [← hwb] at HB8 ⊢
            have hb5 := HB8.out
            clear hwb HB8
            have hq5 := HXL.out q' u5 q55 (by omega) N55.out
            obtain ⟨⟨y0, y1, y2, y3, y4⟩, g0, g1, g2, g3', g4⟩ := hb5.box.five
            have hpl9 : (pl ++ [u5]).length = pl.length + 1 := by simp
            have hB9 := Lib.hid (hb5.putN ((pl.length : Nat) + 1 : Int))
            have hb9 : 0 ≤ (pl.length : Int) ∧ (pl.length : Int) ≤ 8 := by omega
            clear hb5
            go_wp2_with fail
            go_roundw
            case rel => exact ⟨n, pl ++ [u5], q55, some ⟨gg5, 0, none⟩, c35, xs ++ cellsT u5 A5 c5, by omega, by simpa using hB9.out, by omega, H55⟩
            case measure => rw [hB9.out.rd.rest, hRest]; exact hq5
        · rw [if_neg ha] at hE
          have HE := Lib.hid hE
          obtain ⟨tp, htp⟩ : ∃ tp, tp = peekV q' e := ⟨_, rfl⟩
          rw [← htp] at HP ha
          clear hE htp
          unfold Tok.val at HP
          go_wp2_with fail
          refine HP.out.mono ?_
          rintro x wa ⟨rfl, hba⟩
          have hb0 := hb.below hba
          clear hb y2 hba HP
          go_wp2_with fail
          refine (HT2 q' _ hb0.rd).out.mono ?_
          rintro x wt7 ⟨hm6, hg6, hbd6⟩
          cases h6 : takeV [45, 62] e q' with
          | error p =>
            obtain rfl := hbd6 p h6
            have hm9 := hb0.mv.trans hm6
            have H9 := Lib.hid (show res = .error p from by rw [HE.out, altEnd, h6]; rfl)
            clear hg6 hbd6 h6
            go_wp2_with fail
            refine ⟨rfl, ?_⟩
            exact ⟨hm9, fun t q h => (by rw [H9.out] at h; cases h), fun p' h => by rw [H9.out] at h; cases h; rfl⟩
          | ok x6 =>
            obtain ⟨t7, q7⟩ := x6
            obtain ⟨rfl, hR6⟩ := hg6 t7 q7 h6
            have n7 := takeV_len h6
            have H7 := Lib.hid (show res = (ex q7).bind fun y => .ok (.node 8 nm pl.length pc (pl ++ [y.1]), y.2) from by rw [HE.out, altEnd, h6]; rfl)
            have hb7 := hb0.step hm6 hR6
            clear hg6 hbd6 h6 hm6 hR6 hb0
            unfold Tok.val
            have HS8 := Lib.hid (fun V (h : Moves r wt7 V) => (show V.cell? ⟨g3, 4, none⟩ = some (.slice B pl.length bc) from (h.lies hb7.box (by have := hb7.le; have := hb7.rlt; omega)).five.1.2.2.2.2))
            have HAQ8 := Lib.hid (HEX.out q7 wt7.drew (by omega) (hb7.rd.below (Below.refl _ wt7).drew))
            obtain ⟨⟨y0, y1, y2, y3, y4⟩, _⟩ := hb7.box.five
            clear y0 y1 y2 y3
            go_wp2_with fail
            refine wp_region_K (S := fun V => V.cell? ⟨g3, 4, none⟩ = some (.slice B pl.length bc)) 7 (by kernel_rfl) (HS8.out _ (Moves.of_below (Below.refl _ wt7).drew)) fun hS1 => ?_
            change wpAnyK _ _ _ _ _ _ 8 (Array.replicate 8 false) _ _
            refine wpAnyK_take (i := 0) (v := .pointer (some ⟨g3, 4, none⟩)) rfl (by kernel_rfl) (by kernel_rfl) (by kernel_rfl) (by kernel_rfl) (fun _ _ _ h => h) (.inl ⟨by kernel_rfl, fun W hW => by kernel_rfl⟩) hS1 ?_
            try simp only [Act.put, List.setIfInBounds_toArray]
            refine wpAnyK_take (i := 1) (v := .slice B pl.length bc) rfl (by kernel_rfl) (by kernel_rfl) (by kernel_rfl) (by kernel_rfl) (fun _ _ _ h => h) (.inl ⟨by kernel_rfl, fun W hW => by go_simp⟩) hS1 ?_
            try simp only [Act.put]
            refine wpAnyK_take (i := 2) (v := .pointer (some ⟨r, 0, none⟩)) rfl (by kernel_rfl) (by kernel_rfl) (by kernel_rfl) (by kernel_rfl) (fun _ _ _ h => h) (.inl ⟨by kernel_rfl, fun W hW => by kernel_rfl⟩) hS1 ?_
            try simp only [Act.put]
            clear hS1 y4
            refine wpAnyK_one (i := 3) rfl rfl (by kernel_rfl) (fun K9 hK => ?_)
            go_wp2_with fail
            refine HAQ8.out.mono ?_
            rintro x w58 ⟨hm5, hg5, hbd5⟩
            have hm5' : Moves r wt7 w58 := (Moves.of_below (Below.refl _ wt7).drew).trans hm5
            cases h5 : ex q7 with
            | error p =>
              obtain rfl := hbd5 p h5
              have hm9 := hb7.mv.trans hm5'
              have H9 := Lib.hid (show res = .error p from by rw [H7.out, h5]; rfl)
              clear hg5 hbd5 h5
              go_wp2_with fail
              refine ⟨rfl, ?_⟩
              exact ⟨hm9, fun t q h => (by rw [H9.out] at h; cases h), fun p' h => by rw [H9.out] at h; cases h; rfl⟩
            | ok tq =>
              obtain ⟨u8, q58⟩ := tq
              obtain ⟨A8, c8, rfl, hTu, hR5⟩ := hg5 u8 q58 h5
              have H58 := Lib.hid (show res = .ok (.node 8 nm pl.length pc (pl ++ [u8]), q58) from by rw [H7.out, h5]; rfl)
              have N58 := Lib.hid h5
              have hTu' : TIn w58 (fun g => wt7.heap.size ≤ g) u8 A8 := TIn.wide _ hTu fun g hg _ => (by have h9 : wt7.heap.size ≤ g := hg; exact h9)
              have hs5 := hm5'.size
              have hown6 := (own_moves hb7.own hm5' (by have := hb7.le; have := hb7.rlt; omega)).alloc (.cells #[.int .i64 u8.kind, .string u8.name, .int .i64 u8.n, .int .i64 u8.place, .slice A8 u8.parts.length (capF u8.parts.length c8)] 24)
              have hm6' : Moves r wt7 (w58.alloc (.cells #[.int .i64 u8.kind, .string u8.name, .int .i64 u8.n, .int .i64 u8.place, .slice A8 u8.parts.length (capF u8.parts.length c8)] 24)) := hm5'.alloc _
              have hszb := hb7.sz
              have HPU := Lib.hid (fun gg c3 w7 a b d => Bs.push (gg := gg) (c3 := c3) (w7 := w7) (c := c8) hb7 hm5' hTu' hR5 a b d)
              clear hg5 hbd5 h5 hTu hTu' hR5
              unfold tv
              go_wp2_with fail
              refine hK.out _ _ (fun _ => HS8.out _ hm5') fun _ => ?_
              clear hK
              try simp only [Act.put, List.setIfInBounds_toArray, List.set_cons_zero, List.set_cons_succ]
              refine wpAnyK_one (i := 4) rfl rfl (by kernel_rfl) (fun K9 hK => ?_)
              go_wp2_with fail
              refine hK.out _ _ (fun _ => HS8.out _ hm6') fun _ => ?_
              clear hK
              try simp only [Act.put, List.setIfInBounds_toArray, List.set_cons_zero, List.set_cons_succ]
              refine wpAnyK_one (i := 5) rfl rfl (by kernel_rfl) (fun K9 hK => ?_)
              refine wp_append_lies _ _ _ _ rfl (g3 + 1) 24 i0 _ 5 64 Tryz.underlying22 hi0 hz0 hz1 hz2 rfl (by decide) (.slice B pl.length bc) pl.length xs rfl hown6 ⟨w58.heap.size, 0, none⟩ 1 1 [.int .i64 u8.kind, .string u8.name, .int .i64 u8.n, .int .i64 u8.place, .slice A8 u8.parts.length (capF u8.parts.length c8)] rfl rfl
                (World.news_of_block (cs := #[.int .i64 u8.kind, .string u8.name, .int .i64 u8.n, .int .i64 u8.place, .slice A8 u8.parts.length (capF u8.parts.length c8)]) (t := 24) (fr := (0, 0)) (heap_alloc_new w58 _)) (by simp [Value.oneCell']) (by omega) (by simp only [maxLen]; omega) (by omega) (by simp; omega) (w58.heap.size + 1) (by simp) ?_
              intro gg8 c38 w78 hown7 hg7 hat hltg
              obtain ⟨e4, f4, hB8⟩ := HPU.out _ _ _ hown7 hg7 hat
              have HB8 := Lib.hid hB8
              clear hg7 hat hown6 hown7 HPU hB8 hm5 hm5' hm6' hltg hb7 HS8 HAQ8
              refine hK.out _ _ (fun _ => e4) fun _ => ?_
              clear hK
              try simp only [Act.put, List.setIfInBounds_toArray]
              refine wpAnyK_one (i := 6) rfl rfl (by kernel_rfl) (fun K9 hK => ?_)
              go_wp2_with fail
              refine hK.out _ _ (fun _ => e4) fun _ => ?_
              clear hK
              try simp only [Act.put, List.setIfInBounds_toArray, List.set_cons_zero, List.set_cons_succ]
              refine wpAnyK_one (i := 7) rfl rfl (by kernel_rfl) (fun K9 hK => ?_)
              go_wp2_with fail
              refine hK.out _ _ (fun h => absurd rfl h) fun _ => ?_
              clear hK e4 f4
              try simp only [Act.put, List.setIfInBounds_toArray, List.set_cons_zero, List.set_cons_succ]
              refine wpAnyK_done (by kernel_rfl) ?_ _
              obtain ⟨wb8, hwb⟩ : ∃ wb, wb = w78.setCell ⟨g3, 4, none⟩ (.slice (some ⟨gg8, 0, none⟩) (pl.length + 1) c38) := ⟨_, rfl⟩
              rw [← hwb] at HB8 ⊢
              have hb8 := HB8.out
              clear hwb HB8
              obtain ⟨pl2, hpl2⟩ : ∃ m, m = pl ++ [u8] := ⟨_, rfl⟩
              have hl2 : pl2.length ≤ 9 := by rw [hpl2]; simp; omega
              rw [← hpl2] at hb8 H58
              clear hpl2
              have hle9 := own_le hb8.own
              have HFI := Lib.hid (Bs.finish hb8 hsz hl2)
              obtain ⟨⟨z0, z1, z2, z3, z4⟩, f0, f1, f2, f3, f4⟩ := hb8.res.five
              obtain ⟨⟨y0, y1, y2, y3, y4⟩, _⟩ := hb8.box.five
              clear hb8
              go_wp2_with fail
              refine bodyPost_ret (res_tree (p := 2) Tryz.results145 rfl HFI.out.2) rfl ?_
              obtain ⟨q1, q2, q3⟩ := HFI.out.1
              refine ⟨q1, fun t' q'' h => ?_, fun p h => (by rw [H58.out] at h; cases h)⟩
              rw [H58.out] at h
              simp only [Except.ok.injEq, Prod.mk.injEq] at h
              obtain ⟨rfl, rfl⟩ := h
              exact ⟨(some ⟨gg8, 0, none⟩), c38, tv_own hle9, TIn.wide _ q3 fun g hg _ => Nat.le_of_succ_le hg, q2⟩
end Lx
end Go.Proofs.YteabbkhlgnoliaaGreatDoor
namespace Go.Proofs.YteabbkhlgnoliaaGreatDoor
open Go.RowKit
namespace Lx
set_option maxRecDepth 100000
theorem altLoop_len {ex : List Tok → PR} {e : Int} {nm : ByteArray} {pc : Int} {m : Nat} (hex : Eats ex m) : ∀ (n : Nat) (pl : List Tr) (l : List Tok), l.length ≤ m → ∀ v q, altLoop ex e nm pc n pl l = .ok (v, q) → q.length ≤ l.length := by
  have hend : ∀ (pl : List Tr) (l : List Tok), l.length ≤ m → ∀ v q, altEnd ex e nm pc pl l = .ok (v, q) → q.length ≤ l.length := fun pl l hl v q h => by
    unfold altEnd at h
    cases h1 : takeV [45, 62] e l with
    | error p => rw [h1] at h; cases h
    | ok x =>
      obtain ⟨t, q1⟩ := x
      rw [h1] at h
      have n1 := takeV_len h1
      replace h : (ex q1).bind (fun y => (.ok (.node 8 nm pl.length pc (pl ++ [y.1]), y.2) : PR)) = .ok (v, q) := h
      cases h2 : ex q1 with
      | error p => rw [h2] at h; cases h
      | ok y =>
        rw [h2] at h
        have n2 := hex q1 y.1 y.2 (by omega) h2
        replace h : (.ok (.node 8 nm pl.length pc (pl ++ [y.1]), y.2) : PR) = .ok (v, q) := h
        simp only [Except.ok.injEq, Prod.mk.injEq] at h
        rw [← h.2]; omega
  intro n
  induction n with
  | zero => intro pl l hl v q h; exact hend pl l hl v q h
  | succ n ih =>
    intro pl l hl v q h
    unfold altLoop at h
    by_cases ha : (peekV l e).kind = 1
    · rw [if_pos ha] at h
      cases h1 : atomV ex e l with
      | error p => rw [h1] at h; cases h
      | ok x =>
        obtain ⟨u, q1⟩ := x
        rw [h1] at h
        have n1 := atomV_len (fun l' t q h2 => hex l' t q (Nat.lt_of_lt_of_le h2 hl)) h1
        have := ih _ q1 (by omega) v q h
        omega
    · rw [if_neg ha] at h
      exact hend pl l hl v q h
theorem altV_len {ex : List Tok → PR} {e : Int} {m : Nat} (hex : Eats ex m) {l : List Tok} (hl : l.length ≤ m) {v : Tr} {q : List Tok} (h : altV ex e l = .ok (v, q)) : q.length < l.length := by
  unfold altV at h
  cases h1 : takeKV 2 e l with
  | error p => rw [h1] at h; cases h
  | ok x =>
    obtain ⟨t, q1⟩ := x
    rw [h1] at h
    have n1 := takeKV_len h1
    have := altLoop_len hex 8 [] q1 (by omega) v q h
    omega
def choiceEnd (e pc : Int) (pl : List Tr) (l : List Tok) : PR := (takeV [125] e l).bind fun x => .ok (.node 7 ⟨#[]⟩ 0 pc pl, x.2)
def choiceLoop (al : List Tok → PR) (e pc : Int) : Nat → List Tr → List Tok → PR
  | 0, pl, l => choiceEnd e pc pl l
  | n + 1, pl, l => if (peekV l e).text == [124] then (takeV [124] e l).bind fun x => (al x.2).bind fun y => choiceLoop al e pc n (pl ++ [y.1]) y.2 else choiceEnd e pc pl l
def choiceV (ex : List Tok → PR) (e : Int) (l : List Tok) : PR :=
  (takeV [99, 97, 115, 101] e l).bind fun x1 => (ex x1.2).bind fun x2 => (takeV [111, 102] e x2.2).bind fun x3 => (takeV [123] e x3.2).bind fun x4 => (altV ex e x4.2).bind fun x5 => choiceLoop (altV ex e) e x1.1.place 7 [x2.1, x5.1] x5.2
theorem bytes4 (a b c d : UInt8) : (⟨#[a, b, c, d]⟩ : ByteArray).toList = [a, b, c, d] := ByteArray.toList_mk [a, b, c, d]
set_option maxHeartbeats 8000000 in
theorem choice_any (r Tb : Nat) (e : Int) (ex : List Tok → PR) (l : List Tok) (w : World) (hR : Rd w r Tb l e)
    (hex : ∀ (l' : List Tok) (w' : World), l'.length < l.length → Rd w' r Tb l' e → Calls Tryz.prog 67 #[.pointer (some ⟨r, 0, none⟩)] w' fun x w'' => PPost w' r Tb e (ex l') x w'')
    (hxl : ∀ l' t' q', l'.length < l.length → ex l' = .ok (t', q') → q'.length < l'.length) :
    Calls Tryz.prog 105 #[.pointer (some ⟨r, 0, none⟩)] w fun x w' => PPost w r Tb e (choiceV ex e l) x w' := by
  have hr := hR.lt'
  have hTb := hR.lt
  have hb00 : Below w.heap.size w (w.alloc (.cells #[.int .i64 0, .string ⟨#[]⟩, .int .i64 0, .int .i64 0, .slice none 0 0] 24)) := (Below.refl _ w).alloc (Nat.le_refl _) _
  have hT := Lies.new w 24 #[.int .i64 0, .string ⟨#[]⟩, .int .i64 0, .int .i64 0, .slice none 0 0]
  have b1 := bytes4 99 97 115 101
  have b2 := bytes2 111 102
  have b3 := bytes1 123
  have b4 := bytes1 124
  have b5 := bytes1 125
  have HTK := Lib.hid (take_both r Tb ⟨#[99, 97, 115, 101]⟩ (by rw [b1]; simp) l e _ (hR.below hb00))
  have HT2 := fun l' w' (h : Rd w' r Tb l' e) => Lib.hid (take_both r Tb ⟨#[111, 102]⟩ (by rw [b2]; simp) l' e w' h)
  have HT3 := fun l' w' (h : Rd w' r Tb l' e) => Lib.hid (take_both r Tb ⟨#[123]⟩ (by rw [b3]; simp) l' e w' h)
  have HT4 := fun l' w' (h : Rd w' r Tb l' e) => Lib.hid (take_both r Tb ⟨#[124]⟩ (by rw [b4]; simp) l' e w' h)
  have HT5 := fun l' w' (h : Rd w' r Tb l' e) => Lib.hid (take_both r Tb ⟨#[125]⟩ (by rw [b5]; simp) l' e w' h)
  rw [b1] at HTK
  rw [b2] at HT2
  rw [b3] at HT3
  rw [b4] at HT4
  rw [b5] at HT5
  have HSE := fun l' w' (h : Rd w' r Tb l' e) => Lib.hid (sees_any r Tb w'.heap.size [⟨#[124]⟩] 1 1 l' e (w'.alloc (.cells #[.string ⟨#[124]⟩] 9)) rfl (by omega) (StrIn.one (Lies.new w' 9 #[.string ⟨#[124]⟩])) (h.below ((Below.refl _ w').alloc (Nat.le_refl _) _)))
  simp only [hasS_one, b4] at HSE
  have HAT := Lib.hid (fun l' w' (hl : l'.length < l.length) (h : Rd w' r Tb l' e) => alt_any r Tb e ex l' w' h (fun l2 w2 h2 hR2 => hex l2 w2 (Nat.lt_trans h2 hl) hR2) (fun l2 t2 q2 h2 hh => hxl l2 t2 q2 (Nat.lt_trans h2 hl) hh))
  have HXL := Lib.hid (fun l' t' q' (hl : l'.length < l.length) (h : altV ex e l' = .ok (t', q')) => altV_len (m := l'.length) (fun l2 t2 q2 h2 => hxl l2 t2 q2 (Nat.lt_trans h2 hl)) (Nat.le_refl _) h)
  have HXE := Lib.hid hxl
  have HEX := Lib.hid hex
  have hf3 := fld3
  obtain ⟨res, hres⟩ : ∃ res, res = choiceV ex e l := ⟨_, rfl⟩
  have hW := hres
  simp only [choiceV] at hW
  have HW := Lib.hid hW
  rw [← hres]
  clear hR hex hxl hres hW b1 b2 b3 b4 b5
  go_enter Tryz.func105, Tryz.ntmps105
  go_wp2_with fail
  refine HTK.out.mono ?_
  rintro x w1 ⟨hm1, hg1, hbd1⟩
  have hm01 := (Moves.of_below hb00).trans hm1
  cases h1 : takeV [99, 97, 115, 101] e l with
  | error p =>
    obtain rfl := hbd1 p h1
    have H9 := Lib.hid (show res = .error p from by rw [HW.out, h1]; rfl)
    clear hg1 hbd1 h1
    go_wp2_with fail
    refine ⟨rfl, ?_⟩
    exact ⟨hm01, fun t q h => (by rw [H9.out] at h; cases h), fun p' h => by rw [H9.out] at h; cases h; rfl⟩
  | ok x1 =>
    obtain ⟨t1, l1⟩ := x1
    obtain ⟨rfl, hR1⟩ := hg1 t1 l1 h1
    have n1 := takeV_len h1
    obtain ⟨pc, hpc⟩ : ∃ pc, pc = t1.place := ⟨_, rfl⟩
    have H1 := Lib.hid (show res = (ex l1).bind fun x2 => (takeV [111, 102] e x2.2).bind fun x3 => (takeV [123] e x3.2).bind fun x4 => (altV ex e x4.2).bind fun x5 => choiceLoop (altV ex e) e pc 7 [x2.1, x5.1] x5.2 from by rw [HW.out, h1, hpc]; rfl)
    have hs1 : w.heap.size + 1 ≤ w1.heap.size := by have h := hm1.size; simp at h; omega
    unfold Tok.val
    rw [← hpc]
    have hT1 := hm1.lies hT (by omega)
    have hbw := (Below.refl _ w1).alloc (Nat.le_refl _) (.cells #[.int .i64 7, .string ⟨#[]⟩, .int .i64 0, .int .i64 pc, .slice none 0 0] 24)
    have hb1 : Bs w r Tb e w1.heap.size 7 ⟨#[]⟩ 0 pc [] l1 none 0 [] (w1.alloc (.cells #[.int .i64 7, .string ⟨#[]⟩, .int .i64 0, .int .i64 pc, .slice none 0 0] 24)) :=
      ⟨hm01.alloc _, hT1.below hbw hT1.lt, Lies.new w1 24 #[.int .i64 7, .string ⟨#[]⟩, .int .i64 0, .int .i64 pc, .slice none 0 0],
        World.ownsRow_nil _ _ _ _, RowTr.nil _ _, by simp, hR1.below hbw, by omega, hr, hTb⟩
    obtain ⟨i0, hi0, hz0, hz1, hz2⟩ := info_parts infoT
    clear hg1 hbd1 h1 hT1 hbw hR1 hm01 hm1 hb00 hT HTK HW hpc
    go_upto_region 2 with fail
    obtain ⟨g3, hg3⟩ : ∃ g, g = w1.heap.size := ⟨_, rfl⟩
    obtain ⟨wa1, hwa1⟩ : ∃ wa, wa = w1.alloc (.cells #[.int .i64 7, .string ⟨#[]⟩, .int .i64 0, .int .i64 pc, .slice none 0 0] 24) := ⟨_, rfl⟩
    rw [← hwa1, ← hg3] at hb1 ⊢
    clear hg3 hwa1
    obtain ⟨pl0, hpl0⟩ : ∃ l : List Tr, l = [] := ⟨_, rfl⟩
    obtain ⟨B0, hB0⟩ : ∃ l : Option Addr, l = none := ⟨_, rfl⟩
    obtain ⟨c0, hc0⟩ : ∃ l : Nat, l = 0 := ⟨_, rfl⟩
    obtain ⟨x0, hx0⟩ : ∃ l : List Value, l = [] := ⟨_, rfl⟩
    have hl0 : pl0.length < 8 := by rw [hpl0]; simp
    have HPL0 := Lib.hid hpl0
    rw [show Bs w r Tb e g3 7 ⟨#[]⟩ 0 pc [] l1 none 0 [] wa1 = Bs w r Tb e g3 7 ⟨#[]⟩ 0 pc pl0 l1 B0 c0 x0 wa1 from by rw [hpl0, hB0, hc0, hx0]] at hb1
    clear hB0 hc0 hx0 hpl0
    have HS2 := Lib.hid (fun V (h : Moves r wa1 V) => (show V.cell? ⟨g3, 4, none⟩ = some (.slice B0 pl0.length c0) from (h.lies hb1.box (by have := hb1.le; have := hb1.rlt; omega)).five.1.2.2.2.2))
    have HAQ2 := Lib.hid (HEX.out l1 wa1.drew (by omega) (hb1.rd.below (Below.refl _ wa1).drew))
    obtain ⟨⟨y0, y1, y2, y3, y4⟩, _⟩ := hb1.box.five
    clear y0 y1 y2 y3
    go_wp2_with fail
    refine wp_region_K (S := fun V => V.cell? ⟨g3, 4, none⟩ = some (.slice B0 pl0.length c0)) 7 (by kernel_rfl) (HS2.out _ (Moves.of_below (Below.refl _ wa1).drew)) fun hS1 => ?_
    change wpAnyK _ _ _ _ _ _ 8 (Array.replicate 8 false) _ _
    refine wpAnyK_take (i := 0) (v := .pointer (some ⟨g3, 4, none⟩)) rfl (by kernel_rfl) (by kernel_rfl) (by kernel_rfl) (by kernel_rfl) (fun _ _ _ h => h) (.inl ⟨by kernel_rfl, fun W hW => by kernel_rfl⟩) hS1 ?_
    try simp only [Act.put, List.setIfInBounds_toArray]
    refine wpAnyK_take (i := 1) (v := .slice B0 pl0.length c0) rfl (by kernel_rfl) (by kernel_rfl) (by kernel_rfl) (by kernel_rfl) (fun _ _ _ h => h) (.inl ⟨by kernel_rfl, fun W hW => by go_simp⟩) hS1 ?_
    try simp only [Act.put]
    refine wpAnyK_take (i := 2) (v := .pointer (some ⟨r, 0, none⟩)) rfl (by kernel_rfl) (by kernel_rfl) (by kernel_rfl) (by kernel_rfl) (fun _ _ _ h => h) (.inl ⟨by kernel_rfl, fun W hW => by kernel_rfl⟩) hS1 ?_
    try simp only [Act.put]
    clear hS1 y4
    refine wpAnyK_one (i := 3) rfl rfl (by kernel_rfl) (fun K9 hK => ?_)
    go_wp2_with fail
    refine HAQ2.out.mono ?_
    rintro x w52 ⟨hm5, hg5, hbd5⟩
    have hm5' : Moves r wa1 w52 := (Moves.of_below (Below.refl _ wa1).drew).trans hm5
    cases h5 : ex l1 with
    | error p =>
      obtain rfl := hbd5 p h5
      have hm9 := hb1.mv.trans hm5'
      have H9 := Lib.hid (show res = .error p from by rw [H1.out, h5]; rfl)
      clear hg5 hbd5 h5
      go_wp2_with fail
      refine ⟨rfl, ?_⟩
      exact ⟨hm9, fun t q h => (by rw [H9.out] at h; cases h), fun p' h => by rw [H9.out] at h; cases h; rfl⟩
    | ok tq =>
      obtain ⟨u2, q52⟩ := tq
      obtain ⟨A2, c2, rfl, hTu, hR5⟩ := hg5 u2 q52 h5
      have H52 := Lib.hid (show res = (takeV [111, 102] e q52).bind fun x3 => (takeV [123] e x3.2).bind fun x4 => (altV ex e x4.2).bind fun x5 => choiceLoop (altV ex e) e pc 7 [u2, x5.1] x5.2 from by rw [H1.out, h5]; rfl)
      have N52 := Lib.hid h5
      have hTu' : TIn w52 (fun g => wa1.heap.size ≤ g) u2 A2 := TIn.wide _ hTu fun g hg _ => (by have h9 : wa1.heap.size ≤ g := hg; exact h9)
      have hs5 := hm5'.size
      have hown6 := (own_moves hb1.own hm5' (by have := hb1.le; have := hb1.rlt; omega)).alloc (.cells #[.int .i64 u2.kind, .string u2.name, .int .i64 u2.n, .int .i64 u2.place, .slice A2 u2.parts.length (capF u2.parts.length c2)] 24)
      have hm6' : Moves r wa1 (w52.alloc (.cells #[.int .i64 u2.kind, .string u2.name, .int .i64 u2.n, .int .i64 u2.place, .slice A2 u2.parts.length (capF u2.parts.length c2)] 24)) := hm5'.alloc _
      have hszb := hb1.sz
      have HPU := Lib.hid (fun gg c3 w7 a b d => Bs.push (gg := gg) (c3 := c3) (w7 := w7) (c := c2) hb1 hm5' hTu' hR5 a b d)
      clear hg5 hbd5 h5 hTu hTu' hR5
      unfold tv
      go_wp2_with fail
      refine hK.out _ _ (fun _ => HS2.out _ hm5') fun _ => ?_
      clear hK
      try simp only [Act.put, List.setIfInBounds_toArray, List.set_cons_zero, List.set_cons_succ]
      refine wpAnyK_one (i := 4) rfl rfl (by kernel_rfl) (fun K9 hK => ?_)
      go_wp2_with fail
      refine hK.out _ _ (fun _ => HS2.out _ hm6') fun _ => ?_
      clear hK
      try simp only [Act.put, List.setIfInBounds_toArray, List.set_cons_zero, List.set_cons_succ]
      refine wpAnyK_one (i := 5) rfl rfl (by kernel_rfl) (fun K9 hK => ?_)
      refine wp_append_lies _ _ _ _ rfl (g3 + 1) 24 i0 _ 5 64 Tryz.underlying22 hi0 hz0 hz1 hz2 rfl (by decide) (.slice B0 pl0.length c0) pl0.length x0 rfl hown6 ⟨w52.heap.size, 0, none⟩ 1 1 [.int .i64 u2.kind, .string u2.name, .int .i64 u2.n, .int .i64 u2.place, .slice A2 u2.parts.length (capF u2.parts.length c2)] rfl rfl
        (World.news_of_block (cs := #[.int .i64 u2.kind, .string u2.name, .int .i64 u2.n, .int .i64 u2.place, .slice A2 u2.parts.length (capF u2.parts.length c2)]) (t := 24) (fr := (0, 0)) (heap_alloc_new w52 _)) (by simp [Value.oneCell']) (by omega) (by simp only [maxLen]; omega) (by omega) (by simp; omega) (w52.heap.size + 1) (by simp) ?_
      intro gg2 c32 w72 hown7 hg7 hat hltg
      obtain ⟨e4, f4, hB8⟩ := HPU.out _ _ _ hown7 hg7 hat
      have HB8 := Lib.hid hB8
      clear hg7 hat hown6 hown7 HPU hB8 hm5 hm5' hm6' hltg hb1 HS2 HAQ2
      refine hK.out _ _ (fun _ => e4) fun _ => ?_
      clear hK
      try simp only [Act.put, List.setIfInBounds_toArray]
      refine wpAnyK_one (i := 6) rfl rfl (by kernel_rfl) (fun K9 hK => ?_)
      go_wp2_with fail
      refine hK.out _ _ (fun _ => e4) fun _ => ?_
      clear hK
      try simp only [Act.put, List.setIfInBounds_toArray, List.set_cons_zero, List.set_cons_succ]
      refine wpAnyK_one (i := 7) rfl rfl (by kernel_rfl) (fun K9 hK => ?_)
      go_wp2_with fail
      refine hK.out _ _ (fun h => absurd rfl h) fun _ => ?_
      clear hK e4 f4
      try simp only [Act.put, List.setIfInBounds_toArray, List.set_cons_zero, List.set_cons_succ]
      refine wpAnyK_done (by kernel_rfl) ?_ _
      obtain ⟨wb2, hwb⟩ : ∃ wb, wb = w72.setCell ⟨g3, 4, none⟩ (.slice (some ⟨gg2, 0, none⟩) (pl0.length + 1) c32) := ⟨_, rfl⟩
      rw [← hwb] at HB8 ⊢
      have hb2 := HB8.out
      clear hwb HB8
      have m2 := HXE.out l1 u2 q52 (by omega) N52.out
      have hpl2 : pl0 ++ [u2] = [u2] := by rw [HPL0.out]; rfl
      rw [hpl2] at hb2
      clear hpl2
      go_wp2_with fail
      refine (HT2 q52 _ hb2.rd).out.mono ?_
      rintro x wt3 ⟨hm6, hg6, hbd6⟩
      cases h6 : takeV [111, 102] e q52 with
      | error p =>
        obtain rfl := hbd6 p h6
        have hm9 := hb2.mv.trans hm6
        have H9 := Lib.hid (show res = .error p from by rw [H52.out, h6]; rfl)
        clear hg6 hbd6 h6
        go_wp2_with fail
        refine ⟨rfl, ?_⟩
        exact ⟨hm9, fun t q h => (by rw [H9.out] at h; cases h), fun p' h => by rw [H9.out] at h; cases h; rfl⟩
      | ok x6 =>
        obtain ⟨t3, q3⟩ := x6
        obtain ⟨rfl, hR6⟩ := hg6 t3 q3 h6
        have n3 := takeV_len h6
        have H3 := Lib.hid (show res = (takeV [123] e q3).bind fun x4 => (altV ex e x4.2).bind fun x5 => choiceLoop (altV ex e) e pc 7 [u2, x5.1] x5.2 from by rw [H52.out, h6]; rfl)
        have hb3 := hb2.step hm6 hR6
        clear hg6 hbd6 h6 hm6 hR6 hb2
        unfold Tok.val
        go_wp2_with fail
        refine (HT3 q3 _ hb3.rd).out.mono ?_
        rintro x wt4 ⟨hm6, hg6, hbd6⟩
        cases h6 : takeV [123] e q3 with
        | error p =>
          obtain rfl := hbd6 p h6
          have hm9 := hb3.mv.trans hm6
          have H9 := Lib.hid (show res = .error p from by rw [H3.out, h6]; rfl)
          clear hg6 hbd6 h6
          go_wp2_with fail
          refine ⟨rfl, ?_⟩
          exact ⟨hm9, fun t q h => (by rw [H9.out] at h; cases h), fun p' h => by rw [H9.out] at h; cases h; rfl⟩
        | ok x6 =>
          obtain ⟨t4, q4⟩ := x6
          obtain ⟨rfl, hR6⟩ := hg6 t4 q4 h6
          have n4 := takeV_len h6
          have H4 := Lib.hid (show res = (altV ex e q4).bind fun x5 => choiceLoop (altV ex e) e pc 7 [u2, x5.1] x5.2 from by rw [H3.out, h6]; rfl)
          have hb4 := hb3.step hm6 hR6
          clear hg6 hbd6 h6 hm6 hR6 hb3
          unfold Tok.val
          obtain ⟨pl4, hpl4⟩ : ∃ l, l = [u2] := ⟨_, rfl⟩
          have hl4 : pl4.length < 8 := by rw [hpl4]; simp
          have HPL4 := Lib.hid hpl4
          rw [← hpl4] at hb4
          obtain ⟨B4, hB4⟩ : ∃ l, l = some (⟨gg2, 0, none⟩ : Addr) := ⟨_, rfl⟩
          rw [← hB4] at hb4
          clear hB4 hpl4
          have HS6 := Lib.hid (fun V (h : Moves r wt4 V) => (show V.cell? ⟨g3, 4, none⟩ = some (.slice B4 pl4.length c32) from (h.lies hb4.box (by have := hb4.le; have := hb4.rlt; omega)).five.1.2.2.2.2))
          have HAQ6 := Lib.hid (HAT.out q4 wt4.drew (by omega) (hb4.rd.below (Below.refl _ wt4).drew))
          obtain ⟨⟨y0, y1, y2, y3, y4⟩, _⟩ := hb4.box.five
          clear y0 y1 y2 y3
          go_wp2_with fail
          refine wp_region_K (S := fun V => V.cell? ⟨g3, 4, none⟩ = some (.slice B4 pl4.length c32)) 7 (by kernel_rfl) (HS6.out _ (Moves.of_below (Below.refl _ wt4).drew)) fun hS1 => ?_
          change wpAnyK _ _ _ _ _ _ 8 (Array.replicate 8 false) _ _
          refine wpAnyK_take (i := 0) (v := .pointer (some ⟨g3, 4, none⟩)) rfl (by kernel_rfl) (by kernel_rfl) (by kernel_rfl) (by kernel_rfl) (fun _ _ _ h => h) (.inl ⟨by kernel_rfl, fun W hW => by kernel_rfl⟩) hS1 ?_
          try simp only [Act.put, List.setIfInBounds_toArray]
          refine wpAnyK_take (i := 1) (v := .slice B4 pl4.length c32) rfl (by kernel_rfl) (by kernel_rfl) (by kernel_rfl) (by kernel_rfl) (fun _ _ _ h => h) (.inl ⟨by kernel_rfl, fun W hW => by go_simp⟩) hS1 ?_
          try simp only [Act.put]
          refine wpAnyK_take (i := 2) (v := .pointer (some ⟨r, 0, none⟩)) rfl (by kernel_rfl) (by kernel_rfl) (by kernel_rfl) (by kernel_rfl) (fun _ _ _ h => h) (.inl ⟨by kernel_rfl, fun W hW => by kernel_rfl⟩) hS1 ?_
          try simp only [Act.put]
          clear hS1 y4
          refine wpAnyK_one (i := 3) rfl rfl (by kernel_rfl) (fun K9 hK => ?_)
          go_wp2_with fail
          refine HAQ6.out.mono ?_
          rintro x w56 ⟨hm5, hg5, hbd5⟩
          have hm5' : Moves r wt4 w56 := (Moves.of_below (Below.refl _ wt4).drew).trans hm5
          cases h5 : altV ex e q4 with
          | error p =>
            obtain rfl := hbd5 p h5
            have hm9 := hb4.mv.trans hm5'
            have H9 := Lib.hid (show res = .error p from by rw [H4.out, h5]; rfl)
            clear hg5 hbd5 h5
            go_wp2_with fail
            refine ⟨rfl, ?_⟩
            exact ⟨hm9, fun t q h => (by rw [H9.out] at h; cases h), fun p' h => by rw [H9.out] at h; cases h; rfl⟩
          | ok tq =>
            obtain ⟨u6, q56⟩ := tq
            obtain ⟨A6, c6, rfl, hTu, hR5⟩ := hg5 u6 q56 h5
            have H56 := Lib.hid (show res = choiceLoop (altV ex e) e pc 7 [u2, u6] q56 from by rw [H4.out, h5]; rfl)
            have N56 := Lib.hid h5
            have hTu' : TIn w56 (fun g => wt4.heap.size ≤ g) u6 A6 := TIn.wide _ hTu fun g hg _ => (by have h9 : wt4.heap.size ≤ g := hg; exact h9)
            have hs5 := hm5'.size
            have hown6 := (own_moves hb4.own hm5' (by have := hb4.le; have := hb4.rlt; omega)).alloc (.cells #[.int .i64 u6.kind, .string u6.name, .int .i64 u6.n, .int .i64 u6.place, .slice A6 u6.parts.length (capF u6.parts.length c6)] 24)
            have hm6' : Moves r wt4 (w56.alloc (.cells #[.int .i64 u6.kind, .string u6.name, .int .i64 u6.n, .int .i64 u6.place, .slice A6 u6.parts.length (capF u6.parts.length c6)] 24)) := hm5'.alloc _
            have hszb := hb4.sz
            have HPU := Lib.hid (fun gg c3 w7 a b d => Bs.push (gg := gg) (c3 := c3) (w7 := w7) (c := c6) hb4 hm5' hTu' hR5 a b d)
            clear hg5 hbd5 h5 hTu hTu' hR5
            unfold tv
            go_wp2_with fail
            refine hK.out _ _ (fun _ => HS6.out _ hm5') fun _ => ?_
            clear hK
            try simp only [Act.put, List.setIfInBounds_toArray, List.set_cons_zero, List.set_cons_succ]
            refine wpAnyK_one (i := 4) rfl rfl (by kernel_rfl) (fun K9 hK => ?_)
            go_wp2_with fail
            refine hK.out _ _ (fun _ => HS6.out _ hm6') fun _ => ?_
            clear hK
            try simp only [Act.put, List.setIfInBounds_toArray, List.set_cons_zero, List.set_cons_succ]
            refine wpAnyK_one (i := 5) rfl rfl (by kernel_rfl) (fun K9 hK => ?_)
            refine wp_append_lies _ _ _ _ rfl (g3 + 1) 24 i0 _ 5 64 Tryz.underlying22 hi0 hz0 hz1 hz2 rfl (by decide) (.slice B4 pl4.length c32) pl4.length (x0 ++ cellsT u2 A2 c2) rfl hown6 ⟨w56.heap.size, 0, none⟩ 1 1 [.int .i64 u6.kind, .string u6.name, .int .i64 u6.n, .int .i64 u6.place, .slice A6 u6.parts.length (capF u6.parts.length c6)] rfl rfl
              (World.news_of_block (cs := #[.int .i64 u6.kind, .string u6.name, .int .i64 u6.n, .int .i64 u6.place, .slice A6 u6.parts.length (capF u6.parts.length c6)]) (t := 24) (fr := (0, 0)) (heap_alloc_new w56 _)) (by simp [Value.oneCell']) (by omega) (by simp only [maxLen]; omega) (by omega) (by simp; omega) (w56.heap.size + 1) (by simp) ?_
            intro gg6 c36 w76 hown7 hg7 hat hltg
            obtain ⟨e4, f4, hB8⟩ := HPU.out _ _ _ hown7 hg7 hat
            have HB8 := Lib.hid hB8
            clear hg7 hat hown6 hown7 HPU hB8 hm5 hm5' hm6' hltg hb4 HS6 HAQ6
            refine hK.out _ _ (fun _ => e4) fun _ => ?_
            clear hK
            try simp only [Act.put, List.setIfInBounds_toArray]
            refine wpAnyK_one (i := 6) rfl rfl (by kernel_rfl) (fun K9 hK => ?_)
            go_wp2_with fail
            refine hK.out _ _ (fun _ => e4) fun _ => ?_
            clear hK
            try simp only [Act.put, List.setIfInBounds_toArray, List.set_cons_zero, List.set_cons_succ]
            refine wpAnyK_one (i := 7) rfl rfl (by kernel_rfl) (fun K9 hK => ?_)
            go_wp2_with fail
            refine hK.out _ _ (fun h => absurd rfl h) fun _ => ?_
            clear hK e4 f4
            try simp only [Act.put, List.setIfInBounds_toArray, List.set_cons_zero, List.set_cons_succ]
            refine wpAnyK_done (by kernel_rfl) ?_ _
            obtain ⟨wb6, hwb⟩ : ∃ wb, wb = w76.setCell ⟨g3, 4, none⟩ (.slice (some ⟨gg6, 0, none⟩) (pl4.length + 1) c36) := ⟨_, rfl⟩
            rw [← hwb] at HB8 ⊢
            have hb6 := HB8.out
            clear hwb HB8
            have m6 := HXL.out q4 u6 q56 (by omega) N56.out
            have hpl6 : pl4 ++ [u6] = [u2, u6] := by rw [HPL4.out]; rfl
            rw [hpl6] at hb6
            have HST := Lib.hid hb6
            clear hpl6 hb6
            go_wp2_with fail
            go_loopw [] (fun wr => ∃ (n : Nat) (pl : List Tr) (q' : List Tok) (B : Option Addr) (bc : Nat) (xs : List Value), pl.length + n = 9 ∧ Bs w r Tb e g3 7 ⟨#[]⟩ 0 pc pl q' B bc xs wr ∧ q'.length < l.length ∧ Hid (res = choiceLoop (altV ex e) e pc n pl q')) (fun wr => restLen r wr)
            case atStart => exact ⟨7, [u2, u6], q56, some ⟨gg6, 0, none⟩, c36, _, rfl, HST.out, by omega, H56⟩
            case round =>
              clear hl0 hl4
              obtain ⟨n, pl, q', B, bc, xs, hn, hb, hq', HE⟩ := hrel
              obtain ⟨⟨y0, y1, y2, y3, y4⟩, _⟩ := hb.box.five
              cases n with
              | zero =>
                have h8 : ¬ (pl.length : Int) ≤ 8 := by omega
                have hE := HE.out
                simp only [choiceLoop] at hE
                have HE := Lib.hid hE
                clear hE y0 y1 y2 y3
                have hb0 := hb
                clear hb
                obtain ⟨wa, hwa⟩ : ∃ wa, wa = wr := ⟨_, rfl⟩
                subst hwa
                go_wp2_with fail
                refine (HT5 q' _ hb0.rd).out.mono ?_
                rintro x wt7 ⟨hm6, hg6, hbd6⟩
                cases h6 : takeV [125] e q' with
                | error p =>
                  obtain rfl := hbd6 p h6
                  have hm9 := hb0.mv.trans hm6
                  have H9 := Lib.hid (show res = .error p from by rw [HE.out, choiceEnd, h6]; rfl)
                  clear hg6 hbd6 h6
                  go_wp2_with fail
                  refine ⟨rfl, ?_⟩
                  exact ⟨hm9, fun t q h => (by rw [H9.out] at h; cases h), fun p' h => by rw [H9.out] at h; cases h; rfl⟩
                | ok x6 =>
                  obtain ⟨t7, q7⟩ := x6
                  obtain ⟨rfl, hR6⟩ := hg6 t7 q7 h6
                  have n7 := takeV_len h6
                  have H7 := Lib.hid (show res = .ok (.node 7 ⟨#[]⟩ 0 pc pl, q7) from by rw [HE.out, choiceEnd, h6]; rfl)
                  have hb7 := hb0.step hm6 hR6
                  clear hg6 hbd6 h6 hm6 hR6 hb0
                  unfold Tok.val
                  have hl2 : pl.length ≤ 9 := by omega
                  have hle9 := own_le hb7.own
                  have HFI := Lib.hid (Bs.finish hb7 (by decide) hl2)
                  obtain ⟨⟨z0, z1, z2, z3, z4⟩, f0, f1, f2, f3, f4⟩ := hb7.res.five
                  obtain ⟨⟨y0, y1, y2, y3, y4⟩, _⟩ := hb7.box.five
                  clear hb7
                  go_wp2_with fail
                  refine bodyPost_ret (res_tree (p := 2) Tryz.results105 rfl HFI.out.2) rfl ?_
                  obtain ⟨q1, q2, q3⟩ := HFI.out.1
                  refine ⟨q1, fun t' q'' h => ?_, fun p h => (by rw [H7.out] at h; cases h)⟩
                  rw [H7.out] at h
                  simp only [Except.ok.injEq, Prod.mk.injEq] at h
                  obtain ⟨rfl, rfl⟩ := h
                  exact ⟨B, bc, tv_own hle9, TIn.wide _ q3 fun g hg _ => Nat.le_of_succ_le hg, q2⟩
              | succ n =>
                have h8 : (pl.length : Int) ≤ 8 := by omega
                have HP := HSE q' wr hb.rd
                have hRest := hb.rd.rest
                have hE := HE.out
                unfold choiceLoop at hE
                clear HE y0 y1 y2 y3
                cases ha : (peekV q' e).text == [124] with
                | false =>
                  rw [ha] at HP hE
                  rw [if_neg (by simp)] at hE
                  have HE := Lib.hid hE
                  clear hE ha
                  go_wp2_with fail
                  refine HP.out.mono ?_
                  rintro x wa ⟨rfl, hba⟩
                  have hb0 := hb.below (((Below.refl _ wr).alloc (Nat.le_refl _) _).trans (hba.mono (by simp)))
                  clear hb y4 hba HP
                  go_wp2_with fail
                  refine (HT5 q' _ hb0.rd).out.mono ?_
                  rintro x wt7 ⟨hm6, hg6, hbd6⟩
                  cases h6 : takeV [125] e q' with
                  | error p =>
                    obtain rfl := hbd6 p h6
                    have hm9 := hb0.mv.trans hm6
                    have H9 := Lib.hid (show res = .error p from by rw [HE.out, choiceEnd, h6]; rfl)
                    clear hg6 hbd6 h6
                    go_wp2_with fail
                    refine ⟨rfl, ?_⟩
                    exact ⟨hm9, fun t q h => (by rw [H9.out] at h; cases h), fun p' h => by rw [H9.out] at h; cases h; rfl⟩
                  | ok x6 =>
                    obtain ⟨t7, q7⟩ := x6
                    obtain ⟨rfl, hR6⟩ := hg6 t7 q7 h6
                    have n7 := takeV_len h6
                    have H7 := Lib.hid (show res = .ok (.node 7 ⟨#[]⟩ 0 pc pl, q7) from by rw [HE.out, choiceEnd, h6]; rfl)
                    have hb7 := hb0.step hm6 hR6
                    clear hg6 hbd6 h6 hm6 hR6 hb0
                    unfold Tok.val
                    have hl2 : pl.length ≤ 9 := by omega
                    have hle9 := own_le hb7.own
                    have HFI := Lib.hid (Bs.finish hb7 (by decide) hl2)
                    obtain ⟨⟨z0, z1, z2, z3, z4⟩, f0, f1, f2, f3, f4⟩ := hb7.res.five
                    obtain ⟨⟨y0, y1, y2, y3, y4⟩, _⟩ := hb7.box.five
                    clear hb7
                    go_wp2_with fail
                    refine bodyPost_ret (res_tree (p := 2) Tryz.results105 rfl HFI.out.2) rfl ?_
                    obtain ⟨q1, q2, q3⟩ := HFI.out.1
                    refine ⟨q1, fun t' q'' h => ?_, fun p h => (by rw [H7.out] at h; cases h)⟩
                    rw [H7.out] at h
                    simp only [Except.ok.injEq, Prod.mk.injEq] at h
                    obtain ⟨rfl, rfl⟩ := h
                    exact ⟨B, bc, tv_own hle9, TIn.wide _ q3 fun g hg _ => Nat.le_of_succ_le hg, q2⟩
                | true =>
                  rw [ha] at HP hE
                  rw [if_pos rfl] at hE
                  have HE := Lib.hid hE
                  clear hE ha
                  go_wp2_with fail
                  refine HP.out.mono ?_
                  rintro x wa ⟨rfl, hba⟩
                  have hb0 := hb.below (((Below.refl _ wr).alloc (Nat.le_refl _) _).trans (hba.mono (by simp)))
                  clear hb y4 hba HP
                  go_wp2_with fail
                  refine (HT4 q' _ hb0.rd).out.mono ?_
                  rintro x wt7 ⟨hm6, hg6, hbd6⟩
                  cases h6 : takeV [124] e q' with
                  | error p =>
                    obtain rfl := hbd6 p h6
                    have hm9 := hb0.mv.trans hm6
                    have H9 := Lib.hid (show res = .error p from by rw [HE.out, h6]; rfl)
                    clear hg6 hbd6 h6
                    go_wp2_with fail
                    refine ⟨rfl, ?_⟩
                    exact ⟨hm9, fun t q h => (by rw [H9.out] at h; cases h), fun p' h => by rw [H9.out] at h; cases h; rfl⟩
                  | ok x6 =>
                    obtain ⟨t7, q7⟩ := x6
                    obtain ⟨rfl, hR6⟩ := hg6 t7 q7 h6
                    have n7 := takeV_len h6
                    have H7 := Lib.hid (show res = (altV ex e q7).bind fun y => choiceLoop (altV ex e) e pc n (pl ++ [y.1]) y.2 from by rw [HE.out, h6]; rfl)
                    have hb7 := hb0.step hm6 hR6
                    clear hg6 hbd6 h6 hm6 hR6 hb0
                    unfold Tok.val
                    have HS9 := Lib.hid (fun V (h : Moves r wt7 V) => (show V.cell? ⟨g3, 4, none⟩ = some (.slice B pl.length bc) from (h.lies hb7.box (by have := hb7.le; have := hb7.rlt; omega)).five.1.2.2.2.2))
                    have HAQ9 := Lib.hid (HAT.out q7 wt7.drew (by omega) (hb7.rd.below (Below.refl _ wt7).drew))
                    obtain ⟨⟨y0, y1, y2, y3, y4⟩, _⟩ := hb7.box.five
                    clear y0 y1 y2 y3
                    go_wp2_with fail
                    refine wp_region_K (S := fun V => V.cell? ⟨g3, 4, none⟩ = some (.slice B pl.length bc)) 7 (by kernel_rfl) (HS9.out _ (Moves.of_below (Below.refl _ wt7).drew)) fun hS1 => ?_
                    change wpAnyK _ _ _ _ _ _ 8 (Array.replicate 8 false) _ _
                    refine wpAnyK_take (i := 0) (v := .pointer (some ⟨g3, 4, none⟩)) rfl (by kernel_rfl) (by kernel_rfl) (by kernel_rfl) (by kernel_rfl) (fun _ _ _ h => h) (.inl ⟨by kernel_rfl, fun W hW => by kernel_rfl⟩) hS1 ?_
                    try simp only [Act.put, List.setIfInBounds_toArray]
                    refine wpAnyK_take (i := 1) (v := .slice B pl.length bc) rfl (by kernel_rfl) (by kernel_rfl) (by kernel_rfl) (by kernel_rfl) (fun _ _ _ h => h) (.inl ⟨by kernel_rfl, fun W hW => by go_simp⟩) hS1 ?_
                    try simp only [Act.put]
                    refine wpAnyK_take (i := 2) (v := .pointer (some ⟨r, 0, none⟩)) rfl (by kernel_rfl) (by kernel_rfl) (by kernel_rfl) (by kernel_rfl) (fun _ _ _ h => h) (.inl ⟨by kernel_rfl, fun W hW => by kernel_rfl⟩) hS1 ?_
                    try simp only [Act.put]
                    clear hS1 y4
                    refine wpAnyK_one (i := 3) rfl rfl (by kernel_rfl) (fun K9 hK => ?_)
                    go_wp2_with fail
                    refine HAQ9.out.mono ?_
                    rintro x w59 ⟨hm5, hg5, hbd5⟩
                    have hm5' : Moves r wt7 w59 := (Moves.of_below (Below.refl _ wt7).drew).trans hm5
                    cases h5 : altV ex e q7 with
                    | error p =>
                      obtain rfl := hbd5 p h5
                      have hm9 := hb7.mv.trans hm5'
                      have H9 := Lib.hid (show res = .error p from by rw [H7.out, h5]; rfl)
                      clear hg5 hbd5 h5
                      go_wp2_with fail
                      refine ⟨rfl, ?_⟩
                      exact ⟨hm9, fun t q h => (by rw [H9.out] at h; cases h), fun p' h => by rw [H9.out] at h; cases h; rfl⟩
                    | ok tq =>
                      obtain ⟨u9, q59⟩ := tq
                      obtain ⟨A9, c9, rfl, hTu, hR5⟩ := hg5 u9 q59 h5
                      have H59 := Lib.hid (show res = choiceLoop (altV ex e) e pc n (pl ++ [u9]) q59 from by rw [H7.out, h5]; rfl)
                      have N59 := Lib.hid h5
                      have hTu' : TIn w59 (fun g => wt7.heap.size ≤ g) u9 A9 := TIn.wide _ hTu fun g hg _ => (by have h9 : wt7.heap.size ≤ g := hg; exact h9)
                      have hs5 := hm5'.size
                      have hown6 := (own_moves hb7.own hm5' (by have := hb7.le; have := hb7.rlt; omega)).alloc (.cells #[.int .i64 u9.kind, .string u9.name, .int .i64 u9.n, .int .i64 u9.place, .slice A9 u9.parts.length (capF u9.parts.length c9)] 24)
                      have hm6' : Moves r wt7 (w59.alloc (.cells #[.int .i64 u9.kind, .string u9.name, .int .i64 u9.n, .int .i64 u9.place, .slice A9 u9.parts.length (capF u9.parts.length c9)] 24)) := hm5'.alloc _
                      have hszb := hb7.sz
                      have HPU := Lib.hid (fun gg c3 w7 a b d => Bs.push (gg := gg) (c3 := c3) (w7 := w7) (c := c9) hb7 hm5' hTu' hR5 a b d)
                      clear hg5 hbd5 h5 hTu hTu' hR5
                      unfold tv
                      go_wp2_with fail
                      refine hK.out _ _ (fun _ => HS9.out _ hm5') fun _ => ?_
                      clear hK
                      try simp only [Act.put, List.setIfInBounds_toArray, List.set_cons_zero, List.set_cons_succ]
                      refine wpAnyK_one (i := 4) rfl rfl (by kernel_rfl) (fun K9 hK => ?_)
                      go_wp2_with fail
                      refine hK.out _ _ (fun _ => HS9.out _ hm6') fun _ => ?_
                      clear hK
                      try simp only [Act.put, List.setIfInBounds_toArray, List.set_cons_zero, List.set_cons_succ]
                      refine wpAnyK_one (i := 5) rfl rfl (by kernel_rfl) (fun K9 hK => ?_)
                      refine wp_append_lies _ _ _ _ rfl (g3 + 1) 24 i0 _ 5 64 Tryz.underlying22 hi0 hz0 hz1 hz2 rfl (by decide) (.slice B pl.length bc) pl.length xs rfl hown6 ⟨w59.heap.size, 0, none⟩ 1 1 [.int .i64 u9.kind, .string u9.name, .int .i64 u9.n, .int .i64 u9.place, .slice A9 u9.parts.length (capF u9.parts.length c9)] rfl rfl
                        (World.news_of_block (cs := #[.int .i64 u9.kind, .string u9.name, .int .i64 u9.n, .int .i64 u9.place, .slice A9 u9.parts.length (capF u9.parts.length c9)]) (t := 24) (fr := (0, 0)) (heap_alloc_new w59 _)) (by simp [Value.oneCell']) (by omega) (by simp only [maxLen]; omega) (by omega) (by simp; omega) (w59.heap.size + 1) (by simp) ?_
                      intro gg9 c39 w79 hown7 hg7 hat hltg
                      obtain ⟨e4, f4, hB8⟩ := HPU.out _ _ _ hown7 hg7 hat
                      have HB8 := Lib.hid hB8
                      clear hg7 hat hown6 hown7 HPU hB8 hm5 hm5' hm6' hltg hb7 HS9 HAQ9
                      refine hK.out _ _ (fun _ => e4) fun _ => ?_
                      clear hK
                      try simp only [Act.put, List.setIfInBounds_toArray]
                      refine wpAnyK_one (i := 6) rfl rfl (by kernel_rfl) (fun K9 hK => ?_)
                      go_wp2_with fail
                      refine hK.out _ _ (fun _ => e4) fun _ => ?_
                      clear hK
                      try simp only [Act.put, List.setIfInBounds_toArray, List.set_cons_zero, List.set_cons_succ]
                      refine wpAnyK_one (i := 7) rfl rfl (by kernel_rfl) (fun K9 hK => ?_)
                      go_wp2_with fail
                      refine hK.out _ _ (fun h => absurd rfl h) fun _ => ?_
                      clear hK e4 f4
                      try simp only [Act.put, List.setIfInBounds_toArray, List.set_cons_zero, List.set_cons_succ]
                      refine wpAnyK_done (by kernel_rfl) ?_ _
                      obtain ⟨wb9, hwb⟩ : ∃ wb, wb = w79.setCell ⟨g3, 4, none⟩ (.slice (some ⟨gg9, 0, none⟩) (pl.length + 1) c39) := ⟨_, rfl⟩
                      rw [← hwb] at HB8 ⊢
                      have hb9 := HB8.out
                      clear hwb HB8
                      have hq5 := HXL.out q7 u9 q59 (by omega) N59.out
                      have hpl9 : (pl ++ [u9]).length = pl.length + 1 := by simp
                      have hB9 := Lib.hid hb9
                      clear hb9
                      go_wp2_with fail
                      go_roundw
                      case rel => exact ⟨n, pl ++ [u9], q59, some ⟨gg9, 0, none⟩, c39, xs ++ cellsT u9 A9 c9, by omega, hB9.out, by omega, H59⟩
                      case measure => rw [hB9.out.rd.rest, hRest]; omega
end Lx
end Go.Proofs.YteabbkhlgnoliaaGreatDoor
namespace Go.Proofs.YteabbkhlgnoliaaGreatDoor
open Go.RowKit
namespace Lx
set_option maxRecDepth 100000
/-- expr, with fuel. -/
def exprV (e : Int) : Nat → List Tok → PR
  | 0, _ => .error e
  | n + 1, l => if (peekV l e).text == [92] then lamV (exprV e n) e l
    else if (peekV l e).text == [108, 101, 116] then letV 4 (exprV e n) e l
    else if (peekV l e).text == [108, 101, 116, 114, 101, 99] then letV 5 (exprV e n) e l
    else if (peekV l e).text == [99, 97, 115, 101] then choiceV (exprV e n) e l
    else cmpV (sumV (exprV e n) e) e l
theorem lamV_len {ex : List Tok → PR} {e : Int} {m : Nat} (hex : Eats ex m) {l : List Tok} (hl : l.length ≤ m) {v : Tr} {q : List Tok} (h : lamV ex e l = .ok (v, q)) : q.length < l.length := by
  unfold lamV at h
  cases h1 : takeV [92] e l with
  | error p => rw [h1] at h; cases h
  | ok x1 =>
    obtain ⟨t1, l1⟩ := x1
    rw [h1] at h
    have n1 := takeV_len h1
    simp only [Except.bind] at h
    cases h2 : takeKV 1 e l1 with
    | error p => rw [h2] at h; cases h
    | ok x2 =>
      obtain ⟨t2, l2⟩ := x2
      rw [h2] at h
      have n2 := takeKV_len h2
      simp only at h
      cases h3 : takeV [46] e l2 with
      | error p => rw [h3] at h; cases h
      | ok x3 =>
        obtain ⟨t3, l3⟩ := x3
        rw [h3] at h
        have n3 := takeV_len h3
        simp only at h
        cases h4 : ex l3 with
        | error p => rw [h4] at h; cases h
        | ok x4 =>
          obtain ⟨t4, l4⟩ := x4
          rw [h4] at h
          have n4 := hex l3 t4 l4 (by omega) h4
          simp only [Except.ok.injEq, Prod.mk.injEq] at h
          rw [← h.2]; omega
theorem letV_len {k : Int} {ex : List Tok → PR} {e : Int} {m : Nat} (hex : Eats ex m) {l : List Tok} (hl : l.length ≤ m) {v : Tr} {q : List Tok} (h : letV k ex e l = .ok (v, q)) : q.length < l.length := by
  cases l with
  | nil => cases h
  | cons t1 l1 =>
    simp only [letV] at h
    simp only [List.length_cons] at hl ⊢
    cases h2 : takeKV 1 e l1 with
    | error p => rw [h2] at h; cases h
    | ok x2 =>
      obtain ⟨t2, l2⟩ := x2
      rw [h2] at h
      have n2 := takeKV_len h2
      simp only [Except.bind] at h
      cases h3 : takeV [61] e l2 with
      | error p => rw [h3] at h; cases h
      | ok x3 =>
        obtain ⟨t3, l3⟩ := x3
        rw [h3] at h
        have n3 := takeV_len h3
        simp only at h
        cases h4 : ex l3 with
        | error p => rw [h4] at h; cases h
        | ok x4 =>
          obtain ⟨t4, l4⟩ := x4
          rw [h4] at h
          have n4 := hex l3 t4 l4 (by omega) h4
          simp only at h
          cases h5 : takeV [105, 110] e l4 with
          | error p => rw [h5] at h; cases h
          | ok x5 =>
            obtain ⟨t5, l5⟩ := x5
            rw [h5] at h
            have n5 := takeV_len h5
            simp only at h
            cases h6 : ex l5 with
            | error p => rw [h6] at h; cases h
            | ok x6 =>
              obtain ⟨t6, l6⟩ := x6
              rw [h6] at h
              have n6 := hex l5 t6 l6 (by omega) h6
              simp only [Except.ok.injEq, Prod.mk.injEq] at h
              rw [← h.2]; omega
theorem choiceEnd_len {e pc : Int} {pl : List Tr} {l : List Tok} {v : Tr} {q : List Tok} (h : choiceEnd e pc pl l = .ok (v, q)) : q.length < l.length := by
  unfold choiceEnd at h
  cases h1 : takeV [125] e l with
  | error p => rw [h1] at h; cases h
  | ok x1 =>
    obtain ⟨t1, l1⟩ := x1
    rw [h1] at h
    have n1 := takeV_len h1
    simp only [Except.bind, Except.ok.injEq, Prod.mk.injEq] at h
    rw [← h.2]; omega
theorem choiceLoop_len {al : List Tok → PR} {e pc : Int} {m : Nat} (hal : ∀ l' t q, l'.length ≤ m → al l' = .ok (t, q) → q.length < l'.length) : ∀ (n : Nat) (pl : List Tr) (l : List Tok), l.length ≤ m → ∀ v q, choiceLoop al e pc n pl l = .ok (v, q) → q.length < l.length
  | 0, pl, l, _, v, q, h => choiceEnd_len h
  | n + 1, pl, l, hl, v, q, h => by
    unfold choiceLoop at h
    split at h
    · cases h1 : takeV [124] e l with
      | error p => rw [h1] at h; cases h
      | ok x1 =>
        obtain ⟨t1, l1⟩ := x1
        rw [h1] at h
        have n1 := takeV_len h1
        simp only [Except.bind] at h
        cases h2 : al l1 with
        | error p => rw [h2] at h; cases h
        | ok x2 =>
          obtain ⟨u, l2⟩ := x2
          rw [h2] at h
          have n2 := hal l1 u l2 (by omega) h2
          simp only at h
          have := choiceLoop_len hal n _ l2 (by omega) v q h
          omega
    · exact choiceEnd_len h
theorem choiceV_len {ex : List Tok → PR} {e : Int} {m : Nat} (hex : Eats ex m) {l : List Tok} (hl : l.length ≤ m) {v : Tr} {q : List Tok} (h : choiceV ex e l = .ok (v, q)) : q.length < l.length := by
  unfold choiceV at h
  cases h1 : takeV [99, 97, 115, 101] e l with
  | error p => rw [h1] at h; cases h
  | ok x1 =>
    obtain ⟨t1, l1⟩ := x1
    rw [h1] at h
    have n1 := takeV_len h1
    simp only [Except.bind] at h
    cases h2 : ex l1 with
    | error p => rw [h2] at h; cases h
    | ok x2 =>
      obtain ⟨t2, l2⟩ := x2
      rw [h2] at h
      have n2 := hex l1 t2 l2 (by omega) h2
      simp only at h
      cases h3 : takeV [111, 102] e l2 with
      | error p => rw [h3] at h; cases h
      | ok x3 =>
        obtain ⟨t3, l3⟩ := x3
        rw [h3] at h
        have n3 := takeV_len h3
        simp only at h
        cases h4 : takeV [123] e l3 with
        | error p => rw [h4] at h; cases h
        | ok x4 =>
          obtain ⟨t4, l4⟩ := x4
          rw [h4] at h
          have n4 := takeV_len h4
          simp only at h
          cases h5 : altV ex e l4 with
          | error p => rw [h5] at h; cases h
          | ok x5 =>
            obtain ⟨t5, l5⟩ := x5
            rw [h5] at h
            have n5 := altV_len hex (by omega) h5
            simp only at h
            have := choiceLoop_len (m := m) (fun l' t q hl' h => altV_len hex hl' h) 7 _ l5 (by omega) v q h
            omega
theorem exprV_len (e : Int) : ∀ (n : Nat), Eats (exprV e n) n
  | 0, l, t, q, hl, h => by omega
  | n + 1, l, t, q, hl, h => by
    have ih := exprV_len e n
    unfold exprV at h
    split at h
    · exact lamV_len ih (by omega) h
    · split at h
      · exact letV_len ih (by omega) h
      · split at h
        · exact letV_len ih (by omega) h
        · split at h
          · exact choiceV_len ih (by omega) h
          · exact cmpV_len (m := n) (fun l' t q h1 h2 => sumV_len ih l' t q h1 h2) (by omega) h
end Lx
end Go.Proofs.YteabbkhlgnoliaaGreatDoor
namespace Go.Proofs.YteabbkhlgnoliaaGreatDoor
open Go.RowKit
namespace Lx
set_option maxRecDepth 100000
set_option maxHeartbeats 8000000 in
theorem expr_step (r Tb : Nat) (e : Int) (n : Nat) (hex : Less r Tb e (exprV e n) n) (l : List Tok) (hl : l.length < n + 1) (w : World) (hR : Rd w r Tb l e) :
    Calls Tryz.prog 67 #[.pointer (some ⟨r, 0, none⟩)] w fun x w' => PPost w r Tb e (exprV e (n + 1) l) x w' := by
  have hr := hR.lt'
  have hTb := hR.lt
  have hlen := exprV_len e n
  have hb0 : Below w.heap.size w (w.alloc (.cells #[.int .i64 0, .string ⟨#[]⟩, .int .i64 0, .int .i64 0, .slice none 0 0] 24)) := (Below.refl _ w).alloc (Nat.le_refl _) _
  have hT := Lies.new w 24 #[.int .i64 0, .string ⟨#[]⟩, .int .i64 0, .int .i64 0, .slice none 0 0]
  have HP := Lib.hid (peek_any r Tb l e _ (hR.below hb0))
  have HR0 := Lib.hid (hR.below hb0)
  have hf1 := fld1
  have HLAM := Lib.hid (fun w' (h : Rd w' r Tb l e) => lam_any r Tb e (exprV e n) l w' h (fun l2 w2 h2 hR2 => hex l2 w2 (by omega) hR2))
  have HLET := Lib.hid (fun w' k (h : Rd w' r Tb l e) (s : List UInt8) (hs : s ≠ []) (hp : ((peekV l e).text == s) = true) => (show Calls Tryz.prog 104 #[.pointer (some ⟨r, 0, none⟩), .int .i64 k] w' fun x w'' => PPost w' r Tb e (letV k (exprV e n) e l) x w'' from by
    obtain ⟨t1, l1, rfl⟩ := h.nonempty hs hp
    exact let_any r Tb k e (exprV e n) t1 l1 w' h (fun l2 w2 h2 hR2 => hex l2 w2 (by simp at hl; omega) hR2) (fun l2 t2 q2 h2 hh => hlen l2 t2 q2 (by simp at hl; omega) hh)))
  have HCH := Lib.hid (fun w' (h : Rd w' r Tb l e) => choice_any r Tb e (exprV e n) l w' h (fun l2 w2 h2 hR2 => hex l2 w2 (by omega) hR2) (fun l2 t2 q2 h2 hh => hlen l2 t2 q2 (by omega) hh))
  have HCM := Lib.hid (fun w' (h : Rd w' r Tb l e) => cmp_ex r Tb e (exprV e n) n hex hlen l (by omega) w' h)
  obtain ⟨res, hres⟩ : ∃ res, res = exprV e (n + 1) l := ⟨_, rfl⟩
  have hW := hres
  unfold exprV at hW
  rw [← hres]
  obtain ⟨tp, htp⟩ : ∃ tp, tp = peekV l e := ⟨_, rfl⟩
  rw [← htp] at hW HP HLET
  clear hR hex hres htp hlen
  unfold Tok.val at HP
  obtain ⟨sb, hsb⟩ : ∃ sb : ByteArray, sb = ⟨tp.text.toArray⟩ := ⟨_, rfl⟩
  have hsl : sb.toList = tp.text := by rw [hsb]; exact ByteArray.toList_mk _
  rw [← hsb] at HP
  clear hsb
  go_enter Tryz.func67, Tryz.ntmps67
  go_wp2_with fail
  refine HP.out.mono ?_
  rintro x w1 ⟨rfl, hb1⟩
  have hb01 := hb0.trans (hb1.mono hb0.size)
  have hT1 := hT.below hb1 hT.lt
  have hs1 := hb1.size
  simp at hs1
  have hR1 := HR0.out.below hb1
  clear HP HR0 hb0 hb1 hT
  by_cases k1 : (tp.text == [92]) = true
  · have e1 : res = lamV (exprV e n) e l := by rw [hW, if_pos k1]
    rw [← e1] at HLAM
    clear e1 hW HLET HCH HCM
    go_wp2_with fail
    refine (HLAM.out _ hR1).mono ?_
    rintro x w2 ⟨hm2, hg2, hbd2⟩
    have hm02 := (Moves.of_below hb01).trans hm2
    cases h2 : res with
    | error p =>
      obtain rfl := hbd2 p h2
      have H2 := Lib.hid h2
      clear hg2 hbd2 h2
      go_wp2_with fail
      refine ⟨rfl, ?_⟩
      exact ⟨hm02, fun t q h => (by rw [H2.out] at h; cases h), fun p' h => by rw [H2.out] at h; cases h; rfl⟩
    | ok tq =>
      obtain ⟨t, l2⟩ := tq
      obtain ⟨A, c, rfl, hTt, hR2⟩ := hg2 t l2 h2
      have H2 := Lib.hid h2
      clear hg2 hbd2 h2
      have hT2 := hm2.lies hT1 (by omega)
      have hP := put5 hm02 hR2 (Nat.le_refl _) hr hTb (.int .i64 t.kind) (.string t.name) (.int .i64 t.n) (.int .i64 t.place) (.slice A t.parts.length (capF t.parts.length c)) hTt (by omega)
      have HP5 := Lib.hid hP
      have HL := Lib.hid (hT2.all5 (.int .i64 t.kind) (.string t.name) (.int .i64 t.n) (.int .i64 t.place) (.slice A t.parts.length (capF t.parts.length c)))
      obtain ⟨⟨z0, z1, z2, z3, z4⟩, f0, f1, f2, f3, f4⟩ := hT2.five
      clear hT2 hTt hP
      unfold tv
      go_wp2_with fail
      refine bodyPost_ret (res_tree (p := 2) Tryz.results67 rfl HL.out) rfl ?_
      obtain ⟨q1, q2, q3⟩ := HP5.out
      refine ⟨q1, fun t' q' h => ?_, fun p h => (by rw [H2.out] at h; cases h)⟩
      rw [H2.out] at h
      simp only [Except.ok.injEq, Prod.mk.injEq] at h
      obtain ⟨rfl, rfl⟩ := h
      exact ⟨A, c, rfl, TIn.wide _ q3 fun g hg _ => (by have h9 : w1.heap.size ≤ g := hg; have := hb01.size; show w.heap.size ≤ g; omega), q2⟩
  · have hW2 := hW
    rw [if_neg k1] at hW2
    have k1' : (tp.text == [92]) = false := by simpa using k1
    clear hW HLAM
    by_cases k2 : (tp.text == [108, 101, 116]) = true
    · have e1 : res = letV 4 (exprV e n) e l := by rw [hW2, if_pos k2]
      have HL4 := Lib.hid (HLET.out w1 4 hR1 [108, 101, 116] (by simp) k2)
      rw [← e1] at HL4
      clear e1 hW2 HLET HCH HCM
      go_wp2_with fail
      refine HL4.out.mono ?_
      rintro x w2 ⟨hm2, hg2, hbd2⟩
      have hm02 := (Moves.of_below hb01).trans hm2
      cases h2 : res with
      | error p =>
        obtain rfl := hbd2 p h2
        have H2 := Lib.hid h2
        clear hg2 hbd2 h2
        go_wp2_with fail
        refine ⟨rfl, ?_⟩
        exact ⟨hm02, fun t q h => (by rw [H2.out] at h; cases h), fun p' h => by rw [H2.out] at h; cases h; rfl⟩
      | ok tq =>
        obtain ⟨t, l2⟩ := tq
        obtain ⟨A, c, rfl, hTt, hR2⟩ := hg2 t l2 h2
        have H2 := Lib.hid h2
        clear hg2 hbd2 h2
        have hT2 := hm2.lies hT1 (by omega)
        have hP := put5 hm02 hR2 (Nat.le_refl _) hr hTb (.int .i64 t.kind) (.string t.name) (.int .i64 t.n) (.int .i64 t.place) (.slice A t.parts.length (capF t.parts.length c)) hTt (by omega)
        have HP5 := Lib.hid hP
        have HL := Lib.hid (hT2.all5 (.int .i64 t.kind) (.string t.name) (.int .i64 t.n) (.int .i64 t.place) (.slice A t.parts.length (capF t.parts.length c)))
        obtain ⟨⟨z0, z1, z2, z3, z4⟩, f0, f1, f2, f3, f4⟩ := hT2.five
        clear hT2 hTt hP
        unfold tv
        go_wp2_with fail
        refine bodyPost_ret (res_tree (p := 2) Tryz.results67 rfl HL.out) rfl ?_
        obtain ⟨q1, q2, q3⟩ := HP5.out
        refine ⟨q1, fun t' q' h => ?_, fun p h => (by rw [H2.out] at h; cases h)⟩
        rw [H2.out] at h
        simp only [Except.ok.injEq, Prod.mk.injEq] at h
        obtain ⟨rfl, rfl⟩ := h
        exact ⟨A, c, rfl, TIn.wide _ q3 fun g hg _ => (by have h9 : w1.heap.size ≤ g := hg; have := hb01.size; show w.heap.size ≤ g; omega), q2⟩
    · have hW3 := hW2
      rw [if_neg k2] at hW3
      have k2' : (tp.text == [108, 101, 116]) = false := by simpa using k2
      clear hW2
      by_cases k3 : (tp.text == [108, 101, 116, 114, 101, 99]) = true
      · have e1 : res = letV 5 (exprV e n) e l := by rw [hW3, if_pos k3]
        have HL4 := Lib.hid (HLET.out w1 5 hR1 [108, 101, 116, 114, 101, 99] (by simp) k3)
        rw [← e1] at HL4
        clear e1 hW3 HLET HCH HCM
        go_wp2_with fail
        refine HL4.out.mono ?_
        rintro x w2 ⟨hm2, hg2, hbd2⟩
        have hm02 := (Moves.of_below hb01).trans hm2
        cases h2 : res with
        | error p =>
          obtain rfl := hbd2 p h2
          have H2 := Lib.hid h2
          clear hg2 hbd2 h2
          go_wp2_with fail
          refine ⟨rfl, ?_⟩
          exact ⟨hm02, fun t q h => (by rw [H2.out] at h; cases h), fun p' h => by rw [H2.out] at h; cases h; rfl⟩
        | ok tq =>
          obtain ⟨t, l2⟩ := tq
          obtain ⟨A, c, rfl, hTt, hR2⟩ := hg2 t l2 h2
          have H2 := Lib.hid h2
          clear hg2 hbd2 h2
          have hT2 := hm2.lies hT1 (by omega)
          have hP := put5 hm02 hR2 (Nat.le_refl _) hr hTb (.int .i64 t.kind) (.string t.name) (.int .i64 t.n) (.int .i64 t.place) (.slice A t.parts.length (capF t.parts.length c)) hTt (by omega)
          have HP5 := Lib.hid hP
          have HL := Lib.hid (hT2.all5 (.int .i64 t.kind) (.string t.name) (.int .i64 t.n) (.int .i64 t.place) (.slice A t.parts.length (capF t.parts.length c)))
          obtain ⟨⟨z0, z1, z2, z3, z4⟩, f0, f1, f2, f3, f4⟩ := hT2.five
          clear hT2 hTt hP
          unfold tv
          go_wp2_with fail
          refine bodyPost_ret (res_tree (p := 2) Tryz.results67 rfl HL.out) rfl ?_
          obtain ⟨q1, q2, q3⟩ := HP5.out
          refine ⟨q1, fun t' q' h => ?_, fun p h => (by rw [H2.out] at h; cases h)⟩
          rw [H2.out] at h
          simp only [Except.ok.injEq, Prod.mk.injEq] at h
          obtain ⟨rfl, rfl⟩ := h
          exact ⟨A, c, rfl, TIn.wide _ q3 fun g hg _ => (by have h9 : w1.heap.size ≤ g := hg; have := hb01.size; show w.heap.size ≤ g; omega), q2⟩
      · have hW4 := hW3
        rw [if_neg k3] at hW4
        have k3' : (tp.text == [108, 101, 116, 114, 101, 99]) = false := by simpa using k3
        clear hW3 HLET
        by_cases k4 : (tp.text == [99, 97, 115, 101]) = true
        · have e1 : res = choiceV (exprV e n) e l := by rw [hW4, if_pos k4]
          rw [← e1] at HCH
          clear e1 hW4 HCM
          go_wp2_with fail
          refine (HCH.out _ hR1).mono ?_
          rintro x w2 ⟨hm2, hg2, hbd2⟩
          have hm02 := (Moves.of_below hb01).trans hm2
          cases h2 : res with
          | error p =>
            obtain rfl := hbd2 p h2
            have H2 := Lib.hid h2
            clear hg2 hbd2 h2
            go_wp2_with fail
            refine ⟨rfl, ?_⟩
            exact ⟨hm02, fun t q h => (by rw [H2.out] at h; cases h), fun p' h => by rw [H2.out] at h; cases h; rfl⟩
          | ok tq =>
            obtain ⟨t, l2⟩ := tq
            obtain ⟨A, c, rfl, hTt, hR2⟩ := hg2 t l2 h2
            have H2 := Lib.hid h2
            clear hg2 hbd2 h2
            have hT2 := hm2.lies hT1 (by omega)
            have hP := put5 hm02 hR2 (Nat.le_refl _) hr hTb (.int .i64 t.kind) (.string t.name) (.int .i64 t.n) (.int .i64 t.place) (.slice A t.parts.length (capF t.parts.length c)) hTt (by omega)
            have HP5 := Lib.hid hP
            have HL := Lib.hid (hT2.all5 (.int .i64 t.kind) (.string t.name) (.int .i64 t.n) (.int .i64 t.place) (.slice A t.parts.length (capF t.parts.length c)))
            obtain ⟨⟨z0, z1, z2, z3, z4⟩, f0, f1, f2, f3, f4⟩ := hT2.five
            clear hT2 hTt hP
            unfold tv
            go_wp2_with fail
            refine bodyPost_ret (res_tree (p := 2) Tryz.results67 rfl HL.out) rfl ?_
            obtain ⟨q1, q2, q3⟩ := HP5.out
            refine ⟨q1, fun t' q' h => ?_, fun p h => (by rw [H2.out] at h; cases h)⟩
            rw [H2.out] at h
            simp only [Except.ok.injEq, Prod.mk.injEq] at h
            obtain ⟨rfl, rfl⟩ := h
            exact ⟨A, c, rfl, TIn.wide _ q3 fun g hg _ => (by have h9 : w1.heap.size ≤ g := hg; have := hb01.size; show w.heap.size ≤ g; omega), q2⟩
        · have hW5 := hW4
          rw [if_neg k4] at hW5
          have k4' : (tp.text == [99, 97, 115, 101]) = false := by simpa using k4
          rw [← hW5] at HCM
          clear hW4 hW5 HCH
          go_wp2_with fail
          refine (HCM.out _ hR1).mono ?_
          rintro x w2 ⟨hm2, hg2, hbd2⟩
          have hm02 := (Moves.of_below hb01).trans hm2
          cases h2 : res with
          | error p =>
            obtain rfl := hbd2 p h2
            have H2 := Lib.hid h2
            clear hg2 hbd2 h2
            go_wp2_with fail
            refine ⟨rfl, ?_⟩
            exact ⟨hm02, fun t q h => (by rw [H2.out] at h; cases h), fun p' h => by rw [H2.out] at h; cases h; rfl⟩
          | ok tq =>
            obtain ⟨t, l2⟩ := tq
            obtain ⟨A, c, rfl, hTt, hR2⟩ := hg2 t l2 h2
            have H2 := Lib.hid h2
            clear hg2 hbd2 h2
            have hT2 := hm2.lies hT1 (by omega)
            have hP := put5 hm02 hR2 (Nat.le_refl _) hr hTb (.int .i64 t.kind) (.string t.name) (.int .i64 t.n) (.int .i64 t.place) (.slice A t.parts.length (capF t.parts.length c)) hTt (by omega)
            have HP5 := Lib.hid hP
            have HL := Lib.hid (hT2.all5 (.int .i64 t.kind) (.string t.name) (.int .i64 t.n) (.int .i64 t.place) (.slice A t.parts.length (capF t.parts.length c)))
            obtain ⟨⟨z0, z1, z2, z3, z4⟩, f0, f1, f2, f3, f4⟩ := hT2.five
            clear hT2 hTt hP
            unfold tv
            go_wp2_with fail
            refine bodyPost_ret (res_tree (p := 2) Tryz.results67 rfl HL.out) rfl ?_
            obtain ⟨q1, q2, q3⟩ := HP5.out
            refine ⟨q1, fun t' q' h => ?_, fun p h => (by rw [H2.out] at h; cases h)⟩
            rw [H2.out] at h
            simp only [Except.ok.injEq, Prod.mk.injEq] at h
            obtain ⟨rfl, rfl⟩ := h
            exact ⟨A, c, rfl, TIn.wide _ q3 fun g hg _ => (by have h9 : w1.heap.size ≤ g := hg; have := hb01.size; show w.heap.size ≤ g; omega), q2⟩
theorem expr_any (r Tb : Nat) (e : Int) : ∀ (n : Nat), Less r Tb e (exprV e n) n
  | 0, l, w, hl, _ => by omega
  | n + 1, l, w, hl, hR => expr_step r Tb e n (expr_any r Tb e n) l hl w hR
end Lx
end Go.Proofs.YteabbkhlgnoliaaGreatDoor
namespace Go.Proofs.YteabbkhlgnoliaaGreatDoor
open Go.RowKit
namespace Lx
set_option maxRecDepth 100000
theorem assert_ex (v : Value) (w : World) : (Instr.typeAssert (.iface 102 v) 20 102 true).run Tryz.prog w = .ok (.tuple #[v, .bool true]) w := by kernel_rfl
theorem assert_ex_nil (w : World) : (Instr.typeAssert .nilIface 20 102 true).run Tryz.prog w = .ok (.tuple #[.agg #[.int .i64 0], .bool false]) w := by kernel_rfl
set_option maxHeartbeats 4000000 in
theorem catch_ex (b0 b1 b2 : Nat) (p : Int) (w : World) (x0 x1 x2 x3 x4 x5 x6 : Value) (d01 : b0 < b1) (d12 : b1 < b2) (h0 : Lies w b0 24 #[x0, x1, x2, x3, x4]) (h1 : Lies w b1 3 #[x5]) (h2 : Lies w b2 29 #[x6]) :
    CallsD Tryz.prog 66 #[.pointer (some ⟨b0, 0, none⟩), .pointer (some ⟨b1, 0, none⟩), .pointer (some ⟨b2, 0, none⟩)] (.panicking [{ v := noEx p, recovered := false }]) w fun e u' w' =>
      e = .returned (.tuple #[]) ∧ u' = .panicking [{ v := noEx p, recovered := true }] ∧ Lies w' b0 24 #[.int .i64 0, .string ⟨#[]⟩, .int .i64 0, .int .i64 0, .slice none 0 0] ∧ Lies w' b1 3 #[.int .i64 p] ∧ Lies w' b2 29 #[.int .i64 30] ∧ Below b0 w w' := by
  unfold noEx
  refine callsD_of_wpS Tryz.func66 rfl fun c₀ cs hu => ?_
  apply wpS_seq
  refine region_recover (w' := w) (v := .iface 102 (.agg #[.int .i64 p])) rfl rfl rfl (by simp [recoverD, hu]; rfl) ?_ ?_
  · rintro ⟨a, w2, h⟩
    simp [Exit.thenS, bodyPostS] at h
  · have hta := assert_ex (.agg #[.int .i64 p])
    show wpList _ _ _ _ { tmps := #[.pointer (some ⟨b0, 0, none⟩), .pointer (some ⟨b1, 0, none⟩), .pointer (some ⟨b2, 0, none⟩), undef, undef, undef, .iface 102 (.agg #[.int .i64 p]), undef, undef, undef, undef, undef, undef, undef], defers := [] } w
    go_wp2_with fail
    refine wpS_of_wp ?_
    clear hta
    have g0 := h0.old (.cells #[.int .i64 p] 102)
    have g1 := h1.old (.cells #[.int .i64 p] 102)
    have g2 := h2.old (.cells #[.int .i64 p] 102)
    have gn := Lies.new w 102 #[.int .i64 p]
    obtain ⟨W, hW⟩ : ∃ W, W = w.alloc (.cells #[.int .i64 p] 102) := ⟨_, rfl⟩
    rw [← hW] at g0 g1 g2 gn ⊢
    obtain ⟨⟨c0, c1', c2', c3, c4⟩, f0, f1', f2', f3, f4⟩ := g0.five
    have c1 := g1.cell 0
    have c2 := g2.cell 0
    have f1 := g1.frozen 0
    have f2 := g2.frozen 0
    have n0 := gn.cell 0
    simp at c1 c2 n0
    have HW := Lib.hid hW
    clear hW
    obtain ⟨G, hG⟩ : ∃ G, G = w.heap.size := ⟨_, rfl⟩
    rw [← hG] at n0 gn ⊢
    have l2 := h2.lt
    rw [← hG] at l2
    have HG := Lib.hid hG
    clear hG h0 h1 h2
    have e1 : ¬ b0 = b1 := by omega
    have e2 : ¬ b1 = b0 := by omega
    have e3 : ¬ b0 = b2 := by omega
    have e4 : ¬ b2 = b0 := by omega
    have e5 : ¬ b1 = b2 := by omega
    have e6 : ¬ b2 = b1 := by omega
    have e7 : ¬ b0 = G := by omega
    have e8 : ¬ G = b0 := by omega
    have e9 : ¬ b1 = G := by omega
    have e10 : ¬ G = b1 := by omega
    have e11 : ¬ b2 = G := by omega
    have e12 : ¬ G = b2 := by omega
    have L2 := Lib.hid l2
    clear l2
    go_wp2_with fail
    go_region
    have hb : Below b0 w W := by
      rw [HW.out]
      exact (Below.refl _ w).alloc (by have := L2.out; rw [← HG.out]; omega) _
    refine ⟨rfl, _, rfl, .tuple #[], by simp [results, Tryz.results66], rfl, rfl, ?_, ?_, ?_, ?_⟩
    · exact ((((g0.all5 (.int .i64 0) (.string ⟨#[]⟩) (.int .i64 0) (.int .i64 0) (.slice none 0 0))).far (p := ⟨b1, 0, none⟩) e1 _).far (p := ⟨b2, 0, none⟩) e3 _).drew
    · exact ((((((((g1.far (p := ⟨b0, 0, none⟩) e2 _).far (p := ⟨b0, 1, none⟩) e2 _).far (p := ⟨b0, 2, none⟩) e2 _).far (p := ⟨b0, 3, none⟩) e2 _).far (p := ⟨b0, 4, none⟩) e2 _)).put 0 (.int .i64 p)).far (p := ⟨b2, 0, none⟩) e5 _).drew
    · exact ((((((((g2.far (p := ⟨b0, 0, none⟩) e4 _).far (p := ⟨b0, 1, none⟩) e4 _).far (p := ⟨b0, 2, none⟩) e4 _).far (p := ⟨b0, 3, none⟩) e4 _).far (p := ⟨b0, 4, none⟩) e4 _)).far (p := ⟨b1, 0, none⟩) e6 _).put 0 (.int .i64 30)).drew
    · exact (((((((hb.setCell (p := ⟨b0, 0, none⟩) (Nat.le_refl _) _).setCell (p := ⟨b0, 1, none⟩) (Nat.le_refl _) _).setCell (p := ⟨b0, 2, none⟩) (Nat.le_refl _) _).setCell (p := ⟨b0, 3, none⟩) (Nat.le_refl _) _).setCell (p := ⟨b0, 4, none⟩) (Nat.le_refl _) _).setCell (p := ⟨b1, 0, none⟩) (Nat.le_of_lt d01) _).setCell (p := ⟨b2, 0, none⟩) (by show b0 ≤ b2; omega) _).drew
theorem catch_ex_idle (b0 b1 b2 : Nat) (w : World) :
    CallsD Tryz.prog 66 #[.pointer (some ⟨b0, 0, none⟩), .pointer (some ⟨b1, 0, none⟩), .pointer (some ⟨b2, 0, none⟩)] .returning w fun e u' w' =>
      e = .returned (.tuple #[]) ∧ u' = .returning ∧ Below w.heap.size w w' := by
  refine callsD_of_wpS Tryz.func66 rfl fun c₀ cs hu => ?_
  apply wpS_seq
  refine region_recover_nil (w' := w) rfl rfl rfl (by simp [recoverD, hu]) ?_ ?_
  · rintro ⟨a, w2, h⟩
    simp [Exit.thenS, bodyPostS] at h
  · have hta := assert_ex_nil
    show wpList _ _ _ _ { tmps := #[.pointer (some ⟨b0, 0, none⟩), .pointer (some ⟨b1, 0, none⟩), .pointer (some ⟨b2, 0, none⟩), undef, undef, undef, .nilIface, undef, undef, undef, undef, undef, undef, undef], defers := [] } w
    go_wp2_with fail
    refine wpS_of_wp ?_
    clear hta
    go_wp2_with fail
    refine ⟨rfl, .returning, ?_, .tuple #[], by simp [results, Tryz.results66], rfl, rfl, ?_⟩
    · cases c₀; simp_all
    · exact (Below.refl _ w).alloc (Nat.le_refl _) _
end Lx
end Go.Proofs.YteabbkhlgnoliaaGreatDoor
namespace Go.Proofs.YteabbkhlgnoliaaGreatDoor
open Go.RowKit
namespace Lx
set_option maxRecDepth 100000
def tailV (t : Tr) : List Tok → Except Int Tr
  | [] => .ok t
  | q :: _ => .error q.place
/-- The tree of all tokens, or the place of the first one with which no expr can go on. -/
def wholeV (e : Int) (l : List Tok) : Except Int Tr :=
  (exprV e (l.length + 1) l).bind fun x => tailV x.1 x.2
theorem Moves.to_below {r B : Nat} {a w : World} (h : Moves r a w) (hB : B ≤ r) (hBa : B ≤ a.heap.size) : Below B a w :=
  ⟨h.os, h.tape, h.output, h.size, fun q hq => h.block q (Nat.lt_of_lt_of_le hq hBa) (fun e => by have := Option.some.inj e; omega)⟩
theorem res_whole {fn : Func} (h : fn.results = #[.cell 2 24, .cell 3 3, .cell 4 29]) {tmps : Array Value} {b0 b1 b2 : Nat} {a b c d e x y : Value} {w : World}
    (h2 : tmps.getD 2 undef = .pointer (some ⟨b0, 0, none⟩)) (h3 : tmps.getD 3 undef = .pointer (some ⟨b1, 0, none⟩)) (h4 : tmps.getD 4 undef = .pointer (some ⟨b2, 0, none⟩))
    (L0 : Lies w b0 24 #[a, b, c, d, e]) (L1 : Lies w b1 3 #[x]) (L2 : Lies w b2 29 #[y]) :
    (results fn tmps).run Tryz.prog w = .ok (.tuple #[.agg #[a, b, c, d, e], x, y]) w := by
  obtain ⟨⟨z0, z1, z2, z3, z4⟩, _⟩ := L0.five
  have h2' : tmps[2]?.getD undef = .pointer (some ⟨b0, 0, none⟩) := by simpa using h2
  have h3' : tmps[3]?.getD undef = .pointer (some ⟨b1, 0, none⟩) := by simpa using h3
  have h4' : tmps[4]?.getD undef = .pointer (some ⟨b2, 0, none⟩) := by simpa using h4
  have c1 := L1.cell 0
  have c2 := L2.cell 0
  simp at c1 c2
  simp [results, h, h2', h3', h4', asAddr, go_sem, z0, z1, z2, z3, z4, c1, c2]
/-- What whole answers. -/
structure WPost (w : World) (res : Except Int Tr) (x : Ending) (w' : World) : Prop where
  mv : Below w.heap.size w w'
  good : ∀ t, res = .ok t → ∃ A c, x = .returned (.tuple #[tv t A c, .int .i64 0, .int .i64 0]) ∧ TIn w' (fun g => w.heap.size ≤ g) t A
  bad : ∀ p, res = .error p → x = .returned (.tuple #[.agg #[.int .i64 0, .string ⟨#[]⟩, .int .i64 0, .int .i64 0, .slice none 0 0], .int .i64 p, .int .i64 30])
set_option maxHeartbeats 8000000 in
theorem whole_any (Tb : Nat) (l : List Tok) (e : Int) (A : Option Addr) (c : Nat) (w : World) (hs : l.length ≤ 60000) (htx : ∀ t ∈ l, t.text.length ≤ 60000) (hpar : ∀ t ∈ l, t.kind = 2 → (t.text == [40]) = false)
    (hT : Tb < w.heap.size) (hc : l.length ≤ c) (hrow : Row w A l) (hA : ∀ g o s, A = some ⟨g, o, s⟩ → g = Tb) :
    Calls Tryz.prog 36 #[.agg #[.slice A l.length c, .int .i64 e]] w fun x w' => WPost w (wholeV e l) x w' := by
  have hmf : ∀ (fn : Fn) (first cap : Array Value) (w : World), (Instr.makeFunc fn first cap).run Tryz.prog w = .ok (.func fn first cap) w := fun _ _ _ _ => rfl
  have hb0 : Below w.heap.size w ((((w.alloc (.cells #[.slice A l.length c, .int .i64 e] 63)).alloc (.cells #[.int .i64 0, .string ⟨#[]⟩, .int .i64 0, .int .i64 0, .slice none 0 0] 24)).alloc (.cells #[.int .i64 0] 3)).alloc (.cells #[.int .i64 0] 29)) :=
    ((((Below.refl _ w).alloc (Nat.le_refl _) _).alloc (by simp) _).alloc (by simp; omega) _).alloc (by simp; omega) _
  have LR := (((Lies.new w 63 #[.slice A l.length c, .int .i64 e]).old (.cells #[.int .i64 0, .string ⟨#[]⟩, .int .i64 0, .int .i64 0, .slice none 0 0] 24)).old (.cells #[.int .i64 0] 3)).old (.cells #[.int .i64 0] 29)
  have L0 : Lies ((((w.alloc (.cells #[.slice A l.length c, .int .i64 e] 63)).alloc (.cells #[.int .i64 0, .string ⟨#[]⟩, .int .i64 0, .int .i64 0, .slice none 0 0] 24)).alloc (.cells #[.int .i64 0] 3)).alloc (.cells #[.int .i64 0] 29)) (w.heap.size + 1) 24 #[.int .i64 0, .string ⟨#[]⟩, .int .i64 0, .int .i64 0, .slice none 0 0] := by
    simpa using ((Lies.new (w.alloc (.cells #[.slice A l.length c, .int .i64 e] 63)) 24 #[.int .i64 0, .string ⟨#[]⟩, .int .i64 0, .int .i64 0, .slice none 0 0]).old (.cells #[.int .i64 0] 3)).old (.cells #[.int .i64 0] 29)
  have L1 : Lies ((((w.alloc (.cells #[.slice A l.length c, .int .i64 e] 63)).alloc (.cells #[.int .i64 0, .string ⟨#[]⟩, .int .i64 0, .int .i64 0, .slice none 0 0] 24)).alloc (.cells #[.int .i64 0] 3)).alloc (.cells #[.int .i64 0] 29)) (w.heap.size + 1 + 1) 3 #[.int .i64 0] := by
    simpa using (Lies.new ((w.alloc (.cells #[.slice A l.length c, .int .i64 e] 63)).alloc (.cells #[.int .i64 0, .string ⟨#[]⟩, .int .i64 0, .int .i64 0, .slice none 0 0] 24)) 3 #[.int .i64 0]).old (.cells #[.int .i64 0] 29)
  have L2 : Lies ((((w.alloc (.cells #[.slice A l.length c, .int .i64 e] 63)).alloc (.cells #[.int .i64 0, .string ⟨#[]⟩, .int .i64 0, .int .i64 0, .slice none 0 0] 24)).alloc (.cells #[.int .i64 0] 3)).alloc (.cells #[.int .i64 0] 29)) (w.heap.size + 1 + 1 + 1) 29 #[.int .i64 0] := by
    simpa using Lies.new (((w.alloc (.cells #[.slice A l.length c, .int .i64 e] 63)).alloc (.cells #[.int .i64 0, .string ⟨#[]⟩, .int .i64 0, .int .i64 0, .slice none 0 0] 24)).alloc (.cells #[.int .i64 0] 3)) 29 #[.int .i64 0]
  have hR : Rd ((((w.alloc (.cells #[.slice A l.length c, .int .i64 e] 63)).alloc (.cells #[.int .i64 0, .string ⟨#[]⟩, .int .i64 0, .int .i64 0, .slice none 0 0] 24)).alloc (.cells #[.int .i64 0] 3)).alloc (.cells #[.int .i64 0] 29)) w.heap.size Tb l e :=
    ⟨hs, htx, hpar, by omega, by simp; omega, A, c, LR, hc, hrow.below hb0 (Nat.le_refl _), hA⟩
  have HEX := Lib.hid (expr_any w.heap.size Tb e (l.length + 1) l _ (by omega) hR)
  obtain ⟨res, hres⟩ : ∃ res, res = wholeV e l := ⟨_, rfl⟩
  have hW := hres
  unfold wholeV at hW
  have HW := Lib.hid hW
  rw [← hres]
  clear hres hW LR hR hA hrow hpar htx
  go_enter_defers Tryz.func36, Tryz.ntmps36
  go_wp2_with fail
  refine HEX.out.mono ?_
  rintro x w1 ⟨hm1, hg1, hbd1⟩
  have hB1 : Below w.heap.size w w1 := hb0.trans (hm1.to_below (Nat.le_refl _) (by simp; omega))
  have k0 := hm1.lies L0 (by omega)
  have k1 := hm1.lies L1 (by omega)
  have k2 := hm1.lies L2 (by omega)
  have hs1 := hm1.size
  simp at hs1
  cases h1 : exprV e (l.length + 1) l with
  | error p =>
    obtain rfl := hbd1 p h1
    have H1 := Lib.hid (show res = .error p from by rw [HW.out, h1]; rfl)
    clear hg1 hbd1 h1 L0 L1 L2 HW HEX hm1
    go_wp2_with fail
    refine leaves_cons (f := 66) (args := #[.pointer (some ⟨w.heap.size + 1, 0, none⟩), .pointer (some ⟨w.heap.size + 1 + 1, 0, none⟩), .pointer (some ⟨w.heap.size + 1 + 1 + 1, 0, none⟩)]) (by simp) (by simp [go_sem]) ?_
    refine (catch_ex (w.heap.size + 1) (w.heap.size + 1 + 1) (w.heap.size + 1 + 1 + 1) p w1 _ _ _ _ _ _ _ (by omega) (by omega) k0 k1 k2).mono ?_
    rintro x u' w2 ⟨rfl, rfl, j0, j1, j2, hb2⟩
    refine ⟨_, res_whole Tryz.results36 (b0 := w.heap.size + 1) (b1 := w.heap.size + 1 + 1) (b2 := w.heap.size + 1 + 1 + 1) (by simp) (by simp) (by simp) j0 j1 j2, ?_⟩
    exact ⟨hB1.trans (hb2.mono (by omega)), fun t h => (by rw [H1.out] at h; cases h), fun p' h => by rw [H1.out] at h; cases h; rfl⟩
  | ok tq =>
    obtain ⟨t, q⟩ := tq
    obtain ⟨A2, c2, rfl, hTt, hR1⟩ := hg1 t q h1
    have hTt' : TIn w1 (fun g => w.heap.size + 1 + 1 + 1 + 1 ≤ g) t A2 := TIn.wide _ hTt fun g hg _ => by simpa using hg
    obtain ⟨⟨z0, z1, z2, z3, z4⟩, f0, f1, f2, f3, f4⟩ := k0.five
    have H1 := Lib.hid (show res = tailV t q from by rw [HW.out, h1]; rfl)
    have hr := hR1.lt'
    have hL0 := k0.all5 (.int .i64 t.kind) (.string t.name) (.int .i64 t.n) (.int .i64 t.place) (.slice A2 t.parts.length (capF t.parts.length c2))
    have hK1 := ((((k1.far (p := ⟨w.heap.size + 1, 0, none⟩) (by show w.heap.size + 1 + 1 ≠ w.heap.size + 1; omega) (.int .i64 t.kind)).far (p := ⟨w.heap.size + 1, 1, none⟩) (by show w.heap.size + 1 + 1 ≠ w.heap.size + 1; omega) (.string t.name)).far (p := ⟨w.heap.size + 1, 2, none⟩) (by show w.heap.size + 1 + 1 ≠ w.heap.size + 1; omega) (.int .i64 t.n)).far (p := ⟨w.heap.size + 1, 3, none⟩) (by show w.heap.size + 1 + 1 ≠ w.heap.size + 1; omega) (.int .i64 t.place)).far (p := ⟨w.heap.size + 1, 4, none⟩) (by show w.heap.size + 1 + 1 ≠ w.heap.size + 1; omega) (.slice A2 t.parts.length (capF t.parts.length c2))
    have hK2 := ((((k2.far (p := ⟨w.heap.size + 1, 0, none⟩) (by show w.heap.size + 1 + 1 + 1 ≠ w.heap.size + 1; omega) (.int .i64 t.kind)).far (p := ⟨w.heap.size + 1, 1, none⟩) (by show w.heap.size + 1 + 1 + 1 ≠ w.heap.size + 1; omega) (.string t.name)).far (p := ⟨w.heap.size + 1, 2, none⟩) (by show w.heap.size + 1 + 1 + 1 ≠ w.heap.size + 1; omega) (.int .i64 t.n)).far (p := ⟨w.heap.size + 1, 3, none⟩) (by show w.heap.size + 1 + 1 + 1 ≠ w.heap.size + 1; omega) (.int .i64 t.place)).far (p := ⟨w.heap.size + 1, 4, none⟩) (by show w.heap.size + 1 + 1 + 1 ≠ w.heap.size + 1; omega) (.slice A2 t.parts.length (capF t.parts.length c2))
    have hX : ¬ w.heap.size + 1 + 1 + 1 + 1 ≤ w.heap.size + 1 := by omega
    have hTb := TIn.setCell _ (TIn.setCell _ (TIn.setCell _ (TIn.setCell _ (TIn.setCell _ hTt' ⟨w.heap.size + 1, 0, none⟩ (.int .i64 t.kind) hX) ⟨w.heap.size + 1, 1, none⟩ (.string t.name) hX) ⟨w.heap.size + 1, 2, none⟩ (.int .i64 t.n) hX) ⟨w.heap.size + 1, 3, none⟩ (.int .i64 t.place) hX) ⟨w.heap.size + 1, 4, none⟩ (.slice A2 t.parts.length (capF t.parts.length c2)) hX
    have hRb := ((((hR1.put (G := w.heap.size + 1) (by omega) (by omega) 0 (.int .i64 t.kind)).put (G := w.heap.size + 1) (by omega) (by omega) 1 (.string t.name)).put (G := w.heap.size + 1) (by omega) (by omega) 2 (.int .i64 t.n)).put (G := w.heap.size + 1) (by omega) (by omega) 3 (.int .i64 t.place)).put (G := w.heap.size + 1) (by omega) (by omega) 4 (.slice A2 t.parts.length (capF t.parts.length c2))
    have hBb := ((((hB1.setCell (p := ⟨w.heap.size + 1, 0, none⟩) (by simp) (.int .i64 t.kind)).setCell (p := ⟨w.heap.size + 1, 1, none⟩) (by simp) (.string t.name)).setCell (p := ⟨w.heap.size + 1, 2, none⟩) (by simp) (.int .i64 t.n)).setCell (p := ⟨w.heap.size + 1, 3, none⟩) (by simp) (.int .i64 t.place)).setCell (p := ⟨w.heap.size + 1, 4, none⟩) (by simp) (.slice A2 t.parts.length (capF t.parts.length c2))
    clear hg1 hbd1 h1 L0 L1 L2 HW HEX hm1 hTt hTt' hR1 k0 k1 k2 hB1 hb0
    unfold tv
    go_upto_region 3 with fail
    obtain ⟨wb, hwb⟩ : ∃ wb, wb = ((((w1.setCell ⟨w.heap.size + 1, 0, none⟩ (.int .i64 t.kind)).setCell ⟨w.heap.size + 1, 1, none⟩ (.string t.name)).setCell ⟨w.heap.size + 1, 2, none⟩ (.int .i64 t.n)).setCell ⟨w.heap.size + 1, 3, none⟩ (.int .i64 t.place)).setCell ⟨w.heap.size + 1, 4, none⟩ (.slice A2 t.parts.length (capF t.parts.length c2)) := ⟨_, rfl⟩
    rw [← hwb] at hL0 hK1 hK2 hTb hRb hBb ⊢
    have hsz : wb.heap.size = w1.heap.size := by rw [hwb]; simp
    clear hwb z0 z1 z2 z3 z4 f0 f1 f2 f3 f4
    obtain ⟨⟨z0, z1, z2, z3, z4⟩, f0, f1, f2, f3, f4⟩ := hL0.five
    have cc1 := hK1.cell 0
    have cc2 := hK2.cell 0
    have ff1 := hK1.frozen 0
    have ff2 := hK2.frozen 0
    simp at cc1 cc2
    cases q with
    | nil =>
      obtain ⟨_, _, _, _, _, A3, c3, LR1, _, _, _⟩ := hRb
      have y0 := LR1.cell 0
      simp at y0
      go_wp2_with fail
      refine leaves_cons (f := 66) (args := #[.pointer (some ⟨w.heap.size + 1, 0, none⟩), .pointer (some ⟨w.heap.size + 1 + 1, 0, none⟩), .pointer (some ⟨w.heap.size + 1 + 1 + 1, 0, none⟩)]) (by simp) (by simp [go_sem]) ?_
      refine (catch_ex_idle (w.heap.size + 1) (w.heap.size + 1 + 1) (w.heap.size + 1 + 1 + 1) _).mono ?_
      rintro x u' w2 ⟨rfl, rfl, hb2⟩
      have hX2 : ∀ b, b = w.heap.size + 1 ∨ b = w.heap.size + 1 + 1 ∨ b = w.heap.size + 1 + 1 + 1 → ¬ w.heap.size + 1 + 1 + 1 + 1 ≤ b := by omega
      have hs7 : (((((((wb.setCell ⟨w.heap.size + 1, 0, none⟩ (.int .i64 t.kind)).setCell ⟨w.heap.size + 1, 1, none⟩ (.string t.name)).setCell ⟨w.heap.size + 1, 2, none⟩ (.int .i64 t.n)).setCell ⟨w.heap.size + 1, 3, none⟩ (.int .i64 t.place)).setCell ⟨w.heap.size + 1, 4, none⟩ (.slice A2 t.parts.length (capF t.parts.length c2))).setCell ⟨w.heap.size + 1 + 1, 0, none⟩ (.int .i64 0)).setCell ⟨w.heap.size + 1 + 1 + 1, 0, none⟩ (.int .i64 0)).heap.size = wb.heap.size := by simp
      have j0 := (((hL0.all5 (.int .i64 t.kind) (.string t.name) (.int .i64 t.n) (.int .i64 t.place) (.slice A2 t.parts.length (capF t.parts.length c2))).far (p := ⟨w.heap.size + 1 + 1, 0, none⟩) (by show w.heap.size + 1 ≠ w.heap.size + 1 + 1; omega) (.int .i64 0)).far (p := ⟨w.heap.size + 1 + 1 + 1, 0, none⟩) (by show w.heap.size + 1 ≠ w.heap.size + 1 + 1 + 1; omega) (.int .i64 0)).below hb2 (by rw [hs7]; omega)
      have j1 := (((((((hK1.far (p := ⟨w.heap.size + 1, 0, none⟩) (by show w.heap.size + 1 + 1 ≠ w.heap.size + 1; omega) (.int .i64 t.kind)).far (p := ⟨w.heap.size + 1, 1, none⟩) (by show w.heap.size + 1 + 1 ≠ w.heap.size + 1; omega) (.string t.name)).far (p := ⟨w.heap.size + 1, 2, none⟩) (by show w.heap.size + 1 + 1 ≠ w.heap.size + 1; omega) (.int .i64 t.n)).far (p := ⟨w.heap.size + 1, 3, none⟩) (by show w.heap.size + 1 + 1 ≠ w.heap.size + 1; omega) (.int .i64 t.place)).far (p := ⟨w.heap.size + 1, 4, none⟩) (by show w.heap.size + 1 + 1 ≠ w.heap.size + 1; omega) (.slice A2 t.parts.length (capF t.parts.length c2))).put 0 (.int .i64 0)).far (p := ⟨w.heap.size + 1 + 1 + 1, 0, none⟩) (by show w.heap.size + 1 + 1 ≠ w.heap.size + 1 + 1 + 1; omega) (.int .i64 0)).below hb2 (by rw [hs7]; omega)
      have j2 := (((((((hK2.far (p := ⟨w.heap.size + 1, 0, none⟩) (by show w.heap.size + 1 + 1 + 1 ≠ w.heap.size + 1; omega) (.int .i64 t.kind)).far (p := ⟨w.heap.size + 1, 1, none⟩) (by show w.heap.size + 1 + 1 + 1 ≠ w.heap.size + 1; omega) (.string t.name)).far (p := ⟨w.heap.size + 1, 2, none⟩) (by show w.heap.size + 1 + 1 + 1 ≠ w.heap.size + 1; omega) (.int .i64 t.n)).far (p := ⟨w.heap.size + 1, 3, none⟩) (by show w.heap.size + 1 + 1 + 1 ≠ w.heap.size + 1; omega) (.int .i64 t.place)).far (p := ⟨w.heap.size + 1, 4, none⟩) (by show w.heap.size + 1 + 1 + 1 ≠ w.heap.size + 1; omega) (.slice A2 t.parts.length (capF t.parts.length c2))).far (p := ⟨w.heap.size + 1 + 1, 0, none⟩) (by show w.heap.size + 1 + 1 + 1 ≠ w.heap.size + 1 + 1; omega) (.int .i64 0)).put 0 (.int .i64 0)).below hb2 (by rw [hs7]; omega)
      have hT2 := TIn.below _ (TIn.setCell _ (TIn.setCell _ (TIn.setCell _ (TIn.setCell _ (TIn.setCell _ (TIn.setCell _ (TIn.setCell _ hTb ⟨w.heap.size + 1, 0, none⟩ (.int .i64 t.kind) hX) ⟨w.heap.size + 1, 1, none⟩ (.string t.name) hX) ⟨w.heap.size + 1, 2, none⟩ (.int .i64 t.n) hX) ⟨w.heap.size + 1, 3, none⟩ (.int .i64 t.place) hX) ⟨w.heap.size + 1, 4, none⟩ (.slice A2 t.parts.length (capF t.parts.length c2)) hX) ⟨w.heap.size + 1 + 1, 0, none⟩ (.int .i64 0) (hX2 _ (.inr (.inl rfl)))) ⟨w.heap.size + 1 + 1 + 1, 0, none⟩ (.int .i64 0) (hX2 _ (.inr (.inr rfl)))) hb2 (Nat.le_refl _)
      have hB2 := (((((((hBb.setCell (p := ⟨w.heap.size + 1, 0, none⟩) (by simp) (.int .i64 t.kind)).setCell (p := ⟨w.heap.size + 1, 1, none⟩) (by simp) (.string t.name)).setCell (p := ⟨w.heap.size + 1, 2, none⟩) (by simp) (.int .i64 t.n)).setCell (p := ⟨w.heap.size + 1, 3, none⟩) (by simp) (.int .i64 t.place)).setCell (p := ⟨w.heap.size + 1, 4, none⟩) (by simp) (.slice A2 t.parts.length (capF t.parts.length c2))).setCell (p := ⟨w.heap.size + 1 + 1, 0, none⟩) (by show w.heap.size ≤ w.heap.size + 1 + 1; omega) (.int .i64 0)).setCell (p := ⟨w.heap.size + 1 + 1 + 1, 0, none⟩) (by show w.heap.size ≤ w.heap.size + 1 + 1 + 1; omega) (.int .i64 0)).trans (hb2.mono (by rw [hs7]; omega))
      refine ⟨_, res_whole Tryz.results36 (b0 := w.heap.size + 1) (b1 := w.heap.size + 1 + 1) (b2 := w.heap.size + 1 + 1 + 1) (by simp) (by simp) (by simp) j0 (by simpa using j1) (by simpa using j2), ?_⟩
      refine ⟨hB2, fun t' h => ?_, fun p h => (by rw [H1.out] at h; cases h)⟩
      rw [H1.out] at h
      simp only [tailV, Except.ok.injEq] at h
      obtain rfl := h
      exact ⟨A2, c2, rfl, TIn.wide _ hT2 fun g hg _ => (by have h9 : w.heap.size + 1 + 1 + 1 + 1 ≤ g := hg; show w.heap.size ≤ g; omega)⟩
    | cons a q =>
      have HST := Lib.hid (stop_any w.heap.size Tb (a :: q) e wb hRb)
      obtain ⟨_, _, _, _, _, A3, c3, LR1, _, _, _⟩ := hRb
      have y0 := LR1.cell 0
      simp only [List.length_cons] at y0
      simp at y0
      have hpos : (0 : Int) < (q.length : Int) + 1 := by omega
      go_wp2_with fail
      refine HST.out.mono ?_
      rintro x w3 ⟨rfl, hb3⟩
      have m0 := hL0.below hb3 hL0.lt
      have m1 := hK1.below hb3 hK1.lt
      have m2 := hK2.below hb3 hK2.lt
      have hBc := hBb.trans (hb3.mono hBb.size)
      have hs3 := hb3.size
      clear y0 z0 z1 z2 z3 z4 f0 f1 f2 f3 f4 cc1 cc2 ff1 ff2 HST LR1
      unfold noEx
      go_wp2_with fail
      refine leaves_cons (f := 66) (args := #[.pointer (some ⟨w.heap.size + 1, 0, none⟩), .pointer (some ⟨w.heap.size + 1 + 1, 0, none⟩), .pointer (some ⟨w.heap.size + 1 + 1 + 1, 0, none⟩)]) (by simp) (by simp [go_sem]) ?_
      refine (catch_ex (w.heap.size + 1) (w.heap.size + 1 + 1) (w.heap.size + 1 + 1 + 1) a.place w3 _ _ _ _ _ _ _ (by omega) (by omega) m0 m1 m2).mono ?_
      rintro x u' w2 ⟨rfl, rfl, j0, j1, j2, hb2⟩
      refine ⟨_, res_whole Tryz.results36 (b0 := w.heap.size + 1) (b1 := w.heap.size + 1 + 1) (b2 := w.heap.size + 1 + 1 + 1) (by simp) (by simp) (by simp) j0 j1 j2, ?_⟩
      exact ⟨hBc.trans (hb2.mono (by omega)), fun t h => (by rw [H1.out] at h; cases h), fun p' h => by rw [H1.out] at h; cases h; rfl⟩
end Lx
end Go.Proofs.YteabbkhlgnoliaaGreatDoor
namespace Go.Proofs.YteabbkhlgnoliaaGreatDoor
open Go.RowKit
namespace Lx
set_option maxRecDepth 100000
/-- The tree of a text, or a place and an error. -/
def parseV (s : List UInt8) (deep : Int) : Except (Int × Int) Tr :=
  if deep < 1 ∨ 200 < deep then .error (0, 1) else if 4096 < s.length then .error (0, 32) else
  match allK s with
  | .error (p, x) => .error (p, x)
  | .ok ts => match wholeV s.length ts with
    | .error p => .error (p, 30)
    | .ok t => if deep < (depthT t : Int) then .error (0, 31) else .ok t
/-- What Parse answers. -/
structure PaPost (w : World) (res : Except (Int × Int) Tr) (x : Ending) (w' : World) : Prop where
  mv : Below w.heap.size w w'
  good : ∀ t, res = .ok t → ∃ A c, x = .returned (.tuple #[tv t A c, .int .i64 0, .int .i64 0]) ∧ TIn w' (fun g => w.heap.size ≤ g) t A
  bad : ∀ p k, res = .error (p, k) → x = .returned (.tuple #[.agg #[.int .i64 0, .string ⟨#[]⟩, .int .i64 0, .int .i64 0, .slice none 0 0], .int .i64 p, .int .i64 k])
theorem runK_len {l : List UInt8} {k n : Int} (h : runK l = .ok (k, n)) : l.length ≤ 18 := by
  unfold runK at h
  split at h
  · unfold numK at h
    split at h
    · cases h
    · split at h
      · cases h
      · rename_i h2
        simp only [not_or] at h2
        omega
  · split at h
    · cases h
    · omega
theorem good_len {t : Tok} (h : Good t) : t.text.length ≤ 18 := by
  obtain ⟨l, h⟩ := h
  unfold tokK at h
  split at h
  · split at h
    · rename_i k n h1
      simp only [Except.ok.injEq, Prod.mk.injEq] at h
      rw [← h.2.2]
      exact runK_len h1
    · cases h
  · split at h
    · rename_i g h1
      simp only [Except.ok.injEq, Prod.mk.injEq] at h
      rw [← h.2.2]
      have : ∀ g ∈ signsS, g.length ≤ 18 := by decide
      exact this g (List.mem_of_find?_eq_some h1)
    · cases h
theorem good_con {t : Tok} (h : Good t) (hk : t.kind ≠ 5) : (t.text == [40]) = false := by
  obtain ⟨l, h⟩ := h
  unfold tokK at h
  split at h
  · split at h
    · rename_i k n h1
      simp only [Except.ok.injEq, Prod.mk.injEq] at h
      obtain ⟨_, _, h3⟩ := h
      have hall := run_take_all ldR l
      cases ht : t.text == [40] with
      | false => rfl
      | true =>
        rw [eq_of_beq ht] at h3
        have := hall 40 (by rw [h3]; simp)
        revert this; decide
    · cases h
  · split at h
    · simp only [Except.ok.injEq, Prod.mk.injEq] at h
      exact absurd h.1.symm hk
    · cases h
theorem allK_good {s : List UInt8} {ts : List Tok} (h : allK s = .ok ts) : ∀ t ∈ ts, Good t := scan_all_good _ _ _ _ h
theorem allK_len {s : List UInt8} {ts : List Tok} (h : allK s = .ok ts) : ts.length ≤ 2 * s.length := by
  have h1 := textS_bound _ _ _ _ h
  have h2 := textS_len ts (allK_good h)
  simp at h1
  omega
theorem own_rowA {w : World} {base : Nat} {A : Option Addr} {n c : Nat} {ts : List Tok} (h : w.ownsRow base 68 4 (.slice A n c) n (cellsOf ts)) (hp : 0 < w.heap.size) :
    n ≤ c ∧ Row w A ts ∧ ∃ Tb, Tb < w.heap.size ∧ ∀ g o s, A = some ⟨g, o, s⟩ → g = Tb := by
  refine ⟨?_, Row.of_own h, ?_⟩
  · rcases h.2 with ⟨hv, rfl⟩ | ⟨g, cap, cur, hv, _, _, hc, _⟩
    · omega
    · cases hv; exact hc
  · rcases h.2 with ⟨hv, _⟩ | ⟨g, cap, cur, hv, hb, hg, _⟩
    · cases hv
      exact ⟨0, hp, fun g o s h => by cases h⟩
    · cases hv
      refine ⟨g, ?_, fun g' o s h => by cases h; rfl⟩
      by_cases hx : g < w.heap.size
      · exact hx
      · rw [Array.getElem?_eq_none (by omega)] at hg
        cases hg
theorem resP {fn : Func} (h : fn.results = #[.cell 4 24, .tmp 5, .tmp 6]) {tmps : Array Value} {b0 : Nat} {a b c d e x y : Value} {w : World}
    (h4 : tmps.getD 4 undef = .pointer (some ⟨b0, 0, none⟩)) (h5 : tmps.getD 5 undef = x) (h6 : tmps.getD 6 undef = y) (L0 : Lies w b0 24 #[a, b, c, d, e]) :
    (results fn tmps).run Tryz.prog w = .ok (.tuple #[.agg #[a, b, c, d, e], x, y]) w := by
  obtain ⟨⟨z0, z1, z2, z3, z4⟩, _⟩ := L0.five
  have h4' : tmps[4]?.getD undef = .pointer (some ⟨b0, 0, none⟩) := by simpa using h4
  have h5' : tmps[5]?.getD undef = x := by simpa using h5
  have h6' : tmps[6]?.getD undef = y := by simpa using h6
  simp [results, h, h4', h5', h6', asAddr, go_sem, z0, z1, z2, z3, z4]

/-- The empty tree is laid into the result's block. -/
theorem zero_in {w V : World} {g : Nat} (hle : w.heap.size ≤ g) (hB : Below w.heap.size w V) (hT : Lies V g 24 #[.int .i64 0, .string ⟨#[]⟩, .int .i64 0, .int .i64 0, .slice none 0 0]) :
    Lies (((((V.setCell ⟨g, 0, none⟩ (.int .i64 0)).setCell ⟨g, 1, none⟩ (.string ⟨#[]⟩)).setCell ⟨g, 2, none⟩ (.int .i64 0)).setCell ⟨g, 3, none⟩ (.int .i64 0)).setCell ⟨g, 4, none⟩ (.slice none 0 0)) g 24 #[.int .i64 0, .string ⟨#[]⟩, .int .i64 0, .int .i64 0, .slice none 0 0] ∧ Below w.heap.size w (((((V.setCell ⟨g, 0, none⟩ (.int .i64 0)).setCell ⟨g, 1, none⟩ (.string ⟨#[]⟩)).setCell ⟨g, 2, none⟩ (.int .i64 0)).setCell ⟨g, 3, none⟩ (.int .i64 0)).setCell ⟨g, 4, none⟩ (.slice none 0 0)) :=
  ⟨hT.all5 (.int .i64 0) (.string ⟨#[]⟩) (.int .i64 0) (.int .i64 0) (.slice none 0 0), (((((hB.setCell (p := ⟨g, 0, none⟩) hle (.int .i64 0)).setCell (p := ⟨g, 1, none⟩) hle (.string ⟨#[]⟩)).setCell (p := ⟨g, 2, none⟩) hle (.int .i64 0)).setCell (p := ⟨g, 3, none⟩) hle (.int .i64 0)).setCell (p := ⟨g, 4, none⟩) hle (.slice none 0 0))⟩
set_option maxHeartbeats 8000000 in
theorem parse_any (s : ByteArray) (deep : Int) (w : World) (hd : -1000000 ≤ deep ∧ deep ≤ 1000000) (hs : s.size ≤ 100000000) (hg : Signs w)
    (hsz : ∀ ts t, allK s.data.toList = .ok ts → wholeV s.data.toList.length ts = .ok t → sizeT t ≤ 100000) :
    Calls Tryz.prog 13 #[.string s, .int .i64 deep] w fun x w' => PaPost w (parseV s.data.toList deep) x w' := by
  have hT0 := Lies.new w 24 #[.int .i64 0, .string ⟨#[]⟩, .int .i64 0, .int .i64 0, .slice none 0 0]
  have hb0 : Below w.heap.size w (w.alloc (.cells #[.int .i64 0, .string ⟨#[]⟩, .int .i64 0, .int .i64 0, .slice none 0 0] 24)) := (Below.refl _ w).alloc (Nat.le_refl _) _
  have hg0 := hg.below hb0 hg.pos
  obtain ⟨res, hres⟩ : ∃ res, res = parseV s.data.toList deep := ⟨_, rfl⟩
  have hW := hres
  unfold parseV at hW
  rw [← hres]
  clear hres hg
  have hlen : s.data.toList.length = s.size := by simp
  go_enter Tryz.func13, Tryz.ntmps13
  go_upto_region 1 with fail
  obtain ⟨g, hgg⟩ : ∃ g, g = w.heap.size := ⟨_, rfl⟩
  obtain ⟨W0, hW0⟩ : ∃ W, W = w.alloc (.cells #[.int .i64 0, .string ⟨#[]⟩, .int .i64 0, .int .i64 0, .slice none 0 0] 24) := ⟨_, rfl⟩
  have hle : w.heap.size ≤ g := by omega
  rw [← hgg, ← hW0] at hT0 ⊢
  rw [← hW0] at hb0 hg0
  have hgl : g < W0.heap.size := hT0.lt
  have hgx := Lib.hid hgg
  clear hgg hW0
  have z0 := hT0.cell 0
  have z1 := hT0.cell 1
  have z2 := hT0.cell 2
  have z3 := hT0.cell 3
  have z4 := hT0.cell 4
  have f0 := hT0.frozen 0
  have f1 := hT0.frozen 1
  have f2 := hT0.frozen 2
  have f3 := hT0.frozen 3
  have f4 := hT0.frozen 4
  simp at z0 z1 z2 z3 z4
  by_cases hd1 : deep < 1
  · have H1 := Lib.hid (show res = .error (0, 1) from by rw [hW, if_pos (.inl hd1)])
    have hZB := zero_in hle hb0 hT0
    have HZ := Lib.hid hZB.1
    have HB := Lib.hid hZB.2
    clear hW hZB hT0 hg0 hsz
    go_wp2_with fail
    refine bodyPost_ret (resP Tryz.results13 (b0 := g) (x := .int .i64 0) (y := .int .i64 1) (by simp) (by simp) (by simp) HZ.out) rfl ?_
    exact ⟨HB.out, fun t h => (by rw [H1.out] at h; cases h), fun p k h => by rw [H1.out] at h; cases h; rfl⟩
  · by_cases hd2 : 200 < deep
    · have H1 := Lib.hid (show res = .error (0, 1) from by rw [hW, if_pos (.inr hd2)])
      have hZB := zero_in hle hb0 hT0
      have HZ := Lib.hid hZB.1
      have HB := Lib.hid hZB.2
      clear hW hZB hT0 hg0 hsz
      go_wp2_with fail
      refine bodyPost_ret (resP Tryz.results13 (b0 := g) (x := .int .i64 0) (y := .int .i64 1) (by simp) (by simp) (by simp) HZ.out) rfl ?_
      exact ⟨HB.out, fun t h => (by rw [H1.out] at h; cases h), fun p k h => by rw [H1.out] at h; cases h; rfl⟩
    · rw [if_neg (by omega)] at hW
      by_cases hs1 : 4096 < s.size
      · have H1 := Lib.hid (show res = .error (0, 32) from by rw [hW, if_pos (by omega)])
        have hs2 : (4096 : Int) < s.size := by omega
        have hZB := zero_in hle hb0 hT0
        have HZ := Lib.hid hZB.1
        have HB := Lib.hid hZB.2
        clear hW hZB hT0 hg0 hsz
        go_wp2_with fail
        refine bodyPost_ret (resP Tryz.results13 (b0 := g) (x := .int .i64 0) (y := .int .i64 32) (by simp) (by simp) (by simp) HZ.out) rfl ?_
        exact ⟨HB.out, fun t h => (by rw [H1.out] at h; cases h), fun p k h => by rw [H1.out] at h; cases h; rfl⟩
      · rw [if_neg (by omega)] at hW
        have hs2 : ¬ (4096 : Int) < s.size := by omega
        cases hk : allK s.data.toList with
        | error px =>
          obtain ⟨p, x⟩ := px
          have hx := err_code hk
          have hx0 : (x == 0) = false := by rcases hx with rfl | rfl <;> rfl
          have H1 := Lib.hid (show res = .error (p, x) from by rw [hW, hk])
          have HA := Lib.hid (all_bad s p x W0 (by omega) hg0 hk)
          clear hW hg0 hsz hk hx
          go_wp2_with fail
          refine HA.out.mono ?_
          rintro y w1 ⟨rfl, hb1⟩
          have hZB := zero_in hle (hb0.trans (hb1.mono hb0.size)) (hT0.below hb1 hgl)
          have c0 := (hT0.below hb1 hgl).frozen 0
          have c1 := (hT0.below hb1 hgl).frozen 1
          have c2 := (hT0.below hb1 hgl).frozen 2
          have c3 := (hT0.below hb1 hgl).frozen 3
          have c4 := (hT0.below hb1 hgl).frozen 4
          have y0 := (hT0.below hb1 hgl).cell 0
          have y1 := (hT0.below hb1 hgl).cell 1
          have y2 := (hT0.below hb1 hgl).cell 2
          have y3 := (hT0.below hb1 hgl).cell 3
          have y4 := (hT0.below hb1 hgl).cell 4
          simp at y0 y1 y2 y3 y4
          have HZ := Lib.hid hZB.1
          have HB := Lib.hid hZB.2
          clear hZB hT0 z0 z1 z2 z3 z4 f0 f1 f2 f3 f4 HA
          go_wp2_with fail
          refine bodyPost_ret (resP Tryz.results13 (b0 := g) (x := .int .i64 p) (y := .int .i64 x) (by simp) (by simp) (by simp) HZ.out) rfl ?_
          exact ⟨HB.out, fun t h => (by rw [H1.out] at h; cases h), fun p k h => by rw [H1.out] at h; cases h; rfl⟩
        | ok ts =>
          rw [hk] at hW
          simp only [hlen] at hW
          have hlt := allK_len hk
          have hgd := allK_good hk
          have HA := Lib.hid (all_good s ts W0 (by omega) hg0 hk)
          have HSZ := Lib.hid (fun t h => hsz ts t hk h)
          rw [hlen] at HSZ
          clear hg0 hsz hk
          go_wp2_with fail
          refine HA.out.mono ?_
          rintro y w1 ⟨A, c, rfl, hown, hb1⟩
          obtain ⟨hc, hrow, Tb, hTb, hTbA⟩ := own_rowA hown (by have := hb1.size; omega)
          have HWH := Lib.hid (whole_any Tb ts s.size A c w1 (by omega) (fun t ht => Nat.le_trans (good_len (hgd t ht)) (by omega)) (fun t ht hk => good_con (hgd t ht) (by omega)) hTb hc hrow hTbA)
          have hT1 := hT0.below hb1 hgl
          have hb01 := hb0.trans (hb1.mono hb0.size)
          have hgl1 := hT1.lt
          have hs01 := Lib.hid hb1.size
          have hgl0 := Lib.hid hgl
          clear hb0 hb1 hT0 z0 z1 z2 z3 z4 f0 f1 f2 f3 f4 HA hown hc hrow hTb hTbA hgd hgl
          go_wp2_with fail
          refine HWH.out.mono ?_
          rintro y w2 ⟨hb2, hgood, hbad⟩
          have hT2 := hT1.below hb2 hgl1
          have hb02 := hb01.trans (hb2.mono hb01.size)
          have hgl2 := hT2.lt
          clear hT1 hb01 HWH
          cases hw : wholeV s.size ts with
          | error p =>
            obtain rfl := hbad p hw
            have H1 := Lib.hid (show res = .error (p, 30) from by rw [hW, hw])
            clear hgood hbad hw hW HSZ
            have hT3 := hT2.old (.cells #[.int .i64 0, .string ⟨#[]⟩, .int .i64 0, .int .i64 0, .slice none 0 0] 24)
            have hX3 := Lies.new w2 24 #[.int .i64 0, .string ⟨#[]⟩, .int .i64 0, .int .i64 0, .slice none 0 0]
            have hb03 := hb02.alloc hb02.size (.cells #[.int .i64 0, .string ⟨#[]⟩, .int .i64 0, .int .i64 0, .slice none 0 0] 24)
            go_upto_region 9 with fail
            obtain ⟨g5, hg5⟩ : ∃ g5, g5 = w2.heap.size := ⟨_, rfl⟩
            obtain ⟨w3, hw3⟩ : ∃ w3, w3 = w2.alloc (.cells #[.int .i64 0, .string ⟨#[]⟩, .int .i64 0, .int .i64 0, .slice none 0 0] 24) := ⟨_, rfl⟩
            rw [← hg5, ← hw3] at hX3 ⊢
            rw [← hw3] at hT3 hb03
            clear hg5 hw3 hT2 hb02
            have hZB := zero_in hle hb03 hT3
            have c0 := hT3.frozen 0
            have c1 := hT3.frozen 1
            have c2 := hT3.frozen 2
            have c3 := hT3.frozen 3
            have c4 := hT3.frozen 4
            have y0 := hT3.cell 0
            have y1 := hT3.cell 1
            have y2 := hT3.cell 2
            have y3 := hT3.cell 3
            have y4 := hT3.cell 4
            have x0 := hX3.cell 0
            have x1 := hX3.cell 1
            have x2 := hX3.cell 2
            have x3 := hX3.cell 3
            have x4 := hX3.cell 4
            simp at y0 y1 y2 y3 y4 x0 x1 x2 x3 x4
            have HZ := Lib.hid hZB.1
            have HB := Lib.hid hZB.2
            clear hZB hT3 hX3 hb03
            go_wp2_with fail
            refine bodyPost_ret (resP Tryz.results13 (b0 := g) (x := .int .i64 p) (y := .int .i64 30) (by simp) (by simp) (by simp) HZ.out) rfl ?_
            exact ⟨HB.out, fun t h => (by rw [H1.out] at h; cases h), fun p k h => by rw [H1.out] at h; cases h; rfl⟩
          | ok t =>
            obtain ⟨A2, c2, rfl, hTt⟩ := hgood t hw
            have hz := HSZ.out t hw
            rw [hw] at hW
            clear hgood hbad hw HSZ
            have hT3 := hT2.old (.cells #[.int .i64 t.kind, .string t.name, .int .i64 t.n, .int .i64 t.place, .slice A2 t.parts.length (capF t.parts.length c2)] 24)
            have hX3 := Lies.new w2 24 #[.int .i64 t.kind, .string t.name, .int .i64 t.n, .int .i64 t.place, .slice A2 t.parts.length (capF t.parts.length c2)]
            have hb3 := (Below.refl _ w2).alloc (Nat.le_refl _) (.cells #[.int .i64 t.kind, .string t.name, .int .i64 t.n, .int .i64 t.place, .slice A2 t.parts.length (capF t.parts.length c2)] 24)
            have hb03 := hb02.alloc hb02.size (.cells #[.int .i64 t.kind, .string t.name, .int .i64 t.n, .int .i64 t.place, .slice A2 t.parts.length (capF t.parts.length c2)] 24)
            have hTt3 : TIn (w2.alloc (.cells #[.int .i64 t.kind, .string t.name, .int .i64 t.n, .int .i64 t.place, .slice A2 t.parts.length (capF t.parts.length c2)] 24)) (fun q => W0.heap.size ≤ q) t A2 := TIn.wide _ (TIn.below _ hTt hb3 (Nat.le_refl _)) fun q hq _ => Nat.le_trans hs01.out hq
            unfold tv
            go_upto_region 9 with fail
            obtain ⟨g5, hg5⟩ : ∃ g5, g5 = w2.heap.size := ⟨_, rfl⟩
            obtain ⟨w3, hw3⟩ : ∃ w3, w3 = w2.alloc (.cells #[.int .i64 t.kind, .string t.name, .int .i64 t.n, .int .i64 t.place, .slice A2 t.parts.length (capF t.parts.length c2)] 24) := ⟨_, rfl⟩
            rw [← hg5, ← hw3] at hX3 ⊢
            rw [← hw3] at hT3 hb03 hTt3
            have hgl3 : g < w3.heap.size := hT3.lt
            have hDE := Lib.hid (depth_any (depthT t) t A2 c2 w3 (Nat.le_refl _) hz (TIn.any _ hTt3))
            have hdz := depth_le_size t
            clear hg5 hw3 hT2 hb02 hTt hb3 hb2
            obtain ⟨⟨x0, x1, x2, x3, x4⟩, _⟩ := hX3.five
            unfold tv at hDE
            go_wp2_with fail
            refine hDE.out.mono ?_
            rintro y w4 ⟨rfl, hb4⟩
            have hT4 := hT3.below hb4 hgl3
            have hX4 := hX3.below hb4 hX3.lt
            have hb04 := hb03.trans (hb4.mono hb03.size)
            have hTt4 := TIn.below _ hTt3 hb4 (Nat.le_refl _)
            clear hT3 hb03 hTt3 hDE x0 x1 x2 x3 x4 hX3 hgl3
            obtain ⟨⟨x0, x1, x2, x3, x4⟩, _⟩ := hX4.five
            have c0 := hT4.frozen 0
            have c1 := hT4.frozen 1
            have c2' := hT4.frozen 2
            have c3 := hT4.frozen 3
            have c4 := hT4.frozen 4
            have y0 := hT4.cell 0
            have y1 := hT4.cell 1
            have y2 := hT4.cell 2
            have y3 := hT4.cell 3
            have y4 := hT4.cell 4
            simp at y0 y1 y2 y3 y4
            by_cases hdp : deep < (depthT t : Int)
            · have H1 := Lib.hid (show res = .error (0, 31) from by rw [hW]; simp only [if_pos hdp])
              have hZB := zero_in hle hb04 hT4
              have HZ := Lib.hid hZB.1
              have HB := Lib.hid hZB.2
              clear hW hZB hT4 hX4 hb04 hTt4
              go_wp2_with fail
              refine bodyPost_ret (resP Tryz.results13 (b0 := g) (x := .int .i64 0) (y := .int .i64 31) (by simp) (by simp) (by simp) HZ.out) rfl ?_
              exact ⟨HB.out, fun t h => (by rw [H1.out] at h; cases h), fun p k h => by rw [H1.out] at h; cases h; rfl⟩
            · have H1 := Lib.hid (show res = .ok t from by rw [hW]; simp only [if_neg hdp])
              have HZ := Lib.hid (hT4.all5 (.int .i64 t.kind) (.string t.name) (.int .i64 t.n) (.int .i64 t.place) (.slice A2 t.parts.length (capF t.parts.length c2)))
              have HB := Lib.hid (((((hb04.setCell (p := ⟨g, 0, none⟩) hle (.int .i64 t.kind)).setCell (p := ⟨g, 1, none⟩) hle (.string t.name)).setCell (p := ⟨g, 2, none⟩) hle (.int .i64 t.n)).setCell (p := ⟨g, 3, none⟩) hle (.int .i64 t.place)).setCell (p := ⟨g, 4, none⟩) hle (.slice A2 t.parts.length (capF t.parts.length c2)))
              have hX : ¬ W0.heap.size ≤ g := by have := hgl0.out; omega
              have HT := Lib.hid (TIn.setCell _ (TIn.setCell _ (TIn.setCell _ (TIn.setCell _ (TIn.setCell _ hTt4 ⟨g, 0, none⟩ (.int .i64 t.kind) hX) ⟨g, 1, none⟩ (.string t.name) hX) ⟨g, 2, none⟩ (.int .i64 t.n) hX) ⟨g, 3, none⟩ (.int .i64 t.place) hX) ⟨g, 4, none⟩ (.slice A2 t.parts.length (capF t.parts.length c2)) hX)
              clear hW hT4 hX4 hb04 hTt4
              go_wp2_with fail
              refine bodyPost_ret (resP Tryz.results13 (b0 := g) (x := .int .i64 0) (y := .int .i64 0) (by simp) (by simp) (by simp) HZ.out) rfl ?_
              refine ⟨HB.out, fun t' h => ?_, fun p k h => (by rw [H1.out] at h; cases h)⟩
              rw [H1.out] at h
              simp only [Except.ok.injEq] at h
              obtain rfl := h
              exact ⟨A2, c2, rfl, TIn.wide _ HT.out fun q hq _ => (by have h9 : W0.heap.size ≤ q := hq; show w.heap.size ≤ q; omega)⟩
end Lx
end Go.Proofs.YteabbkhlgnoliaaGreatDoor
