/-
  As C19, what the row asks alone: SuRows ShelfB Bld Fixed RowsUp.
-/
import Derived.Test.YtiocmiikghcoaaaGreatDoorC12
import Derived.Test.YtiocmiikghcoaaaGreatDoorRows
import Derived.Test.YtiocmiikghcoaaaGreatDoorProg
import Derived.Test.YtiocmiikghcoaaaGreatDoorC2
import Derived.Test.YtiocmiikghcoaaaGreatDoorC1
import Derived.Test.YtiocmiikghcoaaaGreatDoorC3
import Derived.Test.YtiocmiikghcoaaaGreatDoorTie
import Derived.Test.YtiocmiikghcoaaaGreatDoorCards
import Derived.ProofKit
import Derived.OpenShut
import Derived.ChangeArms
import Derived.Carry
import Derived.WideKeyArgs
import Derived.SizedLaws
import Derived.LaidMore
import Derived.Stop.Joined
import Derived.SevenTiedAt
namespace Go.Proofs.YtiocmiikghcoaaaGreatDoor
open Go.ChangeShapes Go.WideShapes Go.ChangeAt Go.RowKit
namespace Lx
set_option maxRecDepth 100000
section
variable {H : Type} {enc : TypeId × Value → H}
theorem cE4S : Tryz.prog.cellsOf 24 = 4 := by kernel_rfl
theorem bE56S : Tryz.prog.bytesOf 24 = 56 := by kernel_rfl
theorem wf6S {n : Int} (h : (Lit.int .i64 n).wf = true) : -9223372036854775808 ≤ n ∧ n ≤ 9223372036854775807 := by
 simp [Lit.wf, IntKind.min, IntKind.max, IntKind.signed, IntKind.bits] at h
 omega
theorem c6_3S : Tryz.prog.cellsOf 3 = 1 := by kernel_rfl
theorem c6_9S : Tryz.prog.cellsOf 9 = 1 := by kernel_rfl
theorem c6_LS : Tryz.prog.cellsOf 22 = 1 := by kernel_rfl
theorem cells6_getS {w : World} {base : Nat} {a : Addr} {n : Nat} {cs : List Value} (h : w.cells? base a n = some cs) : ∀ j, j < n → w.cell? (a.add j) = cs[j]? := (World.cells?_some h).2.2
theorem open6_partsS {W : World} {base : Nat} {sp : Nat → Bool} {hd : Bool} {fuel : Nat} {cs : List Value} {x : DataW H × List MemPlace} (h : DataW.trod enc Tryz.prog W base sp hd fuel 24 cs = some x) :
  ∃ (k n : Int) (s : ByteArray) (v : Value) (m : Nat) (y : DataW H × List MemPlace), fuel = m + 1 ∧ cs = [.int .i64 k, .int .i64 n, .string s, v] ∧ DataW.trod enc Tryz.prog W base sp hd m 22 [v] = some y ∧
   x = (.agg [.lit (.int .i64 k), .lit (.int .i64 n), .lit (.string s.data.toList), y.1], y.2) ∧ -9223372036854775808 ≤ n ∧ n ≤ 9223372036854775807 := by
 obtain ⟨xs, m, e, hx, hl, hlen, hf⟩ := DataW.trod_struct Tryz.underlying24 h
 rw [cE4S] at hl
 match cs, hl with
 | [c0, c1, c2, c3], _ =>
 match xs, hlen with
 | [x0, x1, x2, x3], _ =>
 have h0 := hf 0 { name := "Kind", type := 3, offset := 0, embedded := false, tag := "", pkgPath := "", byteOffset := 0 } rfl
 have h1 := hf 1 { name := "N", type := 3, offset := 1, embedded := false, tag := "", pkgPath := "", byteOffset := 8 } rfl
 have h2 := hf 2 { name := "Name", type := 9, offset := 2, embedded := false, tag := "", pkgPath := "", byteOffset := 16 } rfl
 have h3 := hf 3 { name := "L", type := 22, offset := 3, embedded := false, tag := "", pkgPath := "", byteOffset := 32 } rfl
 dsimp only at h0 h1 h2 h3
 rw [c6_3S] at h0 h1
 rw [c6_9S] at h2
 rw [c6_LS] at h3
 dsimp at h0 h1 h2 h3
 obtain ⟨k, e0, y0, _⟩ := DataW.trod_int Tryz.underlying3 h0
 obtain ⟨n, e1, y1, wn⟩ := DataW.trod_int Tryz.underlying3 h1
 obtain ⟨s, e2, y2, _⟩ := DataW.trod_string Tryz.underlying9 h2
 obtain rfl := (List.cons.inj e0).1
 obtain rfl := (List.cons.inj e1).1
 obtain rfl := (List.cons.inj e2).1
 subst y0 y1 y2
 refine ⟨k, n, s, c3, m, x3, e, rfl, ?_, ?_, ?_⟩
 ·exact h3
 ·rw [hx]; simp
 ·exact wf6S wn
theorem row6_ofS {Q : Nat → Te → Prop} : ∀ (n : Nat), (∀ i, i < n → ∃ t, Q i t) → ∃ l : List Te, l.length = n ∧ ∀ (i : Nat) (hi : i < l.length), Q i (l[i]'hi)
 | 0, _ => ⟨[], rfl, fun i hi => by simp at hi⟩
 | n + 1, h => by
  obtain ⟨l, hl, hq⟩ := row6_ofS n fun i hi => h i (by omega)
  obtain ⟨t, ht⟩ := h n (by omega)
  refine ⟨l ++ [t], by simp [hl], fun i hi => ?_⟩
  rcases Nat.lt_or_ge i l.length with hlt | hge
  ·rw [List.getElem_append_left hlt]; exact hq i hlt
  ·have e : i = n := by simp at hi; omega
   subst e
   rw [List.getElem_append_right (by omega)]
   simpa [hl] using ht
theorem spot6_noneS {w : World} {a : Addr} {v : Value} (h : w.cell? a = some v) : a.spot = none := by
 unfold World.cell? at h
 split at h
 ·split at h
  ·cases h
  ·rename_i hs; simpa using hs
 ·cases h
theorem weights6_memS {P : Program} {e : TypeId} : ∀ (L : List (DataW H)) (d : DataW H), d ∈ L → ∀ q ∈ DataW.weights P e d, q ∈ DataW.weightsAll P e L
 | [], d, h, _, _ => by cases h
 | a :: r, d, h, q, hq => by
  rw [DataW.weightsAll, List.mem_append]
  rcases List.mem_cons.1 h with rfl | h
  ·exact .inl hq
  ·exact .inr (weights6_memS r d h q hq)
theorem open_termS {W : World} {base : Nat} {sp : Nat → Bool} {hd : Bool} : ∀ (N fuel : Nat), fuel ≤ N → ∀ {cs : List Value} {x : DataW H × List MemPlace}, DataW.trod enc Tryz.prog W base sp hd fuel 24 cs = some x →
  (∀ k ∈ DataW.weights Tryz.prog 24 x.1, k ≤ reachBytes) → ∃ t A c, cs = cellsE t A c ∧ EIn W Any t A := by
 intro N
 induction N with
 | zero => intro fuel hf cs x h; obtain ⟨_, _, _, _, m, _, e, _⟩ := open6_partsS h; omega
 | succ N ih =>
  intro fuel hf cs x h hw
  obtain ⟨k, n, s, v, m, y, e, rfl, hv, rfl, hn0, hn1⟩ := open6_partsS h
  have hwv : ∀ q ∈ DataW.weights Tryz.prog 22 y.1, q ≤ reachBytes := fun q hq => hw q (by
   rw [DataW.weights, Tryz.underlying24]
   simp [DataW.weightsEach, DataW.weights, hq])
  have hs : s.size ≤ 140737488351232 := by
   have := hw s.data.toList.length (by
    rw [DataW.weights, Tryz.underlying24]
    simp [DataW.weightsEach, DataW.weights])
   simpa [reachBytes] using this
  rcases DataW.trod_slice Tryz.underlying22 hv with ⟨e1, rfl⟩ | ⟨p, len, cap, elems, rest, m', em, e1, rfl, hb, hl, hm, hlen, hel, _, _⟩
  ·obtain rfl := (List.cons.inj e1).1
   exact ⟨.node k n s [], none, 0, rfl, ein_mk hs hn0 hn1 (by simp) (by rw [ELIn]; trivial)⟩
  ·obtain rfl := (List.cons.inj e1).1
   have hwe : ∀ (i : Nat) (y' : DataW H × List MemPlace), elems[i]? = some y' → ∀ q ∈ DataW.weights Tryz.prog 24 y'.1, q ≤ reachBytes := fun i y' hy q hq => hwv q (by
    rw [DataW.weights, Tryz.underlying22]
    have := weights6_memS (elems.map (·.1)) y'.1 (List.mem_map_of_mem (List.mem_of_getElem? hy)) q hq
    simp [this])
   have hlen' : len ≤ 140737488351232 := by
    have := hwv ((elems.length + rest.length) * 56) (by
     rw [DataW.weights, Tryz.underlying22]
     simp [bE56S])
    have : (elems.length + rest.length) * 56 ≤ 140737488351232 := this
    omega
   obtain ⟨l, hll, hq⟩ := row6_ofS (Q := fun i t => ∃ A c, W.cells? base (p.add (i * 4)) 4 = some (cellsE t A c) ∧ EIn W Any t A ) len fun i hi => by
    have h1 := hel i hi
    rw [cE4S] at h1
    obtain ⟨y', hy'⟩ : ∃ y', elems[i]? = some y' := ⟨_, List.getElem?_eq_getElem (by omega)⟩
    rw [hy', Option.bind_eq_some_iff] at h1
    obtain ⟨cs', hc', ht'⟩ := h1
    obtain ⟨t, A, c, rfl, hT⟩ := ih m' (by omega) ht' (hwe i y' hy')
    exact ⟨t, A, c, hc', hT⟩
   subst hll
   refine ⟨.node k n s l, some p, cap, (by simp only [cellsE, Te.kind, Te.n, Te.name, Te.parts]; rw [capF_of hl]), ein_mk hs hn0 hn1 hlen' ?_⟩
   cases l with
   | nil => trivial
   | cons t0 r =>
    have hps : p.spot = none := by
     obtain ⟨A, c, hc, _⟩ := hq 0 (by simp)
     have := cells6_getS hc 0 (by omega)
     have := spot6_noneS (this.trans (rfl : (cellsE _ _ _)[0]? = some _))
     simpa [Addr.add] using this
    obtain ⟨pb, po, ps⟩ := p
    dsimp only at hps
    subst hps
    refine ELIn.mk (t0 :: r) 0 fun i hi => ?_
    obtain ⟨A, c, hc, hT⟩ := hq i hi
    have hcell : ∀ j, j < 4 → W.cell? ⟨pb, po + i * 4 + j, none⟩ = (cellsE ((t0 :: r)[i]'hi) A c)[j]? := fun j hj => by
     have ea : ((⟨pb, po, none⟩ : Addr).add (i * 4)).add j = ⟨pb, po + i * 4 + j, none⟩ := by
      by_cases hi0 : i * 4 = 0 <;> by_cases hj0 : j = 0 <;> simp [Addr.add, hi0, hj0]
     rw [← cells6_getS hc j hj, ea]
    rw [Nat.zero_add]
    exact ⟨pb, po, A, c, ⟨rfl, trivial⟩, hcell 0 (by omega), hcell 1 (by omega), hcell 2 (by omega), hcell 3 (by omega), hT⟩
theorem post_leftS {P : Program} {f : Func} {s : ChangeSpec} {apart fresh handsOn again : Bool} {W W' : World} {args : Array Value} {v : Value} {ds : List (DataW H)} {before : List MemPlace}
  (hW : DataW.Whole enc P f.params.toList s.vars apart W args.toList ds [] before)
  (hres : ∀ (b : Nat) (sp : Nat → Bool) (hd : Bool), DataW.TrodAll enc P W' b sp hd f.resultTypes.toList (v.resultList f.resultTypes.size) (s.fn H (ds ++ [])).results [])
  (hargs : ∀ sp : Nat → Bool, (∀ p ∈ before, sp p.block = true) → DataW.TrodAll enc P W' 0 sp true f.params.toList args.toList (s.fn H (ds ++ [])).args before)
  (hvars : ∀ sp : Nat → Bool, DataW.TrodVars enc P W' sp s.vars (s.fn H (ds ++ [])).vars [])
  (hb : Below W.heap.size W W')
  (hok : ∀ (j : Nat) (t : TypeId) (r : Value), f.resultTypes[j]? = some t → (v.resultList f.resultTypes.size)[j]? = some r → Value.okWide P W' .any 0 t r) :
  s.post enc P f apart fresh handsOn again W args v W' := by
 have hlt : ∀ p ∈ before, p.block < W.heap.size := fun p hp => hW.lt p hp
 refine ⟨ds, [], before, [], before, [], hW, hres _ _ _, hargs _ (fun p hp => by simpa using hlt p hp), hvars _, World.keptBut_mono (fun p hp => ⟨hp, .inr (.inl hp)⟩) (hb.frame (· ∈ before)), fun _ => ?_⟩
 obtain ⟨_, _, _, _, _, hz, hn⟩ := hW
 refine ⟨hok, _, _, ([] ++ before) ++ [], ⟨[] ++ before, [], trodAll_append (hargs _ (fun _ _ => rfl)) (hres _ _ _), hvars _, rfl, ?_, ?_⟩, ?_⟩
 ·intro b off hp
  have hin : MemPlace.cell b off ∈ before := by simpa using hp
  rw [hb.frozen (hlt _ hin)]
  exact hz b off hin
 ·intro ha
  simpa using hn ha
 ·intro p hp _
  simpa using hp
theorem term_argS {W : World} {base b0 : Nat} {sp : Nat → Bool} {hd : Bool} {v : Value} {d : DataW H} {ps : List MemPlace} (hval : Value.okWide Tryz.prog W .any b0 24 v)
  (h : DataW.Trod enc Tryz.prog W base sp hd 24 v d ps) (hw : ∀ k ∈ DataW.weights Tryz.prog 24 d, k ≤ reachBytes) : ∃ t A c, v = ev t A c ∧ EIn W Any t A := by
 obtain ⟨cs, rfl, _⟩ := okWide_struct Tryz.underlying24 hval
 obtain ⟨fuel, hf⟩ := h
 obtain ⟨t, A, c, hcs, hT⟩ := open_termS fuel fuel (Nat.le_refl _) hf hw
 refine ⟨t, A, c, ?_, hT⟩
 have : cs = #[.int .i64 t.kind, .int .i64 t.n, .string t.name, .slice A t.parts.length (capF t.parts.length c)] := Array.ext' hcs
 rw [this]
 rfl
theorem term_againS {W W' : World} {v : Value} {d : DataW H} {ps : List MemPlace} (h : DataW.Trod enc Tryz.prog W 0 (fun _ => true) true 24 v d ps) (hb : Below W.heap.size W W') (hlt : ∀ x ∈ ps, x.block < W.heap.size)
  {sp : Nat → Bool} (hs : ∀ x ∈ ps, sp x.block = true) : DataW.Trod enc Tryz.prog W' 0 sp true 24 v d ps :=
 WideElems.Trod_stays (by kernel_rfl) (by kernel_rfl) (of_decide_eq_true (by kernel_rfl)) h (fun x hx => hb.same (hlt x hx)) hs
end
theorem own_ : ownKnob Tryz.prog.godebug = none := by kernel_rfl
theorem gSigns : Tryz.prog.globalNamed "gossamer/lex.signs" = some 0 := by kernel_rfl
theorem tSigns : (Tryz.prog.globals[0]?).map (·.type) = some 136 := by kernel_rfl
abbrev laidL : List (String × DataW Unit) := [("gossamer/lex.signs", Rows.laid_gossamer_lex_signs)]

theorem door_met (os : Os) (args : Array Value) : laidMetH Tryz.prog laidL ((World.doorLaid Tryz.prog 400 os).forCall (fun _ _ => 0) ⟨#[], args, []⟩).memory :=
 laidMetH_of_parts3 (fuel := 20) (laidMet_of_run' 20 (by kernel_rfl) (by kernel_rfl)) (by kernel_rfl) (by kernel_rfl)

theorem signs_of_laid {W : World} (h : laidMetH Tryz.prog laidL W) : Signs W := by
 rw [MakeChecks.laidMetH_plain _ _ _ (by kernel_rfl)] at h
 obtain ⟨ps, ⟨g0, t0, cs0, f0, p0, q0, hg0, ht0, hv0, hd0, _, _⟩, _, _⟩ := h
 obtain rfl := Option.some.inj (gSigns.symm.trans hg0)
 obtain rfl := Option.some.inj (tSigns.symm.trans ht0)
 obtain ⟨xs, m, rfl, hx, hlen, hn, hel⟩ := DataW.trod_array Tryz.underlying136 hd0
 have c9 : Tryz.prog.cellsOf 9 = 1 := by kernel_rfl
 have c61 : Tryz.prog.cellsOf 136 = 15 := by kernel_rfl
 rw [c61] at hlen
 simp only [Prod.mk.injEq] at hx
 have hl : xs.map (·.1) = signsS.map (fun g => DataW.lit (.string g)) := by
  have h1 := hx.1
  have h2 : (Rows.laid_gossamer_lex_signs : DataW Unit) = .agg (signsS.map (fun g => DataW.lit (.string g))) := rfl
  rw [h2] at h1
  injection h1 with h1
  exact h1.symm
 have hcs : cs0.toList = signsS.map (fun g => Value.string ⟨g.toArray⟩) := by
  apply List.ext_getElem?
  intro i
  by_cases hi : i < 15
  ·have he := hel i hi
   rw [c9, Nat.mul_one] at he
   have hxl : i < xs.length := by omega
   rw [List.getElem?_eq_getElem hxl] at he
   obtain ⟨s, e1, e2, _⟩ := DataW.trod_string Tryz.underlying9 he
   have hm : (xs.map (·.1))[i]? = some (xs[i]'hxl).1 := by rw [List.getElem?_map, List.getElem?_eq_getElem hxl]; rfl
   rw [hl, e2, List.getElem?_map] at hm
   have hc : cs0.toList[i]? = some (.string s) := by
    have := congrArg (fun l : List Value => l[0]?) e1
    simpa using this
   rw [hc, List.getElem?_map]
   cases hq : signsS[i]? with
   | none => rw [hq] at hm; cases hm
   | some g =>
    rw [hq] at hm
    simp only [Option.map_some, Option.some.injEq, DataW.lit.injEq, Lit.string.injEq] at hm
    simp only [Option.map_some]
    rw [hm, toBytes]
  ·rw [List.getElem?_eq_none (by omega), List.getElem?_eq_none (by have h15 : (signsS.map (fun g => Value.string ⟨g.toArray⟩)).length = 15 := rfl; omega)]
 have hcs2 : cs0 = signCells := by
  apply Array.ext'
  rw [hcs]
  rfl
 simp only [World.var?, gSigns, Option.bind_some] at hv0
 split at hv0
 ·rename_i cs t fr hh
  obtain rfl := Option.some.inj hv0
  rw [hcs2] at hh
  exact ⟨t, fr, hh⟩
 ·cases hv0

end Lx
end Go.Proofs.YtiocmiikghcoaaaGreatDoor

