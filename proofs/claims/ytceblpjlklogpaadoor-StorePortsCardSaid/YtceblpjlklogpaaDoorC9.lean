/-
  Texts that lie one behind the other: NlRw.
-/
import Derived.Test.YtceblpjlklogpaaDoorC1
import Derived.Test.YtceblpjlklogpaaDoorRows
import Derived.Test.YtceblpjlklogpaaDoorTie
import Derived.Test.YtceblpjlklogpaaDoorCards
import Derived.ProofKit
import Derived.OpenShut
import Derived.ChangeArms
import Derived.Carry
import Derived.WideKeyArgs
import Derived.LaidMore
import Derived.LaidSub
import Derived.Lib.LaidTab
import Derived.Stop.Joined
import Derived.SevenTiedAt
namespace Go.Proofs.YtceblpjlklogpaaDoor
open Go.ChangeShapes Go.WideShapes Go.ChangeAt Go.RowKit
open Go.ChangeMaps (open_string shut_string)
namespace Lx
set_option maxRecDepth 100000
theorem own_ : ownKnob Tryd.prog.godebug = none := by kernel_rfl
section
variable {H : Type} {enc : TypeId × Value → H}
theorem cN6 : Tryd.prog.cellsOf 28 = 6 := by kernel_rfl
theorem cA2 : Tryd.prog.cellsOf 50 = 2 := by kernel_rfl
theorem cP2 : Tryd.prog.cellsOf 46 = 2 := by kernel_rfl
theorem bA24 : Tryd.prog.bytesOf 50 = 24 := by kernel_rfl
theorem bP16 : Tryd.prog.bytesOf 46 = 16 := by kernel_rfl
theorem cc3 : Tryd.prog.cellsOf 3 = 1 := by kernel_rfl
theorem cc9 : Tryd.prog.cellsOf 9 = 1 := by kernel_rfl
theorem ccA : Tryd.prog.cellsOf 25 = 1 := by kernel_rfl
theorem ccP : Tryd.prog.cellsOf 26 = 1 := by kernel_rfl
theorem cells_getN {w : World} {base : Nat} {a : Addr} {n : Nat} {cs : List Value} (h : w.cells? base a n = some cs) : ∀ j, j < n → w.cell? (a.add j) = cs[j]? := (World.cells?_some h).2.2
theorem spot_noneN {w : World} {a : Addr} {v : Value} (h : w.cell? a = some v) : a.spot = none := by
  unfold World.cell? at h
  split at h
  · split at h
    · cases h
    · rename_i hs; simpa using hs
  · cases h
theorem weights_memN {P : Program} {e : TypeId} : ∀ (L : List (DataW H)) (d : DataW H), d ∈ L → ∀ q ∈ DataW.weights P e d, q ∈ DataW.weightsAll P e L
  | [], d, h, _, _ => by cases h
  | a :: r, d, h, q, hq => by
    rw [DataW.weightsAll, List.mem_append]
    rcases List.mem_cons.1 h with rfl | h
    · exact .inl hq
    · exact .inr (weights_memN r d h q hq)
theorem row_ofN {α : Type} {Q : Nat → α → Prop} : ∀ (n : Nat), (∀ i, i < n → ∃ t, Q i t) → ∃ l : List α, l.length = n ∧ ∀ (i : Nat) (hi : i < l.length), Q i (l[i]'hi)
  | 0, _ => ⟨[], rfl, fun i hi => by simp at hi⟩
  | n + 1, h => by
    obtain ⟨l, hl, hq⟩ := row_ofN n fun i hi => h i (by omega)
    obtain ⟨t, ht⟩ := h n (by omega)
    refine ⟨l ++ [t], by simp [hl], fun i hi => ?_⟩
    rcases Nat.lt_or_ge i l.length with hlt | hge
    · rw [List.getElem_append_left hlt]; exact hq i hlt
    · have e : i = n := by simp at hi; omega
      subst e
      rw [List.getElem_append_right (by omega)]
      simpa [hl] using ht
/-- An alternative's reading. -/
theorem open_arity {W : World} {base : Nat} {sp : Nat → Bool} {hd : Bool} {fuel : Nat} {cs : List Value} {x : DataW H × List MemPlace} (h : DataW.trod enc Tryd.prog W base sp hd fuel 50 cs = some x) :
    ∃ (s : ByteArray) (n : Int), cs = [.string s, .int .i64 n] ∧ x.1 = .agg [.lit (.string s.data.toList), .lit (.int .i64 n)] := by
  obtain ⟨xs, m, e, hx, hl, hlen, hf⟩ := DataW.trod_struct Tryd.underlying50 h
  rw [cA2] at hl
  match cs, hl with
  | [c0, c1], _ =>
  match xs, hlen with
  | [x0, x1], _ =>
  have h0 := hf 0 { name := "Name", type := 9, offset := 0, embedded := false, tag := "", pkgPath := "", byteOffset := 0 } rfl
  have h1 := hf 1 { name := "N", type := 3, offset := 1, embedded := false, tag := "", pkgPath := "", byteOffset := 16 } rfl
  dsimp only at h0 h1
  rw [cc9] at h0
  rw [cc3] at h1
  dsimp at h0 h1
  obtain ⟨s, e0, y0, _⟩ := DataW.trod_string Tryd.underlying9 h0
  obtain ⟨n, e1, y1, _⟩ := DataW.trod_int Tryd.underlying3 h1
  obtain rfl := (List.cons.inj e0).1
  obtain rfl := (List.cons.inj e1).1
  subst y0 y1
  exact ⟨s, n, rfl, by rw [hx]; simp⟩
theorem open_port {W : World} {base : Nat} {sp : Nat → Bool} {hd : Bool} {fuel : Nat} {cs : List Value} {x : DataW H × List MemPlace} (h : DataW.trod enc Tryd.prog W base sp hd fuel 46 cs = some x) :
    ∃ (a b : Int), cs = [.int .i64 a, .int .i64 b] := by
  obtain ⟨xs, m, e, hx, hl, hlen, hf⟩ := DataW.trod_struct Tryd.underlying46 h
  rw [cP2] at hl
  match cs, hl with
  | [c0, c1], _ =>
  match xs, hlen with
  | [x0, x1], _ =>
  have h0 := hf 0 { name := "Node", type := 3, offset := 0, embedded := false, tag := "", pkgPath := "", byteOffset := 0 } rfl
  have h1 := hf 1 { name := "Slot", type := 3, offset := 1, embedded := false, tag := "", pkgPath := "", byteOffset := 8 } rfl
  dsimp only at h0 h1
  rw [cc3] at h0 h1
  dsimp at h0 h1
  obtain ⟨s, e0, y0, _⟩ := DataW.trod_int Tryd.underlying3 h0
  obtain ⟨n, e1, y1, _⟩ := DataW.trod_int Tryd.underlying3 h1
  obtain rfl := (List.cons.inj e0).1
  obtain rfl := (List.cons.inj e1).1
  exact ⟨s, n, rfl⟩
theorem open_alts {W : World} {base : Nat} {sp : Nat → Bool} {hd : Bool} {fuel : Nat} {v : Value} {y : DataW H × List MemPlace} (hv : DataW.trod enc Tryd.prog W base sp hd fuel 25 [v] = some y)
    (hw : ∀ q ∈ DataW.weights Tryd.prog 25 y.1, q ≤ reachBytes) : ∃ (l : List (ByteArray × Int)) (A : Option Addr) (c : Nat), v = .slice A l.length (capN l.length c) ∧ AltIn W AnyB l A ∧ l.length ≤ 140737488351232 := by
  rcases DataW.trod_slice Tryd.underlying25 hv with ⟨e1, rfl⟩ | ⟨p, len, cap, elems, rest, m', em, e1, rfl, hb, hl, hm, hlen, hel, _, _⟩
  · obtain rfl := (List.cons.inj e1).1
    exact ⟨[], none, 0, rfl, AltIn.nil, by simp⟩
  · obtain rfl := (List.cons.inj e1).1
    have hwe : ∀ (i : Nat) (y' : DataW H × List MemPlace), elems[i]? = some y' → ∀ q ∈ DataW.weights Tryd.prog 50 y'.1, q ≤ reachBytes := fun i y' hy q hq => hw q (by
      rw [DataW.weights, Tryd.underlying25]
      have := weights_memN (elems.map (·.1)) y'.1 (List.mem_map_of_mem (List.mem_of_getElem? hy)) q hq
      simp [this])
    have hlen' : len ≤ 140737488351232 := by
      have := hw ((elems.length + rest.length) * 24) (by
        rw [DataW.weights, Tryd.underlying25]
        simp [bA24])
      have : (elems.length + rest.length) * 24 ≤ 140737488351232 := this
      omega
    obtain ⟨l, hll, hq⟩ := row_ofN (Q := fun i (t : ByteArray × Int) => W.cells? base (p.add (i * 2)) 2 = some [.string t.1, .int .i64 t.2] ∧ t.1.size ≤ 140737488351232) len fun i hi => by
      have h1 := hel i hi
      rw [cA2] at h1
      obtain ⟨y', hy'⟩ : ∃ y', elems[i]? = some y' := ⟨_, List.getElem?_eq_getElem (by omega)⟩
      rw [hy', Option.bind_eq_some_iff] at h1
      obtain ⟨cs', hc', ht'⟩ := h1
      obtain ⟨s, n, rfl, hx'⟩ := open_arity ht'
      refine ⟨(s, n), hc', ?_⟩
      have := hwe i y' hy' s.data.toList.length (by
        rw [hx', DataW.weights, Tryd.underlying50]
        simp [DataW.weightsEach, DataW.weights])
      simpa [reachBytes] using this
    subst hll
    refine ⟨l, some p, cap, by rw [capN_of hl], fun i hi => ?_, hlen'⟩
    have hps : p.spot = none := by
      obtain ⟨hc, _⟩ := hq 0 (by omega)
      have := cells_getN hc 0 (by omega)
      have := spot_noneN (this.trans (rfl : ([_, _] : List Value)[0]? = some _))
      simpa [Addr.add] using this
    obtain ⟨pb, po, ps⟩ := p
    dsimp only at hps
    subst hps
    obtain ⟨hc, hsz⟩ := hq i hi
    have hcell : ∀ j, j < 2 → W.cell? ⟨pb, po + i * 2 + j, none⟩ = ([.string (l[i]'hi).1, .int .i64 (l[i]'hi).2] : List Value)[j]? := fun j hj => by
      have ea : ((⟨pb, po, none⟩ : Addr).add (i * 2)).add j = ⟨pb, po + i * 2 + j, none⟩ := by rw [nadd, nadd]
      rw [← cells_getN hc j hj, ea]
    exact ⟨pb, po, ⟨rfl, trivial⟩, hcell 0 (by omega), hcell 1 (by omega), hsz⟩
theorem open_to {W : World} {base : Nat} {sp : Nat → Bool} {hd : Bool} {fuel : Nat} {v : Value} {y : DataW H × List MemPlace} (hv : DataW.trod enc Tryd.prog W base sp hd fuel 26 [v] = some y)
    (hw : ∀ q ∈ DataW.weights Tryd.prog 26 y.1, q ≤ reachBytes) : ∃ (l : List (Int × Int)) (A : Option Addr) (c : Nat), v = .slice A l.length (capN l.length c) ∧ ToIn W AnyB l A ∧ l.length ≤ 140737488351232 := by
  rcases DataW.trod_slice Tryd.underlying26 hv with ⟨e1, rfl⟩ | ⟨p, len, cap, elems, rest, m', em, e1, rfl, hb, hl, hm, hlen, hel, _, _⟩
  · obtain rfl := (List.cons.inj e1).1
    exact ⟨[], none, 0, rfl, ToIn.nil, by simp⟩
  · obtain rfl := (List.cons.inj e1).1
    have hlen' : len ≤ 140737488351232 := by
      have := hw ((elems.length + rest.length) * 16) (by
        rw [DataW.weights, Tryd.underlying26]
        simp [bP16])
      have : (elems.length + rest.length) * 16 ≤ 140737488351232 := this
      omega
    obtain ⟨l, hll, hq⟩ := row_ofN (Q := fun i (t : Int × Int) => W.cells? base (p.add (i * 2)) 2 = some [.int .i64 t.1, .int .i64 t.2]) len fun i hi => by
      have h1 := hel i hi
      rw [cP2] at h1
      obtain ⟨y', hy'⟩ : ∃ y', elems[i]? = some y' := ⟨_, List.getElem?_eq_getElem (by omega)⟩
      rw [hy', Option.bind_eq_some_iff] at h1
      obtain ⟨cs', hc', ht'⟩ := h1
      obtain ⟨a, b, rfl⟩ := open_port ht'
      exact ⟨(a, b), hc'⟩
    subst hll
    refine ⟨l, some p, cap, by rw [capN_of hl], fun i hi => ?_, hlen'⟩
    have hps : p.spot = none := by
      have hc := hq 0 (by omega)
      have := cells_getN hc 0 (by omega)
      have := spot_noneN (this.trans (rfl : ([_, _] : List Value)[0]? = some _))
      simpa [Addr.add] using this
    obtain ⟨pb, po, ps⟩ := p
    dsimp only at hps
    subst hps
    have hc := hq i hi
    have hcell : ∀ j, j < 2 → W.cell? ⟨pb, po + i * 2 + j, none⟩ = ([.int .i64 (l[i]'hi).1, .int .i64 (l[i]'hi).2] : List Value)[j]? := fun j hj => by
      have ea : ((⟨pb, po, none⟩ : Addr).add (i * 2)).add j = ⟨pb, po + i * 2 + j, none⟩ := by rw [nadd, nadd]
      rw [← cells_getN hc j hj, ea]
    exact ⟨pb, po, ⟨rfl, trivial⟩, hcell 0 (by omega), hcell 1 (by omega)⟩
/-- A node's reading. -/
theorem open_node {W : World} {base : Nat} {sp : Nat → Bool} {hd : Bool} {fuel : Nat} {cs : List Value} {x : DataW H × List MemPlace} (h : DataW.trod enc Tryd.prog W base sp hd fuel 28 cs = some x)
    (hw : ∀ k ∈ DataW.weights Tryd.prog 28 x.1, k ≤ reachBytes) : ∃ (y : Nd) (B : Option Addr) (b : Nat) (C : Option Addr) (c : Nat), cs = cellsNd y B b C c ∧ NdIn W AnyB y B C := by
  obtain ⟨xs, m, e, hx, hl, hlen, hf⟩ := DataW.trod_struct Tryd.underlying28 h
  rw [cN6] at hl
  match cs, hl with
  | [c0, c1, c2, c3, c4, c5], _ =>
  match xs, hlen with
  | [x0, x1, x2, x3, x4, x5], _ =>
  have h0 := hf 0 { name := "Kind", type := 3, offset := 0, embedded := false, tag := "", pkgPath := "", byteOffset := 0 } rfl
  have h1 := hf 1 { name := "Level", type := 3, offset := 1, embedded := false, tag := "", pkgPath := "", byteOffset := 8 } rfl
  have h2 := hf 2 { name := "N", type := 3, offset := 2, embedded := false, tag := "", pkgPath := "", byteOffset := 16 } rfl
  have h3 := hf 3 { name := "Name", type := 9, offset := 3, embedded := false, tag := "", pkgPath := "", byteOffset := 24 } rfl
  have h4 := hf 4 { name := "Alts", type := 25, offset := 4, embedded := false, tag := "", pkgPath := "", byteOffset := 40 } rfl
  have h5 := hf 5 { name := "To", type := 26, offset := 5, embedded := false, tag := "", pkgPath := "", byteOffset := 64 } rfl
  dsimp only at h0 h1 h2 h3 h4 h5
  rw [cc3] at h0 h1 h2
  rw [cc9] at h3
  rw [ccA] at h4
  rw [ccP] at h5
  dsimp at h0 h1 h2 h3 h4 h5
  obtain ⟨k, e0, y0, _⟩ := DataW.trod_int Tryd.underlying3 h0
  obtain ⟨lv, e1, y1, _⟩ := DataW.trod_int Tryd.underlying3 h1
  obtain ⟨n, e2, y2, _⟩ := DataW.trod_int Tryd.underlying3 h2
  obtain ⟨s, e3, y3, _⟩ := DataW.trod_string Tryd.underlying9 h3
  obtain rfl := (List.cons.inj e0).1
  obtain rfl := (List.cons.inj e1).1
  obtain rfl := (List.cons.inj e2).1
  obtain rfl := (List.cons.inj e3).1
  subst y0 y1 y2 y3
  have hx1 : x.1 = .agg [.lit (.int .i64 k), .lit (.int .i64 lv), .lit (.int .i64 n), .lit (.string s.data.toList), x4.1, x5.1] := by rw [hx]; simp
  obtain ⟨al, B, b, rfl, hA, hAl⟩ := open_alts h4 (fun q hq => hw q (by
    rw [hx1, DataW.weights, Tryd.underlying28]
    simp [DataW.weightsEach, DataW.weights, hq]))
  obtain ⟨tp, C, c, rfl, hT, hTl⟩ := open_to h5 (fun q hq => hw q (by
    rw [hx1, DataW.weights, Tryd.underlying28]
    simp [DataW.weightsEach, DataW.weights, hq]))
  have hs : s.size ≤ 140737488351232 := by
    have := hw s.data.toList.length (by
      rw [hx1, DataW.weights, Tryd.underlying28]
      simp [DataW.weightsEach, DataW.weights])
    simpa [reachBytes] using this
  exact ⟨⟨k, lv, n, s, al, tp⟩, B, b, C, c, rfl, ⟨hs, hAl, hTl⟩, hA, hT⟩
/-- A node among the arguments. -/
theorem node_arg {W : World} {base b0 : Nat} {sp : Nat → Bool} {hd : Bool} {v : Value} {d : DataW H} {ps : List MemPlace} (hval : Value.okWide Tryd.prog W .any b0 28 v)
    (h : DataW.Trod enc Tryd.prog W base sp hd 28 v d ps) (hw : ∀ k ∈ DataW.weights Tryd.prog 28 d, k ≤ reachBytes) : ∃ y B b C c, v = ndv y B b C c ∧ NdIn W AnyB y B C := by
  obtain ⟨cs, rfl, _⟩ := okWide_struct Tryd.underlying28 hval
  obtain ⟨fuel, hf⟩ := h
  obtain ⟨y, B, b, C, c, hcs, hI⟩ := open_node hf hw
  refine ⟨y, B, b, C, c, ?_, hI⟩
  have : cs = #[.int .i64 y.kind, .int .i64 y.level, .int .i64 y.n, .string y.name, .slice B y.alts.length (capN y.alts.length b), .slice C y.to.length (capN y.to.length c)] := Array.ext' hcs
  rw [this]
  rfl
/-- It reads behind the call as it read before. -/
theorem node_again {W W' : World} {v : Value} {d : DataW H} {ps : List MemPlace} (h : DataW.Trod enc Tryd.prog W 0 (fun _ => true) true 28 v d ps) (hb : Below W.heap.size W W') (hlt : ∀ x ∈ ps, x.block < W.heap.size)
    {sp : Nat → Bool} (hs : ∀ x ∈ ps, sp x.block = true) : DataW.Trod enc Tryd.prog W' 0 sp true 28 v d ps :=
  WideElems.Trod_stays (by kernel_rfl) (by kernel_rfl) (of_decide_eq_true (by kernel_rfl)) h (fun x hx => hb.same (hlt x hx)) hs
/-- The end of a row without variables whose call left all that was there as it was. -/
theorem postN_left {P : Program} {f : Func} {s : ChangeSpec} {apart fresh handsOn again : Bool} {W W' : World} {args : Array Value} {v : Value} {ds : List (DataW H)} {before : List MemPlace}
    (hW : DataW.Whole enc P f.params.toList s.vars apart W args.toList ds [] before)
    (hres : ∀ (b : Nat) (sp : Nat → Bool) (hd : Bool), DataW.TrodAll enc P W' b sp hd f.resultTypes.toList (v.resultList f.resultTypes.size) (s.fn H (ds ++ [])).results [])
    (hargs : ∀ sp : Nat → Bool, (∀ p ∈ before, sp p.block = true) → DataW.TrodAll enc P W' 0 sp true f.params.toList args.toList (s.fn H (ds ++ [])).args before)
    (hvars : ∀ sp : Nat → Bool, DataW.TrodVars enc P W' sp s.vars (s.fn H (ds ++ [])).vars [])
    (hb : Below W.heap.size W W')
    (hok : ∀ (j : Nat) (t : TypeId) (r : Value), f.resultTypes[j]? = some t → (v.resultList f.resultTypes.size)[j]? = some r → Value.okWide P W' .any 0 t r) :
    s.post enc P f apart fresh handsOn again W args v W' := by
  have hlt : ∀ p ∈ before, p.block < W.heap.size := fun p hp => hW.lt p hp
  refine ⟨ds, [], before, [], before, [], hW, hres _ _ _, hargs _ (fun p hp => by simpa using hlt p hp), hvars _, World.keptBut_mono (fun p hp => ⟨hp, .inr (.inl hp)⟩) (hb.frame (· ∈ before)), fun _ => ?_⟩
  obtain ⟨_, _, _, _, _, hz, hn⟩ := hW
  refine ⟨hok, _, _, ([] ++ before) ++ [], ⟨[] ++ before, [], trodAll_append (hargs _ (fun _ _ => rfl)) (hres _ _ _), hvars _, rfl, ?_, ?_⟩, ?_⟩
  · intro b off hp
    have hin : MemPlace.cell b off ∈ before := by simpa using hp
    rw [hb.frozen (hlt _ hin)]
    exact hz b off hin
  · intro ha
    simpa using hn ha
  · intro p hp _
    simpa using hp
end
abbrev laidN : List (String × DataW Unit) := [("gossamer/store.ports", Rows.laid_gossamer_store_ports)]
theorem tPorts : (Tryd.prog.globals[0]?).map (·.type) = some 57 := by kernel_rfl
theorem uPorts : Tryd.prog.underlying 57 = some (.array 14 3) := by kernel_rfl
theorem uI64 : Tryd.prog.underlying 3 = some (.int .i64) := by kernel_rfl
theorem cPortsT : Tryd.prog.cellsOf 57 = 14 := by kernel_rfl
theorem dPorts : (Rows.laid_gossamer_store_ports : DataW Unit) = Lib.tabData .i64 portsTab := by kernel_rfl
theorem door_metN (os : Os) (args : Array Value) : laidMetH Tryd.prog laidN ((World.doorLaid Tryd.prog 400 os).forCall (fun _ _ => 0) ⟨#[], args, []⟩).memory :=
  laidMetH_of_parts3 (fuel := 20) (laidMet_of_run' 20 (by kernel_rfl) (by kernel_rfl)) (by kernel_rfl) (by kernel_rfl)
theorem ptab_of_laid {W : World} (h : laidMetH Tryd.prog laidN W) : PTab W := by
  rw [MakeChecks.laidMetH_plain _ _ _ (by kernel_rfl)] at h
  unfold laidN at h
  rw [dPorts] at h
  exact Lib.tabIs_of_head gPorts tPorts uPorts uI64 cc3 cPortsT h
end Lx
end Go.Proofs.YtceblpjlklogpaaDoor
