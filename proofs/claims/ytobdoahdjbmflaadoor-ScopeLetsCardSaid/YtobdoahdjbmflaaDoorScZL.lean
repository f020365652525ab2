/-
  The law ScopeLets, walked.
-/
import Derived.Test.YtobdoahdjbmflaaDoorC20
import Derived.Test.YtobdoahdjbmflaaDoorC13
import Derived.Test.YtobdoahdjbmflaaDoorC8
import Derived.Test.YtobdoahdjbmflaaDoorC12
import Derived.Deep.RegionHeld3
import Derived.Deep.DrawnRows
namespace Go.Proofs.YtobdoahdjbmflaaDoor
open Go Go.RowKit
namespace Lx
set_option maxRecDepth 100000
theorem ncellS {w : World} {g i : Nat} {u : Value} (h : w.cell? ⟨g, i, none⟩ = some u) : g < w.heap.size := cell_lt h
theorem lets_plain (s : ByteArray) (a b : Tr) (ha : mayV a = true) (hb : mayV b = true) (hn : nameV s.data.toList = true) : inN (freeV5 (letT 5 s a b)) s = false ∧ inN (freeV5 (letT 4 s a b)) s = inN (freeV5 a) s ∧ (∀ i (hi : i < (freeV5 (letT 3 ⟨#[]⟩ a b)).length), (freeV5 (letT 3 ⟨#[]⟩ a b))[i] ≠ s → inN (freeV5 (letT 4 s a b)) (freeV5 (letT 3 ⟨#[]⟩ a b))[i] = true ∧ inN (freeV5 (letT 5 s a b)) (freeV5 (letT 3 ⟨#[]⟩ a b))[i] = true) ∧ (freeV5 (letT 4 s a b)).length ≤ (freeV5 (letT 3 ⟨#[]⟩ a b)).length ∧ (freeV5 (letT 5 s a b)).length ≤ (freeV5 (letT 3 ⟨#[]⟩ a b)).length := by
  have e4 : freeV5 (letT 4 s a b) = freeT (letT 4 s a b) := if_pos (may_let s a b ha hb hn)
  have e5 : freeV5 (letT 5 s a b) = freeT (letT 5 s a b) := if_pos (may_rec s a b ha hb hn)
  have e3 : freeV5 (letT 3 ⟨#[]⟩ a b) = freeT (letT 3 ⟨#[]⟩ a b) := if_pos (may_app a b ha hb)
  have ea : freeV5 a = freeT a := if_pos ha
  rw [e4, e5, ea]
  refine ⟨?_, ?_, fun i hi hne => ?_, ?_, ?_⟩
  · rw [Bool.eq_false_iff, ne_eq, inN_mem, rec_mem]
    exact fun h => h.2 rfl
  · rw [Bool.eq_iff_iff, inN_mem, inN_mem, let_mem]
    exact ⟨fun h => h.elim id fun h => absurd rfl h.2, .inl⟩
  · have hm : (freeV5 (letT 3 ⟨#[]⟩ a b))[i] ∈ freeT (letT 3 ⟨#[]⟩ a b) := e3 ▸ List.getElem_mem hi
    rw [app_mem] at hm
    rw [inN_mem, inN_mem, let_mem, rec_mem]
    exact ⟨hm.imp id fun h => ⟨h, hne⟩, hm, hne⟩
  · rw [e3]
    refine nodup_le (free_nodup _) fun x hx => ?_
    rw [let_mem] at hx
    rw [app_mem]
    exact hx.imp id fun h => h.1
  · rw [e3]
    refine nodup_le (free_nodup _) fun x hx => ?_
    rw [rec_mem] at hx
    rw [app_mem]
    exact hx.1
set_option maxHeartbeats 16000000 in
theorem scopeLets_law (a : Tr) (b : Tr) (s : ByteArray) (A : Option Addr) (B : Option Addr) (c : Nat) (d : Nat) (w : World) (ha : TIn w Any a A) (hb : TIn w Any b B) (hss : s.size ≤ 140737488351232) (hg : Signs w) :
    Calls Tryd.prog 4 #[tv a A c, tv b B d, .string s] w fun e w' => e = .returned (.bool true) ∧ Below w.heap.size w w' := by
  have HF := Lib.hid (fun (W : World) (h : Below w.heap.size w W) => fixed5_any W (hg.below h hg.pos))
  have HSa := Lib.hid (fun (W : World) (h : Below w.heap.size w W) => tsmall_any a A c 150 W (TIn.below _ ha h (Nat.le_refl _)) (by omega) (by omega))
  have HDa := Lib.hid (fun (hq : decide (0 ≤ fewT a 150 200) = true) (W : World) (h : Below w.heap.size w W) => rdepth_any (depthT a) a A c W (Nat.le_refl _) (by have := few5 hq; omega) (TIn.below _ ha h (Nat.le_refl _)))
  have HMa := Lib.hid (fun (W : World) (h : Below w.heap.size w W) => rMay_any a A c W (TIn.below _ ha h (Nat.le_refl _)))
  have HSb := Lib.hid (fun (W : World) (h : Below w.heap.size w W) => tsmall_any b B d 150 W (TIn.below _ hb h (Nat.le_refl _)) (by omega) (by omega))
  have HDb := Lib.hid (fun (hq : decide (0 ≤ fewT b 150 200) = true) (W : World) (h : Below w.heap.size w W) => rdepth_any (depthT b) b B d W (Nat.le_refl _) (by have := few5 hq; omega) (TIn.below _ hb h (Nat.le_refl _)))
  have HMb := Lib.hid (fun (W : World) (h : Below w.heap.size w W) => rMay_any b B d W (TIn.below _ hb h (Nat.le_refl _)))
  have HMN : Hid (∀ W, Below w.heap.size w W → Calls Tryd.prog 8 #[.agg #[.int .i64 1, .string s, .int .i64 0, .int .i64 0, .slice none 0 0]] W fun e w' => e = .returned (.bool (nameV s.data.toList)) ∧ Below W.heap.size W w') := Lib.hid (fun W h => by
    have h9 := rMay_any (.node 1 s 0 0 []) none 0 W (TIn.leaf hss)
    rw [may_var] at h9
    exact h9)
  have HLT : Hid (decide (0 ≤ fewT a 150 200) = true → decide (0 ≤ fewT b 150 200) = true → ∀ W, Below w.heap.size w W → Calls Tryd.prog 10 #[.agg #[.int .i64 4, .string s, .int .i64 0, .int .i64 0, .slice (some ⟨W.heap.size, 0, none⟩) 2 2]] (W.alloc (.cells #[.int .i64 a.kind, .string a.name, .int .i64 a.n, .int .i64 a.place, .slice A a.parts.length (capF a.parts.length c), .int .i64 b.kind, .string b.name, .int .i64 b.n, .int .i64 b.place, .slice B b.parts.length (capF b.parts.length d)] 24)) fun e w' => ∃ E x, e = .returned (.slice E (freeV5 (letT 4 s a b)).length x) ∧ SIn w' Any (freeV5 (letT 4 s a b)) E ∧ Below W.heap.size W w') := Lib.hid (fun hqa hqb W h => by
    have hba := below_allocS W (.cells #[.int .i64 a.kind, .string a.name, .int .i64 a.n, .int .i64 a.place, .slice A a.parts.length (capF a.parts.length c), .int .i64 b.kind, .string b.name, .int .i64 b.n, .int .i64 b.place, .slice B b.parts.length (capF b.parts.length d)] 24)
    have hI : TIn (W.alloc (.cells #[.int .i64 a.kind, .string a.name, .int .i64 a.n, .int .i64 a.place, .slice A a.parts.length (capF a.parts.length c), .int .i64 b.kind, .string b.name, .int .i64 b.n, .int .i64 b.place, .slice B b.parts.length (capF b.parts.length d)] 24)) Any (letT 4 s a b) (some ⟨W.heap.size, 0, none⟩) := TIn.mk hss (by simp) (LIn.two (t := 24) (c1 := c) (c2 := d) (Lies.new W 24 _) rfl trivial (TIn.below _ (TIn.below _ ha h (Nat.le_refl _)) hba (Nat.le_refl _)) (TIn.below _ (TIn.below _ hb h (Nat.le_refl _)) hba (Nat.le_refl _)))
    have f1 := few5 hqa
    have f2 := few5 hqb
    have hf : Fit (W.alloc (.cells #[.int .i64 a.kind, .string a.name, .int .i64 a.n, .int .i64 a.place, .slice A a.parts.length (capF a.parts.length c), .int .i64 b.kind, .string b.name, .int .i64 b.n, .int .i64 b.place, .slice B b.parts.length (capF b.parts.length d)] 24)) (letT 4 s a b) (some ⟨W.heap.size, 0, none⟩) := ⟨by rw [depth_two]; omega, by rw [size_two]; omega, hI, (hg.below h hg.pos).below hba (hg.below h hg.pos).pos⟩
    exact (sFree_any (letT 4 s a b) (some ⟨W.heap.size, 0, none⟩) 2 _ hf).mono fun e w' h9 => by
      obtain ⟨E, x, he, hs, hb⟩ := giveN_in h9
      exact ⟨E, x, he, hs, hba.trans (hb.mono hba.size)⟩)
  have HRC : Hid (decide (0 ≤ fewT a 150 200) = true → decide (0 ≤ fewT b 150 200) = true → ∀ W, Below w.heap.size w W → Calls Tryd.prog 10 #[.agg #[.int .i64 5, .string s, .int .i64 0, .int .i64 0, .slice (some ⟨W.heap.size, 0, none⟩) 2 2]] (W.alloc (.cells #[.int .i64 a.kind, .string a.name, .int .i64 a.n, .int .i64 a.place, .slice A a.parts.length (capF a.parts.length c), .int .i64 b.kind, .string b.name, .int .i64 b.n, .int .i64 b.place, .slice B b.parts.length (capF b.parts.length d)] 24)) fun e w' => ∃ E x, e = .returned (.slice E (freeV5 (letT 5 s a b)).length x) ∧ SIn w' Any (freeV5 (letT 5 s a b)) E ∧ Below W.heap.size W w') := Lib.hid (fun hqa hqb W h => by
    have hba := below_allocS W (.cells #[.int .i64 a.kind, .string a.name, .int .i64 a.n, .int .i64 a.place, .slice A a.parts.length (capF a.parts.length c), .int .i64 b.kind, .string b.name, .int .i64 b.n, .int .i64 b.place, .slice B b.parts.length (capF b.parts.length d)] 24)
    have hI : TIn (W.alloc (.cells #[.int .i64 a.kind, .string a.name, .int .i64 a.n, .int .i64 a.place, .slice A a.parts.length (capF a.parts.length c), .int .i64 b.kind, .string b.name, .int .i64 b.n, .int .i64 b.place, .slice B b.parts.length (capF b.parts.length d)] 24)) Any (letT 5 s a b) (some ⟨W.heap.size, 0, none⟩) := TIn.mk hss (by simp) (LIn.two (t := 24) (c1 := c) (c2 := d) (Lies.new W 24 _) rfl trivial (TIn.below _ (TIn.below _ ha h (Nat.le_refl _)) hba (Nat.le_refl _)) (TIn.below _ (TIn.below _ hb h (Nat.le_refl _)) hba (Nat.le_refl _)))
    have f1 := few5 hqa
    have f2 := few5 hqb
    have hf : Fit (W.alloc (.cells #[.int .i64 a.kind, .string a.name, .int .i64 a.n, .int .i64 a.place, .slice A a.parts.length (capF a.parts.length c), .int .i64 b.kind, .string b.name, .int .i64 b.n, .int .i64 b.place, .slice B b.parts.length (capF b.parts.length d)] 24)) (letT 5 s a b) (some ⟨W.heap.size, 0, none⟩) := ⟨by rw [depth_two]; omega, by rw [size_two]; omega, hI, (hg.below h hg.pos).below hba (hg.below h hg.pos).pos⟩
    exact (sFree_any (letT 5 s a b) (some ⟨W.heap.size, 0, none⟩) 2 _ hf).mono fun e w' h9 => by
      obtain ⟨E, x, he, hs, hb⟩ := giveN_in h9
      exact ⟨E, x, he, hs, hba.trans (hb.mono hba.size)⟩)
  have HAP : Hid (decide (0 ≤ fewT a 150 200) = true → decide (0 ≤ fewT b 150 200) = true → ∀ W, Below w.heap.size w W → Calls Tryd.prog 10 #[.agg #[.int .i64 3, .string ⟨#[]⟩, .int .i64 0, .int .i64 0, .slice (some ⟨W.heap.size, 0, none⟩) 2 2]] (W.alloc (.cells #[.int .i64 a.kind, .string a.name, .int .i64 a.n, .int .i64 a.place, .slice A a.parts.length (capF a.parts.length c), .int .i64 b.kind, .string b.name, .int .i64 b.n, .int .i64 b.place, .slice B b.parts.length (capF b.parts.length d)] 24)) fun e w' => ∃ E x, e = .returned (.slice E (freeV5 (letT 3 ⟨#[]⟩ a b)).length x) ∧ SIn w' Any (freeV5 (letT 3 ⟨#[]⟩ a b)) E ∧ Below W.heap.size W w') := Lib.hid (fun hqa hqb W h => by
    have hba := below_allocS W (.cells #[.int .i64 a.kind, .string a.name, .int .i64 a.n, .int .i64 a.place, .slice A a.parts.length (capF a.parts.length c), .int .i64 b.kind, .string b.name, .int .i64 b.n, .int .i64 b.place, .slice B b.parts.length (capF b.parts.length d)] 24)
    have hI : TIn (W.alloc (.cells #[.int .i64 a.kind, .string a.name, .int .i64 a.n, .int .i64 a.place, .slice A a.parts.length (capF a.parts.length c), .int .i64 b.kind, .string b.name, .int .i64 b.n, .int .i64 b.place, .slice B b.parts.length (capF b.parts.length d)] 24)) Any (letT 3 ⟨#[]⟩ a b) (some ⟨W.heap.size, 0, none⟩) := TIn.mk (by decide) (by simp) (LIn.two (t := 24) (c1 := c) (c2 := d) (Lies.new W 24 _) rfl trivial (TIn.below _ (TIn.below _ ha h (Nat.le_refl _)) hba (Nat.le_refl _)) (TIn.below _ (TIn.below _ hb h (Nat.le_refl _)) hba (Nat.le_refl _)))
    have f1 := few5 hqa
    have f2 := few5 hqb
    have hf : Fit (W.alloc (.cells #[.int .i64 a.kind, .string a.name, .int .i64 a.n, .int .i64 a.place, .slice A a.parts.length (capF a.parts.length c), .int .i64 b.kind, .string b.name, .int .i64 b.n, .int .i64 b.place, .slice B b.parts.length (capF b.parts.length d)] 24)) (letT 3 ⟨#[]⟩ a b) (some ⟨W.heap.size, 0, none⟩) := ⟨by rw [depth_two]; omega, by rw [size_two]; omega, hI, (hg.below h hg.pos).below hba (hg.below h hg.pos).pos⟩
    exact (sFree_any (letT 3 ⟨#[]⟩ a b) (some ⟨W.heap.size, 0, none⟩) 2 _ hf).mono fun e w' h9 => by
      obtain ⟨E, x, he, hs, hb⟩ := giveN_in h9
      exact ⟨E, x, he, hs, hba.trans (hb.mono hba.size)⟩)
  have HFA : Hid (decide (0 ≤ fewT a 150 200) = true → ∀ W, Below w.heap.size w W → Calls Tryd.prog 10 #[tv a A c] W fun e w' => ∃ E x, e = .returned (.slice E (freeV5 a).length x) ∧ SIn w' Any (freeV5 a) E ∧ Below W.heap.size W w') := Lib.hid (fun hqa W h => (sFree_any a A c W ⟨by have := few5 hqa; omega, by have := few5 hqa; omega, TIn.below _ ha h (Nat.le_refl _), hg.below h hg.pos⟩).mono fun e w' h => giveN_in h)
  have PL : Hid (mayV a = true → mayV b = true → nameV s.data.toList = true → inN (freeV5 (letT 5 s a b)) s = false ∧ inN (freeV5 (letT 4 s a b)) s = inN (freeV5 a) s ∧ (∀ i (hi : i < (freeV5 (letT 3 ⟨#[]⟩ a b)).length), (freeV5 (letT 3 ⟨#[]⟩ a b))[i] ≠ s → inN (freeV5 (letT 4 s a b)) (freeV5 (letT 3 ⟨#[]⟩ a b))[i] = true ∧ inN (freeV5 (letT 5 s a b)) (freeV5 (letT 3 ⟨#[]⟩ a b))[i] = true) ∧ (freeV5 (letT 4 s a b)).length ≤ (freeV5 (letT 3 ⟨#[]⟩ a b)).length ∧ (freeV5 (letT 5 s a b)).length ≤ (freeV5 (letT 3 ⟨#[]⟩ a b)).length) := Lib.hid (lets_plain s a b)
  have HNF : Hid (decide (0 ≤ fewT a 150 200) = true → decide (0 ≤ fewT b 150 200) = true → (freeV5 (letT 3 ⟨#[]⟩ a b)).length ≤ 1000 ∧ (freeV5 (letT 4 s a b)).length ≤ 1000 ∧ (freeV5 (letT 5 s a b)).length ≤ 1000 ∧ (freeV5 a).length ≤ 1000) := Lib.hid (fun hqa hqb => by
    have := few5 hqa
    have := few5 hqb
    have h1 := freeV_len (letT 3 ⟨#[]⟩ a b)
    have h2 := freeV_len (letT 4 s a b)
    have h3 := freeV_len (letT 5 s a b)
    have h4 := freeV_len a
    rw [size_two] at h1 h2 h3
    omega)
  obtain ⟨qa, hqa9⟩ : ∃ z9, z9 = decide (0 ≤ fewT a 150 200) := ⟨_, rfl⟩
  obtain ⟨va, hva9⟩ : ∃ z9, z9 = mayV a := ⟨_, rfl⟩
  obtain ⟨da, hda9⟩ : ∃ z9, z9 = depthT a := ⟨_, rfl⟩
  obtain ⟨qb, hqb9⟩ : ∃ z9, z9 = decide (0 ≤ fewT b 150 200) := ⟨_, rfl⟩
  obtain ⟨vb, hvb9⟩ : ∃ z9, z9 = mayV b := ⟨_, rfl⟩
  obtain ⟨db, hdb9⟩ : ∃ z9, z9 = depthT b := ⟨_, rfl⟩
  obtain ⟨vn, hvn9⟩ : ∃ z9, z9 = nameV s.data.toList := ⟨_, rfl⟩
  obtain ⟨lf, hlf9⟩ : ∃ z9, z9 = freeV5 (letT 4 s a b) := ⟨_, rfl⟩
  obtain ⟨rf, hrf9⟩ : ∃ z9, z9 = freeV5 (letT 5 s a b) := ⟨_, rfl⟩
  obtain ⟨pf, hpf9⟩ : ∃ z9, z9 = freeV5 (letT 3 ⟨#[]⟩ a b) := ⟨_, rfl⟩
  obtain ⟨af, haf9⟩ : ∃ z9, z9 = freeV5 a := ⟨_, rfl⟩
  obtain ⟨ln9, hln99⟩ : ∃ z9, z9 = lf.length := ⟨_, rfl⟩
  obtain ⟨rn9, hrn99⟩ : ∃ z9, z9 = rf.length := ⟨_, rfl⟩
  obtain ⟨pn9, hpn99⟩ : ∃ z9, z9 = pf.length := ⟨_, rfl⟩
  obtain ⟨an9, han99⟩ : ∃ z9, z9 = af.length := ⟨_, rfl⟩
  try rw [← hqa9] at HSa
  try rw [← hqa9] at HDa
  try rw [← hqa9] at HMa
  try rw [← hqa9] at HSb
  try rw [← hqa9] at HDb
  try rw [← hqa9] at HMb
  try rw [← hqa9] at HMN
  try rw [← hqa9] at HLT
  try rw [← hqa9] at HRC
  try rw [← hqa9] at HAP
  try rw [← hqa9] at HFA
  try rw [← hqa9] at PL
  try rw [← hqa9] at HNF
  try rw [← hva9] at HSa
  try rw [← hva9] at HDa
  try rw [← hva9] at HMa
  try rw [← hva9] at HSb
  try rw [← hva9] at HDb
  try rw [← hva9] at HMb
  try rw [← hva9] at HMN
  try rw [← hva9] at HLT
  try rw [← hva9] at HRC
  try rw [← hva9] at HAP
  try rw [← hva9] at HFA
  try rw [← hva9] at PL
  try rw [← hva9] at HNF
  try rw [← hda9] at HSa
  try rw [← hda9] at HDa
  try rw [← hda9] at HMa
  try rw [← hda9] at HSb
  try rw [← hda9] at HDb
  try rw [← hda9] at HMb
  try rw [← hda9] at HMN
  try rw [← hda9] at HLT
  try rw [← hda9] at HRC
  try rw [← hda9] at HAP
  try rw [← hda9] at HFA
  try rw [← hda9] at PL
  try rw [← hda9] at HNF
  try rw [← hqb9] at HSa
  try rw [← hqb9] at HDa
  try rw [← hqb9] at HMa
  try rw [← hqb9] at HSb
  try rw [← hqb9] at HDb
  try rw [← hqb9] at HMb
  try rw [← hqb9] at HMN
  try rw [← hqb9] at HLT
  try rw [← hqb9] at HRC
  try rw [← hqb9] at HAP
  try rw [← hqb9] at HFA
  try rw [← hqb9] at PL
  try rw [← hqb9] at HNF
  try rw [← hvb9] at HSa
  try rw [← hvb9] at HDa
  try rw [← hvb9] at HMa
  try rw [← hvb9] at HSb
  try rw [← hvb9] at HDb
  try rw [← hvb9] at HMb
  try rw [← hvb9] at HMN
  try rw [← hvb9] at HLT
  try rw [← hvb9] at HRC
  try rw [← hvb9] at HAP
  try rw [← hvb9] at HFA
  try rw [← hvb9] at PL
  try rw [← hvb9] at HNF
  try rw [← hdb9] at HSa
  try rw [← hdb9] at HDa
  try rw [← hdb9] at HMa
  try rw [← hdb9] at HSb
  try rw [← hdb9] at HDb
  try rw [← hdb9] at HMb
  try rw [← hdb9] at HMN
  try rw [← hdb9] at HLT
  try rw [← hdb9] at HRC
  try rw [← hdb9] at HAP
  try rw [← hdb9] at HFA
  try rw [← hdb9] at PL
  try rw [← hdb9] at HNF
  try rw [← hvn9] at HSa
  try rw [← hvn9] at HDa
  try rw [← hvn9] at HMa
  try rw [← hvn9] at HSb
  try rw [← hvn9] at HDb
  try rw [← hvn9] at HMb
  try rw [← hvn9] at HMN
  try rw [← hvn9] at HLT
  try rw [← hvn9] at HRC
  try rw [← hvn9] at HAP
  try rw [← hvn9] at HFA
  try rw [← hvn9] at PL
  try rw [← hvn9] at HNF
  try rw [← hlf9] at HSa
  try rw [← hlf9] at HDa
  try rw [← hlf9] at HMa
  try rw [← hlf9] at HSb
  try rw [← hlf9] at HDb
  try rw [← hlf9] at HMb
  try rw [← hlf9] at HMN
  try rw [← hlf9] at HLT
  try rw [← hlf9] at HRC
  try rw [← hlf9] at HAP
  try rw [← hlf9] at HFA
  try rw [← hlf9] at PL
  try rw [← hlf9] at HNF
  try rw [← hrf9] at HSa
  try rw [← hrf9] at HDa
  try rw [← hrf9] at HMa
  try rw [← hrf9] at HSb
  try rw [← hrf9] at HDb
  try rw [← hrf9] at HMb
  try rw [← hrf9] at HMN
  try rw [← hrf9] at HLT
  try rw [← hrf9] at HRC
  try rw [← hrf9] at HAP
  try rw [← hrf9] at HFA
  try rw [← hrf9] at PL
  try rw [← hrf9] at HNF
  try rw [← hpf9] at HSa
  try rw [← hpf9] at HDa
  try rw [← hpf9] at HMa
  try rw [← hpf9] at HSb
  try rw [← hpf9] at HDb
  try rw [← hpf9] at HMb
  try rw [← hpf9] at HMN
  try rw [← hpf9] at HLT
  try rw [← hpf9] at HRC
  try rw [← hpf9] at HAP
  try rw [← hpf9] at HFA
  try rw [← hpf9] at PL
  try rw [← hpf9] at HNF
  try rw [← haf9] at HSa
  try rw [← haf9] at HDa
  try rw [← haf9] at HMa
  try rw [← haf9] at HSb
  try rw [← haf9] at HDb
  try rw [← haf9] at HMb
  try rw [← haf9] at HMN
  try rw [← haf9] at HLT
  try rw [← haf9] at HRC
  try rw [← haf9] at HAP
  try rw [← haf9] at HFA
  try rw [← haf9] at PL
  try rw [← haf9] at HNF
  try rw [← hln99] at HSa
  try rw [← hln99] at HDa
  try rw [← hln99] at HMa
  try rw [← hln99] at HSb
  try rw [← hln99] at HDb
  try rw [← hln99] at HMb
  try rw [← hln99] at HMN
  try rw [← hln99] at HLT
  try rw [← hln99] at HRC
  try rw [← hln99] at HAP
  try rw [← hln99] at HFA
  try rw [← hln99] at PL
  try rw [← hln99] at HNF
  try rw [← hrn99] at HSa
  try rw [← hrn99] at HDa
  try rw [← hrn99] at HMa
  try rw [← hrn99] at HSb
  try rw [← hrn99] at HDb
  try rw [← hrn99] at HMb
  try rw [← hrn99] at HMN
  try rw [← hrn99] at HLT
  try rw [← hrn99] at HRC
  try rw [← hrn99] at HAP
  try rw [← hrn99] at HFA
  try rw [← hrn99] at PL
  try rw [← hrn99] at HNF
  try rw [← hpn99] at HSa
  try rw [← hpn99] at HDa
  try rw [← hpn99] at HMa
  try rw [← hpn99] at HSb
  try rw [← hpn99] at HDb
  try rw [← hpn99] at HMb
  try rw [← hpn99] at HMN
  try rw [← hpn99] at HLT
  try rw [← hpn99] at HRC
  try rw [← hpn99] at HAP
  try rw [← hpn99] at HFA
  try rw [← hpn99] at PL
  try rw [← hpn99] at HNF
  try rw [← han99] at HSa
  try rw [← han99] at HDa
  try rw [← han99] at HMa
  try rw [← han99] at HSb
  try rw [← han99] at HDb
  try rw [← han99] at HMb
  try rw [← han99] at HMN
  try rw [← han99] at HLT
  try rw [← han99] at HRC
  try rw [← han99] at HAP
  try rw [← han99] at HFA
  try rw [← han99] at PL
  try rw [← han99] at HNF
  have HTa := Lib.hid ha
  have HTb := Lib.hid hb
  have HLln9 := Lib.hid hln99
  have HLrn9 := Lib.hid hrn99
  have HLpn9 := Lib.hid hpn99
  have HLan9 := Lib.hid han99
  clear hg hqa9 hva9 hda9 hqb9 hvb9 hdb9 hvn9 hlf9 hrf9 hpf9 haf9 hln99 hrn99 hpn99 han99 ha hb
  obtain ⟨pk, ps, pn, pa, pl⟩ := a
  obtain ⟨rk, rs, rn, ra, rl⟩ := b
  try simp only [tv, Tr.kind, Tr.name, Tr.n, Tr.place, Tr.parts] at HSa
  try simp only [tv, Tr.kind, Tr.name, Tr.n, Tr.place, Tr.parts] at HDa
  try simp only [tv, Tr.kind, Tr.name, Tr.n, Tr.place, Tr.parts] at HMa
  try simp only [tv, Tr.kind, Tr.name, Tr.n, Tr.place, Tr.parts] at HSb
  try simp only [tv, Tr.kind, Tr.name, Tr.n, Tr.place, Tr.parts] at HDb
  try simp only [tv, Tr.kind, Tr.name, Tr.n, Tr.place, Tr.parts] at HMb
  try simp only [tv, Tr.kind, Tr.name, Tr.n, Tr.place, Tr.parts] at HMN
  try simp only [Tr.kind, Tr.name, Tr.n, Tr.place, Tr.parts] at HLT
  try simp only [Tr.kind, Tr.name, Tr.n, Tr.place, Tr.parts] at HRC
  try simp only [Tr.kind, Tr.name, Tr.n, Tr.place, Tr.parts] at HAP
  try simp only [tv, Tr.kind, Tr.name, Tr.n, Tr.place, Tr.parts] at HFA
  try simp only [tv, Tr.kind, Tr.name, Tr.n, Tr.place, Tr.parts] at PL
  try simp only [tv, Tr.kind, Tr.name, Tr.n, Tr.place, Tr.parts] at HNF
  simp only [tv, Tr.kind, Tr.name, Tr.n, Tr.place, Tr.parts]
  obtain ⟨pm, hpm9⟩ : ∃ m, m = pl.length := ⟨_, rfl⟩
  try rw [← hpm9] at HSa
  try rw [← hpm9] at HDa
  try rw [← hpm9] at HMa
  try rw [← hpm9] at HSb
  try rw [← hpm9] at HDb
  try rw [← hpm9] at HMb
  try rw [← hpm9] at HMN
  try rw [← hpm9] at HLT
  try rw [← hpm9] at HRC
  try rw [← hpm9] at HAP
  try rw [← hpm9] at HFA
  try rw [← hpm9] at PL
  try rw [← hpm9] at HNF
  rw [← hpm9]
  have HMpm := Lib.hid hpm9
  obtain ⟨pc, hpc9⟩ : ∃ x, x = capF pm c := ⟨_, rfl⟩
  try rw [← hpc9] at HSa
  try rw [← hpc9] at HDa
  try rw [← hpc9] at HMa
  try rw [← hpc9] at HSb
  try rw [← hpc9] at HDb
  try rw [← hpc9] at HMb
  try rw [← hpc9] at HMN
  try rw [← hpc9] at HLT
  try rw [← hpc9] at HRC
  try rw [← hpc9] at HAP
  try rw [← hpc9] at HFA
  try rw [← hpc9] at PL
  try rw [← hpc9] at HNF
  rw [← hpc9]
  clear hpm9 hpc9
  obtain ⟨rm, hrm9⟩ : ∃ m, m = rl.length := ⟨_, rfl⟩
  try rw [← hrm9] at HSa
  try rw [← hrm9] at HDa
  try rw [← hrm9] at HMa
  try rw [← hrm9] at HSb
  try rw [← hrm9] at HDb
  try rw [← hrm9] at HMb
  try rw [← hrm9] at HMN
  try rw [← hrm9] at HLT
  try rw [← hrm9] at HRC
  try rw [← hrm9] at HAP
  try rw [← hrm9] at HFA
  try rw [← hrm9] at PL
  try rw [← hrm9] at HNF
  rw [← hrm9]
  have HMrm := Lib.hid hrm9
  obtain ⟨rc, hrc9⟩ : ∃ x, x = capF rm d := ⟨_, rfl⟩
  try rw [← hrc9] at HSa
  try rw [← hrc9] at HDa
  try rw [← hrc9] at HMa
  try rw [← hrc9] at HSb
  try rw [← hrc9] at HDb
  try rw [← hrc9] at HMb
  try rw [← hrc9] at HMN
  try rw [← hrc9] at HLT
  try rw [← hrc9] at HRC
  try rw [← hrc9] at HAP
  try rw [← hrc9] at HFA
  try rw [← hrc9] at PL
  try rw [← hrc9] at HNF
  rw [← hrc9]
  clear hrm9 hrc9
  obtain ⟨u0, hu0⟩ : ∃ W, W = w.alloc (.cells #[.int .i64 pk, .string ps, .int .i64 pn, .int .i64 pa, .slice A pm pc] 24) := ⟨_, rfl⟩
  have hb0 : Below w.heap.size w u0 := by rw [hu0]; exact below_allocS w _
  have L0 : Lies u0 w.heap.size 24 #[.int .i64 pk, .string ps, .int .i64 pn, .int .i64 pa, .slice A pm pc] := by rw [hu0]; exact Lies.new _ _ _
  obtain ⟨g0, hg0⟩ : ∃ g, g = w.heap.size := ⟨_, rfl⟩
  rw [← hg0] at L0
  obtain ⟨u1, hu1⟩ : ∃ W, W = u0.alloc (.cells #[.int .i64 rk, .string rs, .int .i64 rn, .int .i64 ra, .slice B rm rc] 24) := ⟨_, rfl⟩
  have hb1 : Below w.heap.size w u1 := by rw [hu1]; exact hb0.alloc hb0.size _
  have L1 : Lies u1 u0.heap.size 24 #[.int .i64 rk, .string rs, .int .i64 rn, .int .i64 ra, .slice B rm rc] := by rw [hu1]; exact Lies.new _ _ _
  replace L0 : Lies u1 g0 24 #[.int .i64 pk, .string ps, .int .i64 pn, .int .i64 pa, .slice A pm pc] := by rw [hu1]; exact L0.old _
  obtain ⟨g1, hg1⟩ : ∃ g, g = u0.heap.size := ⟨_, rfl⟩
  rw [← hg1] at L1
  rw [hu0, World.size_alloc] at hg1
  go_enter Tryd.func4, Tryd.ntmps4
  go_upto_region 1 with fail
  rw [← hu0]
  rw [← hu1]
  rw [← hg1]
  rw [← hg0]
  have HB0 := Lib.hid hb1
  clear hu0 hg0 hb0 hu1 hg1 hb1
  go_wp2_with fail
  refine (HF.out u1 HB0.out).mono ?_
  rintro e w1 ⟨rfl, hb⟩
  replace HB0 := Lib.hid (HB0.out.trans (hb.mono HB0.out.size))
  replace L0 := L0.below hb L0.lt
  replace L1 := L1.below hb L1.lt
  clear hb
  obtain ⟨⟨x00, x01, x02, x03, x04⟩, _⟩ := L0.five
  go_wp2_with fail
  refine (HSa.out w1 HB0.out).mono ?_
  rintro e w2 ⟨rfl, hb⟩
  replace HB0 := Lib.hid (HB0.out.trans (hb.mono HB0.out.size))
  replace L0 := L0.below hb L0.lt
  replace L1 := L1.below hb L1.lt
  clear hb
  clear x00 x01 x02 x03 x04
  cases qa with
  | false =>
    go_wp2_with fail
    refine (HF.out _ HB0.out).mono ?_
    rintro e wz ⟨rfl, hbz⟩
    go_wp2_with fail
    go_ret
    exact ⟨rfl, HB0.out.trans (hbz.mono HB0.out.size)⟩
  | true =>
    obtain ⟨⟨x10, x11, x12, x13, x14⟩, _⟩ := L1.five
    go_wp2_with fail
    refine (HSb.out w2 HB0.out).mono ?_
    rintro e w3 ⟨rfl, hb⟩
    replace HB0 := Lib.hid (HB0.out.trans (hb.mono HB0.out.size))
    replace L0 := L0.below hb L0.lt
    replace L1 := L1.below hb L1.lt
    clear hb
    clear x10 x11 x12 x13 x14
    cases qb with
    | false =>
      go_wp2_with fail
      refine (HF.out _ HB0.out).mono ?_
      rintro e wz ⟨rfl, hbz⟩
      go_wp2_with fail
      go_ret
      exact ⟨rfl, HB0.out.trans (hbz.mono HB0.out.size)⟩
    | true =>
      obtain ⟨⟨x00, x01, x02, x03, x04⟩, _⟩ := L0.five
      go_wp2_with fail
      refine (HDa.out (by simp) w3 HB0.out).mono ?_
      rintro e w4 ⟨rfl, hb⟩
      replace HB0 := Lib.hid (HB0.out.trans (hb.mono HB0.out.size))
      replace L0 := L0.below hb L0.lt
      replace L1 := L1.below hb L1.lt
      clear hb
      clear x00 x01 x02 x03 x04
      by_cases hd_da : 100 < da
      · have hd1_da : (100 : Int) < (da : Int) := by omega
        go_wp2_with fail
        refine (HF.out _ HB0.out).mono ?_
        rintro e wz ⟨rfl, hbz⟩
        go_wp2_with fail
        go_ret
        exact ⟨rfl, HB0.out.trans (hbz.mono HB0.out.size)⟩
      · have hd1_da : ¬ (100 : Int) < (da : Int) := by omega
        obtain ⟨⟨x10, x11, x12, x13, x14⟩, _⟩ := L1.five
        go_wp2_with fail
        refine (HDb.out (by simp) w4 HB0.out).mono ?_
        rintro e w5 ⟨rfl, hb⟩
        replace HB0 := Lib.hid (HB0.out.trans (hb.mono HB0.out.size))
        replace L0 := L0.below hb L0.lt
        replace L1 := L1.below hb L1.lt
        clear hb
        clear x10 x11 x12 x13 x14
        by_cases hd_db : 100 < db
        · have hd1_db : (100 : Int) < (db : Int) := by omega
          go_wp2_with fail
          refine (HF.out _ HB0.out).mono ?_
          rintro e wz ⟨rfl, hbz⟩
          go_wp2_with fail
          go_ret
          exact ⟨rfl, HB0.out.trans (hbz.mono HB0.out.size)⟩
        · have hd1_db : ¬ (100 : Int) < (db : Int) := by omega
          obtain ⟨⟨x00, x01, x02, x03, x04⟩, _⟩ := L0.five
          go_wp2_with fail
          refine (HMa.out w5 HB0.out).mono ?_
          rintro e w6 ⟨rfl, hb⟩
          replace HB0 := Lib.hid (HB0.out.trans (hb.mono HB0.out.size))
          replace L0 := L0.below hb L0.lt
          replace L1 := L1.below hb L1.lt
          clear hb
          clear x00 x01 x02 x03 x04
          cases va with
          | false =>
            go_wp2_with fail
            refine (HF.out _ HB0.out).mono ?_
            rintro e wz ⟨rfl, hbz⟩
            go_wp2_with fail
            go_ret
            exact ⟨rfl, HB0.out.trans (hbz.mono HB0.out.size)⟩
          | true =>
            obtain ⟨⟨x10, x11, x12, x13, x14⟩, _⟩ := L1.five
            go_wp2_with fail
            refine (HMb.out w6 HB0.out).mono ?_
            rintro e w7 ⟨rfl, hb⟩
            replace HB0 := Lib.hid (HB0.out.trans (hb.mono HB0.out.size))
            replace L0 := L0.below hb L0.lt
            replace L1 := L1.below hb L1.lt
            clear hb
            clear x10 x11 x12 x13 x14
            cases vb with
            | false =>
              go_wp2_with fail
              refine (HF.out _ HB0.out).mono ?_
              rintro e wz ⟨rfl, hbz⟩
              go_wp2_with fail
              go_ret
              exact ⟨rfl, HB0.out.trans (hbz.mono HB0.out.size)⟩
            | true =>
              go_wp2_with fail
              refine (HMN.out w7 HB0.out).mono ?_
              rintro e w8 ⟨rfl, hb⟩
              replace HB0 := Lib.hid (HB0.out.trans (hb.mono HB0.out.size))
              replace L0 := L0.below hb L0.lt
              replace L1 := L1.below hb L1.lt
              clear hb
              cases vn with
              | false =>
                go_wp2_with fail
                refine (HF.out _ HB0.out).mono ?_
                rintro e wz ⟨rfl, hbz⟩
                go_wp2_with fail
                go_ret
                exact ⟨rfl, HB0.out.trans (hbz.mono HB0.out.size)⟩
              | true =>
                obtain ⟨P1, P2, P3, P4, P5⟩ := PL.out (by simp) (by simp) (by simp)
                have P3 := Lib.hid P3
                have P1 := Lib.hid P1
                have P2 := Lib.hid P2
                have P4 := Lib.hid P4
                have P5 := Lib.hid P5
                obtain ⟨N1, N2, N3, N4⟩ := HNF.out (by simp) (by simp)
                clear PL HNF
                obtain ⟨⟨x00, x01, x02, x03, x04⟩, _⟩ := L0.five
                obtain ⟨⟨x10, x11, x12, x13, x14⟩, _⟩ := L1.five
                go_wp2_with fail
                refine (HLT.out (by simp) (by simp) w8 HB0.out).mono ?_
                rintro e w9 ⟨El, Elc, rfl, hl, hb⟩
                replace HB0 := Lib.hid (HB0.out.trans (hb.mono HB0.out.size))
                replace L0 := L0.below hb L0.lt
                replace L1 := L1.below hb L1.lt
                clear hb
                clear x00 x01 x02 x03 x04
                clear x10 x11 x12 x13 x14
                obtain ⟨⟨x00, x01, x02, x03, x04⟩, _⟩ := L0.five
                obtain ⟨⟨x10, x11, x12, x13, x14⟩, _⟩ := L1.five
                go_wp2_with fail
                refine (HRC.out (by simp) (by simp) w9 HB0.out).mono ?_
                rintro e w10 ⟨Er, Erc, rfl, hr, hb⟩
                replace HB0 := Lib.hid (HB0.out.trans (hb.mono HB0.out.size))
                replace L0 := L0.below hb L0.lt
                replace L1 := L1.below hb L1.lt
                replace hl := hl.below hb (Nat.le_refl _)
                clear hb
                clear x00 x01 x02 x03 x04
                clear x10 x11 x12 x13 x14
                obtain ⟨⟨x00, x01, x02, x03, x04⟩, _⟩ := L0.five
                obtain ⟨⟨x10, x11, x12, x13, x14⟩, _⟩ := L1.five
                go_wp2_with fail
                refine (HAP.out (by simp) (by simp) w10 HB0.out).mono ?_
                rintro e w11 ⟨Ep, Epc, rfl, hp, hb⟩
                replace HB0 := Lib.hid (HB0.out.trans (hb.mono HB0.out.size))
                replace L0 := L0.below hb L0.lt
                replace L1 := L1.below hb L1.lt
                replace hl := hl.below hb (Nat.le_refl _)
                replace hr := hr.below hb (Nat.le_refl _)
                clear hb
                clear x00 x01 x02 x03 x04
                clear x10 x11 x12 x13 x14
                go_upto_region 6 with fail
                have HSS : Hid (∀ V', Below w11.heap.size w11 V' → (fun V' : World => (V'.cell? ⟨g0, 0, none⟩ = some (.int .i64 pk) ∧ V'.cell? ⟨g0, 1, none⟩ = some (.string ps) ∧ V'.cell? ⟨g0, 2, none⟩ = some (.int .i64 pn) ∧ V'.cell? ⟨g0, 3, none⟩ = some (.int .i64 pa) ∧ V'.cell? ⟨g0, 4, none⟩ = some (.slice A pm pc))) V') := Lib.hid fun V' h =>
                  ⟨(h.cell (p := ⟨g0, 0, none⟩) L0.lt).trans (L0.cell 0), (h.cell (p := ⟨g0, 1, none⟩) L0.lt).trans (L0.cell 1), (h.cell (p := ⟨g0, 2, none⟩) L0.lt).trans (L0.cell 2), (h.cell (p := ⟨g0, 3, none⟩) L0.lt).trans (L0.cell 3), (h.cell (p := ⟨g0, 4, none⟩) L0.lt).trans (L0.cell 4)⟩
                obtain ⟨be, hbe⟩ : ∃ x, x = inN af s := ⟨_, rfl⟩
                have HBE := Lib.hid hbe
                clear hbe
                have H1 : Hid (∀ X, Below w11.heap.size w11 X → ∀ (E : Option Addr) (x : Nat), SIn X Any rf E → Calls Tryd.prog 11 #[.slice E rn9 x, .string s] X (fun e w' => e = .returned (.bool false) ∧ Below X.heap.size X w')) := Lib.hid fun X hX E x h => by
                  have h9 := in5_any rf s E rn9 x X HLrn9.out (by omega) h
                  rw [P1.out] at h9
                  exact h9
                have H2 : Hid (∀ X, Below w11.heap.size w11 X → ∀ (E : Option Addr) (x : Nat), SIn X Any lf E → Calls Tryd.prog 11 #[.slice E ln9 x, .string s] X (fun e w' => e = .returned (.bool be) ∧ Below X.heap.size X w')) := Lib.hid fun X hX E x h => by
                  have h9 := in5_any lf s E ln9 x X HLln9.out (by omega) h
                  rw [P2.out, ← HBE.out] at h9
                  exact h9
                have H3 : Hid (∀ X, Below w11.heap.size w11 X → Calls Tryd.prog 10 #[.agg #[.int .i64 pk, .string ps, .int .i64 pn, .int .i64 pa, .slice A pm pc]] X (fun e w' => ∃ E x, e = .returned (.slice E an9 x) ∧ SIn w' Any af E ∧ Below X.heap.size X w')) := Lib.hid fun X hX => HFA.out (by simp) X (HB0.out.trans (hX.mono HB0.out.size))
                have H4 : Hid (∀ X, Below w11.heap.size w11 X → ∀ (E : Option Addr) (x : Nat), SIn X Any af E → Calls Tryd.prog 11 #[.slice E an9 x, .string s] X (fun e w' => e = .returned (.bool be) ∧ Below X.heap.size X w')) := Lib.hid fun X hX E x h => by
                  have h9 := in5_any af s E an9 x X HLan9.out (by omega) h
                  rw [← HBE.out] at h9
                  exact h9
                clear HF HSa HSb HDa HDb HMa HMb HMN HLT HRC HAP
                have hb_1 : Below w11.heap.size w11 w11 := Below.refl _ _
                refine wp_region_held_drew (S := (fun V' : World => (V'.cell? ⟨g0, 0, none⟩ = some (.int .i64 pk) ∧ V'.cell? ⟨g0, 1, none⟩ = some (.string ps) ∧ V'.cell? ⟨g0, 2, none⟩ = some (.int .i64 pn) ∧ V'.cell? ⟨g0, 3, none⟩ = some (.int .i64 pa) ∧ V'.cell? ⟨g0, 4, none⟩ = some (.slice A pm pc)))) rfl (HSS.out _ hb_1.drew) (fun hSs => ?_)
                change wpAnyH _ _ _ _ _ 13 (Array.replicate 13 false) _ _
                refine wpAnyH_take (i := 0) (oi := ⟨some 67, _, _, _, _, _⟩) (v := .slice Er rn9 Erc) rfl (by kernel_rfl) (by kernel_rfl) (by kernel_rfl) (fun _ _ _ h => h) (.inl ⟨by kernel_rfl, fun W hW => by kernel_rfl⟩) hSs ?_
                try simp only [Act.put, List.setIfInBounds_toArray, List.set_cons_zero, List.set_cons_succ]
                refine wpAnyH_take (i := 1) (oi := ⟨some 68, _, _, _, _, _⟩) (v := .string s) rfl (by kernel_rfl) (by kernel_rfl) (by kernel_rfl) (fun _ _ _ h => h) (.inl ⟨by kernel_rfl, fun W hW => by kernel_rfl⟩) hSs ?_
                try simp only [Act.put, List.setIfInBounds_toArray, List.set_cons_zero, List.set_cons_succ]
                refine wpAnyH_ready (rs := [2]) (by kernel_rfl) (by simp) (AllReadyH.cons rfl (fun K hK => ?_) AllReadyH.nil)
                go_simp
                refine (H1.out _ (hb_1.drew) Er Erc (hr.below (Below.refl _ _).drew (Nat.le_refl _))).mono ?_
                rintro e u_2 ⟨rfl, hq_2⟩
                have hb_2 := (hb_1.drew).trans (hq_2.mono (hb_1.drew).size)
                have hl_2 := (hl.below (Below.refl _ _).drew (Nat.le_refl _)).below hq_2 (Nat.le_refl _)
                have hr_2 := (hr.below (Below.refl _ _).drew (Nat.le_refl _)).below hq_2 (Nat.le_refl _)
                have hp_2 := (hp.below (Below.refl _ _).drew (Nat.le_refl _)).below hq_2 (Nat.le_refl _)
                clear hl hr hp
                refine hK.out _ _ (HSS.out _ hb_2) (fun hS_2 => ?_)
                clear hK K
                try simp only [Act.put, List.setIfInBounds_toArray, List.set_cons_zero, List.set_cons_succ]
                refine wpAnyH_take (i := 3) (oi := ⟨some 70, _, _, _, _, _⟩) (v := .bool false) rfl (by kernel_rfl) (by kernel_rfl) (by kernel_rfl) (fun _ _ _ h => h) (.inl ⟨by kernel_rfl, fun W hW => by kernel_rfl⟩) hS_2 ?_
                try simp only [Act.put, List.setIfInBounds_toArray, List.set_cons_zero, List.set_cons_succ]
                refine wpAnyH_take (i := 4) (oi := ⟨some 71, _, _, _, _, _⟩) (v := .slice El ln9 Elc) rfl (by kernel_rfl) (by kernel_rfl) (by kernel_rfl) (fun _ _ _ h => h) (.inl ⟨by kernel_rfl, fun W hW => by kernel_rfl⟩) hS_2 ?_
                try simp only [Act.put, List.setIfInBounds_toArray, List.set_cons_zero, List.set_cons_succ]
                refine wpAnyH_take (i := 5) (oi := ⟨some 72, _, _, _, _, _⟩) (v := .string s) rfl (by kernel_rfl) (by kernel_rfl) (by kernel_rfl) (fun _ _ _ h => h) (.inl ⟨by kernel_rfl, fun W hW => by kernel_rfl⟩) hS_2 ?_
                try simp only [Act.put, List.setIfInBounds_toArray, List.set_cons_zero, List.set_cons_succ]
                refine wpAnyH_take (i := 7) (oi := ⟨some 74, _, _, _, _, _⟩) (v := .agg #[.int .i64 pk, .string ps, .int .i64 pn, .int .i64 pa, .slice A pm pc]) rfl (by kernel_rfl) (by kernel_rfl) (by kernel_rfl) (fun _ _ _ h => h) (.inl ⟨by kernel_rfl, fun W hW => by first | (obtain ⟨z0, z1, z2, z3, z4⟩ := hW; go_simp; done) | (obtain ⟨z0, z1, z2, z3, z4⟩ := hW; go_simp; omega) | (obtain ⟨z0, z1, z2, z3, z4⟩ := hW; go_simp; exact IntWalk.i64_in _ (by omega)) | (obtain ⟨z0, z1, z2, z3, z4⟩ := hW; go_simp; simp [*]; done)⟩) hS_2 ?_
                try simp only [Act.put, List.setIfInBounds_toArray, List.set_cons_zero, List.set_cons_succ]
                refine wpAnyH_take (i := 9) (oi := ⟨some 76, _, _, _, _, _⟩) (v := .string s) rfl (by kernel_rfl) (by kernel_rfl) (by kernel_rfl) (fun _ _ _ h => h) (.inl ⟨by kernel_rfl, fun W hW => by kernel_rfl⟩) hS_2 ?_
                try simp only [Act.put, List.setIfInBounds_toArray, List.set_cons_zero, List.set_cons_succ]
                refine wpAnyH_ready (rs := [6]) (by kernel_rfl) (by simp) (AllReadyH.cons rfl (fun K hK => ?_) AllReadyH.nil)
                rw [if_pos (by kernel_rfl)]
                go_simp
                refine (H2.out _ hb_2 El Elc hl_2).mono ?_
                rintro e u_3 ⟨rfl, hq_3⟩
                have hb_3 := hb_2.trans (hq_3.mono hb_2.size)
                have hl_2_3 := hl_2.below hq_3 (Nat.le_refl _)
                have hr_2_3 := hr_2.below hq_3 (Nat.le_refl _)
                have hp_2_3 := hp_2.below hq_3 (Nat.le_refl _)
                clear hl_2 hr_2 hp_2
                refine hK.out _ _ (HSS.out _ hb_3) (fun hS_3 => ?_)
                clear hK K
                try simp only [Act.put, List.setIfInBounds_toArray, List.set_cons_zero, List.set_cons_succ]
                refine wpAnyH_ready (rs := [8]) (by kernel_rfl) (by simp) (AllReadyH.cons rfl (fun K hK => ?_) AllReadyH.nil)
                rw [if_pos (by kernel_rfl)]
                go_simp
                refine (H3.out _ hb_3).mono ?_
                rintro e u_4 ⟨A_4, c_4, rfl, hR_4, hq_4⟩
                have hb_4 := hb_3.trans (hq_4.mono hb_3.size)
                have hl_2_3_4 := hl_2_3.below hq_4 (Nat.le_refl _)
                have hr_2_3_4 := hr_2_3.below hq_4 (Nat.le_refl _)
                have hp_2_3_4 := hp_2_3.below hq_4 (Nat.le_refl _)
                clear hl_2_3 hr_2_3 hp_2_3
                refine hK.out _ _ (HSS.out _ hb_4) (fun hS_4 => ?_)
                clear hK K
                try simp only [Act.put, List.setIfInBounds_toArray, List.set_cons_zero, List.set_cons_succ]
                refine wpAnyH_ready (rs := [10]) (by kernel_rfl) (by simp) (AllReadyH.cons rfl (fun K hK => ?_) AllReadyH.nil)
                rw [if_pos (by kernel_rfl)]
                go_simp
                refine (H4.out _ hb_4 A_4 c_4 hR_4).mono ?_
                rintro e u_5 ⟨rfl, hq_5⟩
                have hb_5 := hb_4.trans (hq_5.mono hb_4.size)
                have hl_2_3_4_5 := hl_2_3_4.below hq_5 (Nat.le_refl _)
                have hr_2_3_4_5 := hr_2_3_4.below hq_5 (Nat.le_refl _)
                have hp_2_3_4_5 := hp_2_3_4.below hq_5 (Nat.le_refl _)
                have hR_4_5 := hR_4.below hq_5 (Nat.le_refl _)
                clear hl_2_3_4 hr_2_3_4 hp_2_3_4 hR_4
                refine hK.out _ _ (HSS.out _ hb_5) (fun hS_5 => ?_)
                clear hK K
                try simp only [Act.put, List.setIfInBounds_toArray, List.set_cons_zero, List.set_cons_succ]
                refine wpAnyH_take (i := 11) (oi := ⟨some 78, _, _, _, _, _⟩) (v := .bool false) rfl (by kernel_rfl) (by kernel_rfl) (by kernel_rfl) (fun _ _ _ h => h) (.inl ⟨by kernel_rfl, fun W hW => by first | (obtain ⟨z0, z1, z2, z3, z4⟩ := hW; go_simp; done) | (obtain ⟨z0, z1, z2, z3, z4⟩ := hW; go_simp; omega) | (obtain ⟨z0, z1, z2, z3, z4⟩ := hW; go_simp; exact IntWalk.i64_in _ (by omega)) | (obtain ⟨z0, z1, z2, z3, z4⟩ := hW; go_simp; simp [*]; done)⟩) hS_5 ?_
                try simp only [Act.put, List.setIfInBounds_toArray, List.set_cons_zero, List.set_cons_succ]
                refine wpAnyH_take (i := 12) (oi := ⟨some 79, _, _, _, _, _⟩) (v := .bool false) rfl (by kernel_rfl) (by kernel_rfl) (by kernel_rfl) (fun _ _ _ h => h) (.inl ⟨by kernel_rfl, fun W hW => by kernel_rfl⟩) hS_5 ?_
                try simp only [Act.put, List.setIfInBounds_toArray, List.set_cons_zero, List.set_cons_succ]
                refine wpAnyH_done (by kernel_rfl) ?_ _
                have hbV := hb_5
                have hl2 := hl_2_3_4_5
                have hr2 := hr_2_3_4_5
                have hp2 := hp_2_3_4_5
                replace HB0 := Lib.hid (HB0.out.trans (hbV.mono HB0.out.size))
                obtain ⟨WZ, hWZ⟩ : ∃ W, W = u_5 := ⟨_, rfl⟩
                rw [← hWZ] at hl2 hr2 hp2 HB0 ⊢
                have HIL : Hid (∀ X (x : ByteArray), inN lf x = true → ∀ (E : Option Addr) (c : Nat), SIn X Any lf E → Calls Tryd.prog 11 #[.slice E ln9 c, .string x] X (fun e w' => e = .returned (.bool true) ∧ Below X.heap.size X w')) := Lib.hid fun X x hx E c h => by
                  have h9 := in5_any lf x E ln9 c X HLln9.out (by omega) h
                  rw [hx] at h9
                  exact h9
                have HIR : Hid (∀ X (x : ByteArray), inN rf x = true → ∀ (E : Option Addr) (c : Nat), SIn X Any rf E → Calls Tryd.prog 11 #[.slice E rn9 c, .string x] X (fun e w' => e = .returned (.bool true) ∧ Below X.heap.size X w')) := Lib.hid fun X x hx E c h => by
                  have h9 := in5_any rf x E rn9 c X HLrn9.out (by omega) h
                  rw [hx] at h9
                  exact h9
                clear hWZ hbV HSS H1 H2 H3 H4 P1 P2 HBE HFA
                go_wp2_with fail
                go_loopw [10] (fun x wr => ∃ i : Nat, i ≤ pn9 ∧ x = .int .i64 i ∧ Below WZ.heap.size WZ wr) (fun x _ => pn9 - (intOf x).toNat)
                case atStart => exact ⟨0, by omega, rfl, Below.refl _ _⟩
                case round =>
                  obtain ⟨i, hi, rfl, hbw⟩ := hrel
                  have hl3 := hl2.below hbw (Nat.le_refl _)
                  have hr3 := hr2.below hbw (Nat.le_refl _)
                  by_cases hlt : i < pn9
                  · have hit : i < pf.length := by have := HLpn9.out; omega
                    obtain ⟨g, o, rfl, _, d0⟩ := (hp2.below hbw (Nat.le_refl _)) i hit
                    have HX := Lib.hid (P3.out i hit)
                    obtain ⟨x, hx⟩ : ∃ x, x = pf[i]'hit := ⟨_, rfl⟩
                    rw [← hx] at d0 HX
                    clear hx hit
                    by_cases hxs : x = s
                    · subst hxs
                      have h1 : (x.toList == x.toList) = true := BEq.rfl
                      have h2 : (x.toList != x.toList) = false := by simp
                      go_wp2_with fail
                      go_roundw
                      case rel => exact ⟨i + 1, by omega, by go_num, hbw⟩
                      case measure => simp [intOf]; omega
                    · obtain ⟨i1, i2⟩ := HX.out hxs
                      have h1 : (x.toList == s.toList) = false := by rw [ename_q, decide_eq_false hxs]
                      have h2 : (x.toList != s.toList) = true := by rw [bne, h1]; rfl
                      have HI1 := Lib.hid (HIL.out wr x i1 El Elc hl3)
                      have HI2 := Lib.hid (fun W (hb : Below wr.heap.size wr W) => HIR.out W x i2 Er Erc (hr3.below hb (Nat.le_refl _)))
                      clear hxs i1 i2 HX
                      go_wp2_with fail
                      refine HI1.out.mono ?_
                      rintro e wa ⟨rfl, hba⟩
                      have d1 := (hba.cell (p := ⟨g, o + i, none⟩) (ncellS d0)).trans d0
                      clear d0
                      go_wp2_with fail
                      refine (HI2.out wa hba).mono ?_
                      rintro e wb ⟨rfl, hbb⟩
                      have hbz := hbw.trans ((hba.trans (hbb.mono hba.size)).mono hbw.size)
                      clear d1
                      go_wp2_with fail
                      go_roundw
                      case rel => exact ⟨i + 1, by omega, by go_num, hbz⟩
                      case measure => simp [intOf]; omega
                  · have hp4 : ln9 ≤ pn9 := by have h1 := P4.out; have h2 := HLpn9.out; omega
                    have hp5 : rn9 ≤ pn9 := by have h1 := P5.out; have h2 := HLpn9.out; omega
                    have hp6 : (ln9 : Int) ≤ (pn9 : Int) := by omega
                    have hp7 : (rn9 : Int) ≤ (pn9 : Int) := by omega
                    go_wp2_with fail
                    go_ret
                    exact ⟨rfl, HB0.out.trans (hbw.mono HB0.out.size)⟩
end Lx
end Go.Proofs.YtobdoahdjbmflaaDoor
