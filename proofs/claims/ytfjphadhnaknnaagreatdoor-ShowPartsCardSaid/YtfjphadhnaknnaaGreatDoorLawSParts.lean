/-
  Walk of the law ShowParts.
-/
import Derived.Test.YtfjphadhnaknnaaGreatDoorKE
import Derived.Test.YtfjphadhnaknnaaGreatDoorK3
import Derived.Test.YtfjphadhnaknnaaGreatDoorLawBack
namespace Go.Proofs.YtfjphadhnaknnaaGreatDoor
open Go.RowKit Go.Sort
namespace Lx
set_option maxRecDepth 100000
set_option maxHeartbeats 4000000 in
/-- A text that stands in another one is found. -/
theorem lwithin_any (s t : ByteArray) (a b : List UInt8) (w : World) (hs : s.data.toList = a ++ t.data.toList ++ b) (hl : s.size ≤ 1000000) :
    Calls Tryz.prog 20 #[.string s, .string t] w fun e w' => e = .returned (.bool true) ∧ w = w' := by
  have hsz : s.size = a.length + t.size + b.length := by
    have h1 : s.data.toList.length = s.size := by simp
    have h2 : t.data.toList.length = t.size := by simp
    rw [← h1, hs]
    simp only [List.length_append, h2]
  have hat : a.length + t.size ≤ s.size := by omega
  have HX := Lib.hid (show (s.extract a.length (a.length + t.size)).toList = t.toList from by
    have e1 : ∀ Z : ByteArray, Z.toList = Z.data.toList := fun Z => by obtain ⟨d⟩ := Z; obtain ⟨l⟩ := d; exact ByteArray.toList_mk l
    have h2 : t.data.toList.length = t.size := by simp
    rw [e1, e1, ByteArray.data_extract, Array.toList_extract, hs]
    simp [List.extract_eq_take_drop, h2])
  obtain ⟨M, hM⟩ : ∃ M, M = a.length := ⟨_, rfl⟩
  rw [← hM] at hat HX
  clear hs hsz hM
  go_enter Tryz.func20, Tryz.ntmps20
  go_wp2_with fail
  go_loop [5] (fun x => ∃ i : Nat, i ≤ M ∧ x = .int .i64 i) (fun x => s.size - (intOf x).toNat)
  case atStart => exact ⟨0, by omega, rfl⟩
  case round =>
    obtain ⟨i, hi, rfl⟩ := hrel
    have h1 : (i : Int) + (t.size : Int) ≤ (s.size : Int) := by omega
    have h2 : (0 : Int) ≤ (i : Int) := by omega
    have h3 : (i : Int) ≤ (i : Int) + (t.size : Int) := by omega
    by_cases hq : (s.extract i (i + t.size)).toList = t.toList
    · go_wp2_with fail
      go_ret
      exact ⟨rfl, rfl⟩
    · have hne : i < M := by
        rcases Nat.lt_or_ge i M with h | h
        · exact h
        · obtain rfl : i = M := by omega
          exact absurd HX.out hq
      have hq2 : ((s.extract i (i + t.size)).toList == t.toList) = false := beq_eq_false_iff_ne.2 hq
      go_wp2_with fail
      go_round
      case rel => exact ⟨i + 1, by omega, by go_num⟩
      case measure => simp [intOf]; omega
set_option maxHeartbeats 8000000 in
theorem sparts_any (t : Tr) (A : Option Addr) (c : Nat) (w : World) (hT : TIn w Any t A) (hg : Tabs w) :
    Calls Tryz.prog 6 #[tv t A c] w fun e w' => e = .returned (.bool true) ∧ Below w.heap.size w w' := by
  have HSM := Lib.hid (fun (W : World) (h : TIn W Any t A) => tsmall_any t A c 300 W h (by omega) (by omega))
  have HM := Lib.hid (fun (W : World) (h : TIn W Any t A) => rMay_any t A c W h)
  have HF := Lib.hid (fun (W : World) (h : Tabs W) => fix4_any W h)
  have hb0 := below_alloc1 w (.cells #[.int .i64 t.kind, .string t.name, .int .i64 t.n, .int .i64 t.place, .slice A t.parts.length (capF t.parts.length c)] 24)
  have B1 := Bt.new (c := c) hT
  have hg := hg.below hb0
  obtain ⟨W2, hW2⟩ : ∃ W, W = w.alloc (.cells #[.int .i64 t.kind, .string t.name, .int .i64 t.n, .int .i64 t.place, .slice A t.parts.length (capF t.parts.length c)] 24) := ⟨_, rfl⟩
  clear hT
  unfold tv
  go_enter Tryz.func6, Tryz.ntmps6
  go_upto_region 1 with fail
  rw [← hW2]
  rw [← hW2] at B1 hb0 hg
  clear hW2
  go_wp2_with fail
  refine (HF.out _ hg).mono ?_
  rintro e w3 ⟨rfl, hb3⟩
  replace hb0 := hb0.trans (hb3.mono hb0.size)
  replace hg := hg.below hb3
  replace B1 := B1.step hb3
  clear hb3
  obtain ⟨⟨x0, x1, x2, x3, x4⟩, _⟩ := B1.x.five
  go_wp2_with fail
  refine (HSM.out w3 B1.t).mono ?_
  rintro e w4 ⟨rfl, hb4⟩
  replace hb0 := hb0.trans (hb4.mono hb0.size)
  replace hg := hg.below hb4
  replace B1 := B1.step hb4
  clear hb4 x0 x1 x2 x3 x4
  cases q1 : decide (0 ≤ fewT t 300 200) with
  | false =>
    go_wp2_with fail
    refine (HF.out _ hg).mono ?_
    rintro e wz ⟨rfl, hbz⟩
    go_wp2_with fail
    go_ret
    exact ⟨rfl, hb0.trans (hbz.mono hb0.size)⟩
  | true =>
    obtain ⟨⟨x0, x1, x2, x3, x4⟩, _⟩ := B1.x.five
    go_wp2_with fail
    refine (HM.out w4 B1.t).mono ?_
    rintro e w5 ⟨rfl, hb5⟩
    replace hb0 := hb0.trans (hb5.mono hb0.size)
    replace hg := hg.below hb5
    replace B1 := B1.step hb5
    clear hb5 x0 x1 x2 x3 x4
    cases q2 : mayV t with
    | false =>
      go_wp2_with fail
      refine (HF.out _ hg).mono ?_
      rintro e wz ⟨rfl, hbz⟩
      go_wp2_with fail
      go_ret
      exact ⟨rfl, hb0.trans (hbz.mono hb0.size)⟩
    | true =>
      obtain ⟨f1, f2⟩ := few_ok q1
      obtain ⟨l1, l2, l3⟩ := may_len q2 f1
      obtain ⟨S, hS⟩ : ∃ S : ByteArray, S = ⟨(textT t).toArray⟩ := ⟨_, rfl⟩
      have hSl : S.data.toList = showT t := by rw [hS, data_mk, l2]
      have hss : S.size ≤ 15000 := by
        have hsz : S.data.toList.length = S.size := by simp
        rw [← hsz, hSl]; omega
      have hne : S.toList.isEmpty = false := by
        have e1 : S.toList = S.data.toList := by obtain ⟨d⟩ := S; obtain ⟨l⟩ := d; exact ByteArray.toList_mk l
        rw [e1, hSl, ← l2]
        cases h : textT t with
        | nil => exact absurd h l3
        | cons x r => rfl
      have hne2 : (!S.toList.isEmpty) = true := by rw [hne]; rfl
      have HTX : ∀ W, TIn W Any t A → Tabs W → Calls Tryz.prog 14 #[tv t A c] W fun e W' => e = .returned (.string S) ∧ Below W.heap.size W W' := fun W h1 h2 => by
        rw [hS]
        exact stext_any t A c W h1 h2.sg h2.pw (by omega)
      have HPT : ∀ (p : Tr), p ∈ t.parts → ∃ U : ByteArray, U.size < S.size ∧ U.size ≤ 15000 ∧ (U.toList = [] ∨ (∃ a b, S.data.toList = a ++ U.data.toList ++ b)) ∧ ∀ A' c' W, TIn W Any p A' → Tabs W → Calls Tryz.prog 14 #[tv p A' c'] W fun e W' => e = .returned (.string U) ∧ Below W.heap.size W W' := fun p hp => by
        obtain ⟨p1, p2, p3⟩ := parts_ok q2 hp
        have hU : ((⟨(textT p).toArray⟩ : ByteArray)).size = (textT p).length := by rw [Lib.size_eq, data_mk]
        have hSz : S.size = (showT t).length := by rw [Lib.size_eq, hSl]
        refine ⟨⟨(textT p).toArray⟩, by omega, by omega, ?_, fun A' c' W h1 h2 => ?_⟩
        · rcases p2 with h | ⟨a, b, h, _⟩
          · left; rw [ByteArray.toList_mk]; exact h
          · right; exact ⟨a, b, by rw [hSl, data_mk]; exact h⟩
        · have hpl : (showT p).length ≤ 1000000 := by
            obtain ⟨k, s, n, a, l⟩ := t
            simp only [mayV, Bool.and_eq_true, decide_eq_true_eq] at q2
            have := show_len p (mayL_memT k n l 0 (may_inv q2.2).2.2.2 p hp)
            omega
          exact stext_any p A' c' W h1 h2.sg h2.pw hpl
      have HTX := Lib.hid (HTX _ B1.t hg)
      have HPT := Lib.hid HPT
      have HWI := Lib.hid (fun (U : ByteArray) (a b : List UInt8) (W : World) (h : S.data.toList = a ++ U.data.toList ++ b) => lwithin_any S U a b W h (by omega))
      obtain ⟨⟨x0, x1, x2, x3, x4⟩, _⟩ := B1.x.five
      unfold tv at HTX
      obtain ⟨M, hM⟩ : ∃ M, M = t.parts.length := ⟨_, rfl⟩
      have hMa : M ≤ t.parts.length := by omega
      have hMb : t.parts.length ≤ M := by omega
      rw [← hM] at HTX x4
      have hM9 : M ≤ 300 := by
        rw [hM]
        obtain ⟨k, s, n, a, l⟩ := t
        rw [sizeT] at f1
        have := sizeL_len l
        show l.length ≤ 300
        omega
      have HMM := Lib.hid hM
      clear q1 q2 f1 f2 l1 l2 l3 hS hSl HF HM HSM hM
      go_wp2_with fail
      refine HTX.out.mono ?_
      rintro e w6 ⟨rfl, hb6⟩
      replace hb0 := hb0.trans (hb6.mono hb0.size)
      replace hg := hg.below hb6
      replace B1 := B1.step hb6
      clear hb6 x0 x1 x2 x3 x4 HTX
      go_wp2_with fail
      go_loopw [4] (fun x wr => ∃ i : Nat, i ≤ M ∧ x = .int .i64 i ∧ Below w6.heap.size w6 wr) (fun x _ => M - (intOf x).toNat)
      case atStart => exact ⟨0, by omega, rfl, Below.refl _ _⟩
      case round =>
        obtain ⟨i, hi, rfl, hbw⟩ := hrel
        have hgr := hg.below hbw
        have Br := B1.step hbw
        have x4 := Br.x.cell 4
        simp at x4
        rw [← HMM.out] at x4
        by_cases hlt : i < M
        · have hit : i < t.parts.length := by omega
          obtain ⟨g, o, A', c', ⟨rfl, _⟩, k0, k1, k2, k3, k4, kt⟩ := Br.t.part i hit
          obtain ⟨U, u1, u2, u3, u4⟩ := HPT.out (t.parts[i]'hit) (List.getElem_mem hit)
          have HU := Lib.hid (u4 A' c' wr kt hgr)
          obtain ⟨p, hp⟩ : ∃ p, p = t.parts[i]'hit := ⟨_, rfl⟩
          rw [← hp] at k0 k1 k2 k3 k4 HU
          unfold tv at HU
          obtain ⟨kk, hk⟩ : ∃ kk, kk = p.kind := ⟨_, rfl⟩
          obtain ⟨ss, hss'⟩ : ∃ ss, ss = p.name := ⟨_, rfl⟩
          obtain ⟨nn, hn⟩ : ∃ nn, nn = p.n := ⟨_, rfl⟩
          obtain ⟨aa, ha⟩ : ∃ aa, aa = p.place := ⟨_, rfl⟩
          obtain ⟨mm, hmm⟩ : ∃ mm, mm = p.parts.length := ⟨_, rfl⟩
          rw [← hk] at k0
          rw [← hss'] at k1
          rw [← hn] at k2
          rw [← ha] at k3
          rw [← hmm] at k4
          rw [← hk, ← hss', ← hn, ← ha, ← hmm] at HU
          clear u4 hp hk hss' hn ha hmm kt hit
          have v1 : ¬ (S.size : Int) ≤ (U.size : Int) := by omega
          go_wp2_with fail
          refine HU.out.mono ?_
          rintro e w7 ⟨rfl, hb7⟩
          have hbz := hbw.trans (hb7.mono hbw.size)
          clear k0 k1 k2 k3 k4 x4 HU
          rcases u3 with hu | ⟨a, b, hab⟩
          · have hu1 : U.toList.isEmpty = true := by rw [hu]; rfl
            go_wp2_with fail
            go_roundw
            case rel => exact ⟨i + 1, by omega, by go_num, hbz⟩
            case measure => simp [intOf]; omega
          · cases hu : U.toList.isEmpty with
            | true =>
              go_wp2_with fail
              go_roundw
              case rel => exact ⟨i + 1, by omega, by go_num, hbz⟩
              case measure => simp [intOf]; omega
            | false =>
              have HW := Lib.hid (HWI.out U a b w7 hab)
              clear hab
              go_wp2_with fail
              refine HW.out.mono ?_
              rintro e w8 ⟨rfl, rfl⟩
              go_wp2_with fail
              go_roundw
              case rel => exact ⟨i + 1, by omega, by go_num, hbz⟩
              case measure => simp [intOf]; omega
        · obtain rfl : i = M := by omega
          go_wp2_with fail
          go_ret
          exact ⟨rfl, hb0.trans (hbw.mono hb0.size)⟩
end Lx
end Go.Proofs.YtfjphadhnaknnaaGreatDoor
