/-
  The laws of layer 9: CodeHeights, by the contract of its helper that collects what is told.
-/
import Derived.Test.YtidbdmggpljlcaaDoorCdX
import Derived.Test.YtidbdmggpljlcaaDoorCdS
import Derived.Test.YtidbdmggpljlcaaDoorPick
namespace Go.Proofs.YtidbdmggpljlcaaDoor
open Go Go.ChangeShapes Go.WideShapes Go.ChangeAt Go.RowKit

theorem run_len {ls : List Ins} {s : Int} : ∀ j, (runP ls s j).1.length ≤ j
  | 0 => Nat.le_refl 0
  | j + 1 => by
    have ih := run_len (ls := ls) (s := s) j
    rw [runP]
    cases hr : runP ls s j with
    | mk h o =>
      rw [hr] at ih
      simp only at ih
      cases o with
      | some e => simp only; omega
      | none =>
        simp only
        split
        · simp only [List.length_append, List.length_cons, List.length_nil]; omega
        · simp only; omega
theorem height_len (ls : List Ins) (s : Int) : (heightP ls s).1.length ≤ 32 := by
  unfold heightP
  split
  · simp
  · rename_i h
    have h1 := run_len (ls := ls) (s := s) ls.length
    split <;> rename_i hr <;> rw [hr] at h1 <;> simp only at h1 ⊢ <;> omega
/-- The first numbers. -/
def upI (k : Nat) : List Int := (List.range k).map Int.ofNat
theorem upI_get {k j : Nat} (h : j < k) : (upI k)[j]? = some (j : Int) := by simp [upI, h]
/-- What the law's helper collects. -/
def HgP (w : World) (ls : List Ins) (m : Int) (e : Ending) (w' : World) : Prop :=
  ∃ (k : Nat) (a1 : Option Addr) (c1 : Nat) (a2 : Option Addr) (c2 : Nat), k = min m.toNat (heightP ls 8).1.length ∧ e = .returned (.tuple #[.slice a1 k c1, .slice a2 k c2]) ∧
    LiI w' a1 (upI k) ∧ LiI w' a2 ((heightP ls 8).1.take k) ∧ k ≤ c1 ∧ k ≤ c2 ∧ Below w.heap.size w w'
def HgC (w0 : World) : Prop := ∀ (ls : List Ins) (ad : Option Addr) (n c : Nat) (m : Int) (w : World), Below w0.heap.size w0 w → (∀ x ∈ ls, InsOk x) → RwI w w.heap.size ad ls → n = ls.length → n ≤ c → c ≤ 9223372036854775807 → n ≤ 60 → 0 ≤ m → m ≤ 99 →
  Calls Tryd.prog 14 #[.slice ad n c, .int .i64 m] w (HgP w ls m)
set_option maxRecDepth 100000 in
set_option maxHeartbeats 8000000 in
theorem CodeHeights_any (w : World) (HC : HgC w) (HA : AwC w) (ls : List Ins) (ad : Option Addr) (n c : Nat) (s : Int) (hok : ∀ x ∈ ls, InsOk x) (hs : J64 s) (hr : RwI w w.heap.size ad ls) (hn : n = ls.length) (hc : n ≤ c) (hc2 : c ≤ 9223372036854775807) :
    Calls Tryd.prog 4 #[.slice ad n c, .int .i64 s] w fun e w' => e = .returned (.bool true) ∧ Below w.heap.size w w' := by
  have HAW := hid HA
  have HCC := hid HC
  have HOK := hid hok
  have HR := hid hr
  have HN := hid hn
  have HS := hid hs
  have HG := hid (fun w => great_any ad n c w)
  have hcc1 := hc
  have hcc2 := hc2
  clear hok hr hn hc hc2 HC HA hs
  by_cases hg : 60 < n
  · have d1 : decide (60 < n) = true := decide_eq_true hg
    rw [d1] at HG
    clear hg
    go_enter Tryd.func4, Tryd.ntmps4
    go_wp2_with fail
    refine (HG.out _).mono ?_
    rintro e w2 ⟨rfl, rfl⟩
    go_wp2_with fail
    refine (HAW.out _ (by first | exact Below.refl _ _ | exact HB.out | exact HB1.out | exact HB2.out | exact HB3.out | exact HB4.out | exact HB5.out | exact HB6.out | exact HB7.out | exact HB8.out | exact HB9.out | exact HB10.out | exact HB11.out | exact HBr.out | exact HB11.out.trans (HBr.out.mono HB11.out.size))).mono ?_
    rintro e w3 ⟨rfl, hb3⟩
    have HB3 := hid hb3
    clear hb3
    go_wp2
    go_ret
    exact ⟨rfl, HB3.out⟩
  have d1 : decide (60 < n) = false := decide_eq_false hg
  rw [d1] at HG
  have hn60 : n ≤ 60 := by omega
  clear hg d1
  go_enter Tryd.func4, Tryd.ntmps4
  go_wp2_with fail
  refine (HG.out _).mono ?_
  rintro e w2 ⟨rfl, rfl⟩
  go_wp2_with fail
  refine (Height_any ls 8 _ n c w HR.out HN.out ⟨hcc1, hcc2⟩).mono ?_
  rintro e w7 ⟨a7, d7, rfl, hE⟩
  have HE7 := hid hE
  have HB7 := hid hE.2.1
  have HR7 := hid (HR.out.on hE.2.1)
  have hle := height_len ls 8
  have C1 := hid (fun (m : Int) (W : World) (hb : Below w.heap.size w W) (hr : RwI W W.heap.size ad ls) => HCC.out ls ad n c m W hb HOK.out hr HN.out hcc1 hcc2 hn60)
  unfold HgP at C1
  clear hE HG HCC HOK
  obtain ⟨h, wh, er, hht⟩ : ∃ h wh er, heightP ls 8 = (h, wh, er) := ⟨_, _, _, rfl⟩
  rw [hht] at HE7 hle C1 ⊢
  clear hht
  simp only at HE7 hle C1 ⊢
  obtain ⟨m, hm⟩ : ∃ m, m = h.length := ⟨_, rfl⟩
  rw [← hm] at HE7 hle C1 ⊢
  have HM := hid hm
  clear hm
  have hd7 := own_cap HE7.out.1
  have hd8 := own_capmax HE7.out.1
  go_wp2_with fail
  refine (C1.out 99 w7 HB7.out HR7.out (by decide) (by decide)).mono ?_
  rintro e w8 ⟨k1, a1, c1, a2, c2, hk1, rfl, hl1, hl2, hq1, hq2, hb8⟩
  obtain rfl : k1 = m := by rw [hk1]; omega
  clear hk1
  rw [List.take_of_length_le (by have := HM.out; omega)] at hl2
  have HL1 := hid hl1
  have HL2 := hid hl2
  have HB8 := hid (HB7.out.trans (hb8.mono HB7.out.size))
  have HR8 := hid (HR7.out.on hb8)
  have HE8 := hid (HE7.out.on hb8)
  clear hl1 hl2 hb8 HE7 HR7 HB7
  have wk : IntKind.i64.wrap ((k1 : Int) + 1) = (k1 : Int) + 1 := IntWalk.i64_in _ (by omega)
  go_wp2_with fail
  refine (Pick_any s ((k1 : Int) + 1) _ HS.out (by omega) (by omega)).mono ?_
  rintro e w9 ⟨rfl, rfl⟩
  have h0 := Int.emod_nonneg s (show ((k1 : Int) + 1) ≠ 0 by omega)
  have h1 := Int.emod_lt_of_pos s (show 0 < (k1 : Int) + 1 by omega)
  generalize s % ((k1 : Int) + 1) = kk at *
  obtain ⟨k, rfl⟩ : ∃ k : Nat, kk = (k : Int) := ⟨kk.toNat, by omega⟩
  have hkk : k ≤ k1 := by omega
  clear h0 h1 wk
  go_wp2_with fail
  refine (C1.out (k : Int) w8 HB8.out HR8.out (by omega) (by omega)).mono ?_
  rintro e w9 ⟨k2, a3, c3, a4, c4, hk2, rfl, hl3, hl4, hq3, hq4, hb9⟩
  obtain rfl : k2 = k := by rw [hk2]; simp; omega
  have HL1b := hid (HL1.out.below hb9)
  have HL2b := hid (HL2.out.below hb9)
  have HL4 := hid hl4
  have HB9 := hid (HB8.out.trans (hb9.mono HB8.out.size))
  have HE9 := hid (HE8.out.on hb9)
  clear hk2 hl3 hl4 hb9 HL1 HL2 HB8 HE8 C1
  go_wp2_with fail
  refine (SameI_any w9 a2 a7 c2 d7 k1 h HM.out (by omega) HL2b.out HE9.out.lies hq2 hd7).mono ?_
  rintro e w10 ⟨rfl, hb10⟩
  have HL1c := hid (HL1b.out.below hb10)
  have HL4c := hid (HL4.out.below hb10)
  have HB10 := hid (HB9.out.trans (hb10.mono HB9.out.size))
  have HE10 := hid (HE9.out.on hb10)
  clear hb10 HL1b HL2b HL4 HE9 HB9
  go_wp2_with fail
  refine (SameI_any w10 a4 a7 c4 d7 k2 (h.take k2) (by rw [List.length_take, ← HM.out]; omega) (by omega) HL4c.out (HE10.out.lies.take k2) hq4 (by omega)).mono ?_
  rintro e w11 ⟨rfl, hb11⟩
  have HL1d := hid (HL1c.out.below hb11)
  have HB11 := hid (HB10.out.trans (hb11.mono HB10.out.size))
  clear hb11 HL1c HL4c HE10 HB10
  go_wp2_with fail
  go_loopw [13] (fun iv wr => ∃ i : Nat, i ≤ k1 ∧ iv = .int .i64 i ∧ RowKit.Hid (Below w11.heap.size w11 wr)) (fun iv _ => k1 - (intOf iv).toNat)
  case atStart => exact ⟨0, by omega, rfl, hid (Below.refl _ _)⟩
  case round =>
    obtain ⟨i, hi, rfl, HBr⟩ := hrel
    by_cases hin : i < k1
    · obtain ⟨g, rfl, c1'⟩ := (HL1d.out.below HBr.out) i _ (upI_get hin)
      go_wp2
      go_roundw
      case rel => exact ⟨i + 1, by omega, by go_num, HBr⟩
      case measure => simp [intOf]; omega
    · obtain rfl : i = k1 := by omega
      clear hin
      go_wp2_with fail
      refine (HAW.out _ (by first | exact Below.refl _ _ | exact HB.out | exact HB1.out | exact HB2.out | exact HB3.out | exact HB4.out | exact HB5.out | exact HB6.out | exact HB7.out | exact HB8.out | exact HB9.out | exact HB10.out | exact HB11.out | exact HBr.out | exact HB11.out.trans (HBr.out.mono HB11.out.size))).mono ?_
      rintro e w12 ⟨rfl, hb12⟩
      have HB12 := hid (HB11.out.trans ((HBr.out.trans (hb12.mono HBr.out.size)).mono HB11.out.size))
      clear hb12
      go_wp2
      go_ret
      exact ⟨rfl, HB12.out⟩
end Go.Proofs.YtidbdmggpljlcaaDoor
