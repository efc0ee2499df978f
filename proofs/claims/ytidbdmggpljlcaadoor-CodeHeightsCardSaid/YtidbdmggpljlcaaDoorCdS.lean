/-
  The laws of layer 9: what they ask of Check; great; awake; CodeMore.
-/
import Derived.Test.YtidbdmggpljlcaaDoorCdR
namespace Go.Proofs.YtidbdmggpljlcaaDoor
open Go Go.ChangeShapes Go.WideShapes Go.ChangeAt Go.RowKit

/-- What Check answers. -/
def CkP (w : World) (ls : List Ins) (s : Int) (e : Ending) (w' : World) : Prop :=
  e = .returned (.tuple #[.int .i64 (checkP ls s).1, .int .i64 (checkP ls s).2.1, .int .i64 (checkP ls s).2.2]) ∧ Below w.heap.size w w'
/-- Check's contract. -/
def CkC (w0 : World) : Prop := ∀ (ls : List Ins) (s : Int) (ad : Option Addr) (n c : Nat) (w : World), Below w0.heap.size w0 w → (∀ x ∈ ls, InsOk x) → J64 s → RwI w w.heap.size ad ls → n = ls.length → n ≤ c → c ≤ 9223372036854775807 →
  Calls Tryd.prog 11 #[.slice ad n c, .int .i64 s] w (CkP w ls s)
def AwC (w0 : World) : Prop := ∀ w : World, Below w0.heap.size w0 w → Calls Tryd.prog 10 #[] w fun e w' => e = .returned (.bool true) ∧ Below w.heap.size w w'
set_option maxRecDepth 100000 in
theorem great_any (ad : Option Addr) (n c : Nat) (w : World) : Calls Tryd.prog 9 #[.slice ad n c] w fun e w' => e = .returned (.bool (decide (60 < n))) ∧ w = w' := by
  go_enter Tryd.func9, Tryd.ntmps9
  go_wp2
  go_ret
  exact ⟨ret_bool (by simp; omega), rfl⟩
set_option maxRecDepth 100000 in
set_option maxHeartbeats 2000000 in
theorem CodeMore_any (w : World) (HC : CkC w) (HA : AwC w) (ls : List Ins) (ad : Option Addr) (n c : Nat) (s m : Int) (hok : ∀ x ∈ ls, InsOk x) (hs : J64 s) (hm : J64 m) (hr : RwI w w.heap.size ad ls) (hn : n = ls.length) (hc : n ≤ c) (hc2 : c ≤ 9223372036854775807) :
    Calls Tryd.prog 8 #[.slice ad n c, .int .i64 s, .int .i64 m] w fun e w' => e = .returned (.bool true) ∧ Below w.heap.size w w' := by
  have HCC := hid HC
  have HAW := hid HA
  have HOK := hid hok
  have HS := hid hs
  have HR := hid hr
  have HN := hid hn
  have HG := hid (fun w => great_any ad n c w)
  have hcc1 := hc
  have hcc2 := hc2
  clear hok hr hn hc hc2 HC HA
  by_cases hg : 60 < n
  · have d1 : decide (60 < n) = true := decide_eq_true hg
    rw [d1] at HG
    clear hg
    go_enter Tryd.func8, Tryd.ntmps8
    go_wp2_with fail
    refine (HG.out _).mono ?_
    rintro e w2 ⟨rfl, rfl⟩
    go_wp2_with fail
    refine (HAW.out _ (by first | exact Below.refl _ _ | exact HB.out | exact HB1.out | exact HB2.out | exact HB3.out | exact HB4.out | exact HB5.out | exact HB6.out | exact HB7.out | exact HB8.out | exact HB9.out | exact HB10.out | exact HB11.out | exact HBr.out | exact HB11.out.trans (HBr.out.mono HB11.out.size))).mono ?_
    rintro e w3 ⟨rfl, hb3⟩
    have HB3 := hid hb3
    clear hb3
    go_wp2
    go_ret
    exact ⟨rfl, HB3.out⟩
  have d1 : decide (60 < n) = false := decide_eq_false hg
  rw [d1] at HG
  by_cases h1 : s < 0 ∨ 1000 < s ∨ m < 0 ∨ 1000 < m
  · clear hg d1
    rcases (show s < 0 ∨ (0 ≤ s ∧ 1000 < s) ∨ (0 ≤ s ∧ s ≤ 1000 ∧ m < 0) ∨ (0 ≤ s ∧ s ≤ 1000 ∧ 0 ≤ m ∧ 1000 < m) by omega) with q | ⟨q1, q2⟩ | ⟨q1, q2, q3⟩ | ⟨q1, q2, q3, q4⟩
    all_goals
      clear h1
      go_enter Tryd.func8, Tryd.ntmps8
      go_wp2_with fail
      refine (HG.out _).mono ?_
      rintro e w2 ⟨rfl, rfl⟩
      go_wp2_with fail
      refine (HAW.out _ (by first | exact Below.refl _ _ | exact HB.out | exact HB1.out | exact HB2.out | exact HB3.out | exact HB4.out | exact HB5.out | exact HB6.out | exact HB7.out | exact HB8.out | exact HB9.out | exact HB10.out | exact HB11.out | exact HBr.out | exact HB11.out.trans (HBr.out.mono HB11.out.size))).mono ?_
      rintro e w3 ⟨rfl, hb3⟩
      have HB3 := hid hb3
      clear hb3
      go_wp2
      go_ret
      exact ⟨rfl, HB3.out⟩
  have q1 : 0 ≤ s := by omega
  have q2 : s ≤ 1000 := by omega
  have q3 : 0 ≤ m := by omega
  have q4 : m ≤ 1000 := by omega
  have wsm : IntKind.i64.wrap (s + m) = s + m := IntWalk.i64_in _ (by omega)
  have C1 := hid (HCC.out ls s ad n c w (Below.refl _ _) HOK.out hs HR.out HN.out hcc1 hcc2)
  have C2 := hid (fun W (hb : Below w.heap.size w W) (hro : RwI W W.heap.size ad ls) => HCC.out ls (s + m) ad n c W hb HOK.out ⟨by omega, by omega⟩ hro HN.out hcc1 hcc2)
  have HCM := hid (check_more (ls := ls) (s := s) (t := s + m) (by omega))
  unfold CkP at C1 C2
  generalize checkP ls s = k1 at *
  generalize checkP ls (s + m) = k2 at *
  obtain ⟨m1, p1, e1⟩ := k1
  obtain ⟨m2, p2, e2⟩ := k2
  clear h1 hg d1 hs hm
  go_enter Tryd.func8, Tryd.ntmps8
  go_wp2_with fail
  refine (HG.out _).mono ?_
  rintro e w2 ⟨rfl, rfl⟩
  go_wp2_with fail
  refine C1.out.mono ?_
  rintro e w3 ⟨rfl, hb3⟩
  have HB3 := hid hb3
  have HR3 := hid (HR.out.on hb3)
  clear hb3
  go_wp2_with fail
  refine (C2.out _ HB3.out HR3.out).mono ?_
  rintro e w4 ⟨rfl, hb4⟩
  have HB4 := hid (HB3.out.trans (hb4.mono HB3.out.size))
  clear hb4 C1 C2 HB3 HR3
  by_cases he : e1 = 0
  · obtain ⟨r1, r2⟩ := HCM.out he
    subst he r1 r2
    have d2 : (m2 == m2) = true := by simp
    clear HCM
    go_wp2_with fail
    refine (HAW.out _ (by first | exact Below.refl _ _ | exact HB.out | exact HB1.out | exact HB2.out | exact HB3.out | exact HB4.out | exact HB5.out | exact HB6.out | exact HB7.out | exact HB8.out | exact HB9.out | exact HB10.out | exact HB11.out | exact HBr.out | exact HB11.out.trans (HBr.out.mono HB11.out.size))).mono ?_
    rintro e w5 ⟨rfl, hb5⟩
    have HB5 := hid (HB4.out.trans (hb5.mono HB4.out.size))
    clear hb5
    go_wp2
    go_ret
    exact ⟨rfl, HB5.out⟩
  · have d2 : (e1 != 0) = true := by simpa using he
    clear HCM he
    go_wp2_with fail
    refine (HAW.out _ (by first | exact Below.refl _ _ | exact HB.out | exact HB1.out | exact HB2.out | exact HB3.out | exact HB4.out | exact HB5.out | exact HB6.out | exact HB7.out | exact HB8.out | exact HB9.out | exact HB10.out | exact HB11.out | exact HBr.out | exact HB11.out.trans (HBr.out.mono HB11.out.size))).mono ?_
    rintro e w5 ⟨rfl, hb5⟩
    have HB5 := hid (HB4.out.trans (hb5.mono HB4.out.size))
    clear hb5
    go_wp2
    go_ret
    exact ⟨rfl, HB5.out⟩
end Go.Proofs.YtidbdmggpljlcaaDoor
