/-
  The laws of layer 9: CodeNames.
-/
import Derived.Test.YtidbdmggpljlcaaDoorCdN
import Derived.Test.YtidbdmggpljlcaaDoorCdS
namespace Go.Proofs.YtidbdmggpljlcaaDoor
open Go Go.ChangeShapes Go.WideShapes Go.ChangeAt Go.RowKit

/-- The names' contract. -/
def NmC : Prop := ∀ (op : Int) (w : World), J64 op → Calls Tryd.prog 17 #[.int .i64 op] w fun e w' => e = .returned (.string (nameP op)) ∧ Below w.heap.size w w'
theorem name_out {op : Int} (h : op < 1 ∨ 11 < op) : nameP op = ⟨#[]⟩ := by
  unfold nameP
  rw [if_neg (by omega), if_neg (by omega), if_neg (by omega), if_neg (by omega), if_neg (by omega), if_neg (by omega), if_neg (by omega), if_neg (by omega), if_neg (by omega), if_neg (by omega), if_neg (by omega)]
theorem nat_names : ∀ i j : Fin 12, nameP (i.val : Int) = nameP (j.val : Int) → i = j := by decide
theorem name_inj {a b : Int} (h : nameP a = nameP b) (ha : ¬ (a < 1 ∨ 11 < a)) : a = b := by
  by_cases hb : b < 1 ∨ 11 < b
  · rw [name_out hb] at h
    have h2 := nat_names ⟨a.toNat, by omega⟩ ⟨0, by decide⟩ (by
      show nameP ((a.toNat : Nat) : Int) = nameP ((0 : Nat) : Int)
      rw [show ((a.toNat : Nat) : Int) = a by omega, h]
      exact (name_out (.inl (by decide))).symm)
    have h3 : a.toNat = 0 := congrArg Fin.val h2
    omega
  · have h2 := nat_names ⟨a.toNat, by omega⟩ ⟨b.toNat, by omega⟩ (by
      show nameP ((a.toNat : Nat) : Int) = nameP ((b.toNat : Nat) : Int)
      rw [show ((a.toNat : Nat) : Int) = a by omega, show ((b.toNat : Nat) : Int) = b by omega, h])
    have h3 : a.toNat = b.toNat := congrArg Fin.val h2
    omega
set_option maxRecDepth 100000 in
set_option maxHeartbeats 4000000 in
theorem CodeNames_any (w : World) (HC : NmC) (HA : AwC w) (a b : Int) (ha : J64 a) (hb : J64 b) :
    Calls Tryd.prog 7 #[.int .i64 a, .int .i64 b] w fun e w' => e = .returned (.bool true) ∧ Below w.heap.size w w' := by
  have HAW := hid HA
  have C1 := hid (fun w => HC a w ha)
  have C2 := hid (fun w => HC b w hb)
  have C3 := hid (fun w => Name_any a w)
  have HX := hid (show nameP a ≠ nameP b ∨ a = b ∨ nameP a = ⟨#[]⟩ by
    by_cases h : nameP a = nameP b
    · by_cases h2 : a < 1 ∨ 11 < a
      · exact .inr (.inr (name_out h2))
      · exact .inr (.inl (name_inj h h2))
    · exact .inl h)
  clear HC HA ha hb
  generalize nameP a = x at *
  generalize nameP b = y at *
  go_enter Tryd.func7, Tryd.ntmps7
  go_wp2_with fail
  refine (C1.out _).mono ?_
  rintro e w2 ⟨rfl, hb2⟩
  have HB2 := hid hb2
  clear hb2
  go_wp2_with fail
  refine (C2.out _).mono ?_
  rintro e w3 ⟨rfl, hb3⟩
  have HB3 := hid (HB2.out.trans (hb3.mono HB2.out.size))
  clear hb3
  go_wp2_with fail
  refine (C3.out _).mono ?_
  rintro e w4 ⟨rfl, hb4⟩
  have HB4 := hid (HB3.out.trans (hb4.mono HB3.out.size))
  clear hb4
  by_cases hxy : x = y
  · subst hxy
    by_cases hab : a = b
    · subst hab
      clear HX
      go_wp2_with fail
      refine (HAW.out _ (by first | exact Below.refl _ _ | exact HB.out | exact HB1.out | exact HB2.out | exact HB3.out | exact HB4.out | exact HB5.out | exact HB6.out | exact HB7.out | exact HB8.out | exact HB9.out | exact HB10.out | exact HB11.out | exact HBr.out | exact HB11.out.trans (HBr.out.mono HB11.out.size))).mono ?_
      rintro e w5 ⟨rfl, hb5⟩
      have HB5 := hid (HB4.out.trans (hb5.mono HB4.out.size))
      clear hb5
      go_wp2
      go_ret
      exact ⟨rfl, HB5.out⟩
    · have hx := HX.out.resolve_left (fun h => h rfl) |>.resolve_left hab
      subst hx
      have d1 : (a == b) = false := by simpa using hab
      clear HX hab
      go_wp2_with fail
      refine (HAW.out _ (by first | exact Below.refl _ _ | exact HB.out | exact HB1.out | exact HB2.out | exact HB3.out | exact HB4.out | exact HB5.out | exact HB6.out | exact HB7.out | exact HB8.out | exact HB9.out | exact HB10.out | exact HB11.out | exact HBr.out | exact HB11.out.trans (HBr.out.mono HB11.out.size))).mono ?_
      rintro e w5 ⟨rfl, hb5⟩
      have HB5 := hid (HB4.out.trans (hb5.mono HB4.out.size))
      clear hb5
      go_wp2
      go_ret
      exact ⟨rfl, HB5.out⟩
  · have d1 : ¬ x.toList = y.toList := fun e => hxy (by
      rw [ByteArray.toList_eq, ByteArray.toList_eq] at e
      exact ByteArray.ext (Array.toList_inj.1 e))
    clear HX
    go_wp2_with fail
    refine (HAW.out _ (by first | exact Below.refl _ _ | exact HB.out | exact HB1.out | exact HB2.out | exact HB3.out | exact HB4.out | exact HB5.out | exact HB6.out | exact HB7.out | exact HB8.out | exact HB9.out | exact HB10.out | exact HB11.out | exact HBr.out | exact HB11.out.trans (HBr.out.mono HB11.out.size))).mono ?_
    rintro e w5 ⟨rfl, hb5⟩
    have HB5 := hid (HB4.out.trans (hb5.mono HB4.out.size))
    clear hb5
    go_wp2
    go_ret
    exact ⟨rfl, HB5.out⟩
end Go.Proofs.YtidbdmggpljlcaaDoor
