/-
  The plain twin's Name.
-/
import Derived.Test.YtidbdmggpljlcaaDoorCdA
namespace Go.Proofs.YtidbdmggpljlcaaDoor
open Go Go.ChangeShapes Go.WideShapes Go.ChangeAt Go.RowKit

/-- An operation's name. -/
def nameP (op : Int) : ByteArray :=
  if op = 1 then ⟨#[112, 117, 115, 104]⟩
  else if op = 2 then ⟨#[97, 114, 103]⟩
  else if op = 3 then ⟨#[108, 111, 97, 100]⟩
  else if op = 4 then ⟨#[115, 116, 111, 114, 101]⟩
  else if op = 5 then ⟨#[97, 100, 100]⟩
  else if op = 6 then ⟨#[110, 101, 103]⟩
  else if op = 7 then ⟨#[115, 107, 105, 112]⟩
  else if op = 8 then ⟨#[99, 97, 108, 108]⟩
  else if op = 9 then ⟨#[112, 117, 116]⟩
  else if op = 10 then ⟨#[100, 114, 111, 112]⟩
  else if op = 11 then ⟨#[114, 101, 116, 117, 114, 110]⟩
  else ⟨#[]⟩
set_option maxRecDepth 100000 in
set_option maxHeartbeats 4000000 in
theorem Name_any (op : Int) (w : World) : Calls Tryd.prog 18 #[.int .i64 op] w fun e w' => e = .returned (.string (nameP op)) ∧ Below w.heap.size w w' := by
  by_cases h0 : op < 1
  · have hz : nameP op = ⟨#[]⟩ := by
      unfold nameP
      rw [if_neg (by omega), if_neg (by omega), if_neg (by omega), if_neg (by omega), if_neg (by omega), if_neg (by omega), if_neg (by omega), if_neg (by omega), if_neg (by omega), if_neg (by omega), if_neg (by omega)]
    have HZ := hid hz
    clear hz
    go_enter Tryd.func18, Tryd.ntmps18
    go_wp2
    go_ret
    exact ⟨by rw [HZ.out]; rfl, Below.refl _ _⟩
  by_cases h1 : 11 < op
  · have hz : nameP op = ⟨#[]⟩ := by
      unfold nameP
      rw [if_neg (by omega), if_neg (by omega), if_neg (by omega), if_neg (by omega), if_neg (by omega), if_neg (by omega), if_neg (by omega), if_neg (by omega), if_neg (by omega), if_neg (by omega), if_neg (by omega)]
    have HZ := hid hz
    clear hz
    go_enter Tryd.func18, Tryd.ntmps18
    go_wp2
    go_ret
    exact ⟨by rw [HZ.out]; rfl, Below.refl _ _⟩
  rcases (show op = 1 ∨ op = 2 ∨ op = 3 ∨ op = 4 ∨ op = 5 ∨ op = 6 ∨ op = 7 ∨ op = 8 ∨ op = 9 ∨ op = 10 ∨ op = 11 by omega) with rfl | rfl | rfl | rfl | rfl | rfl | rfl | rfl | rfl | rfl | rfl
  all_goals
    clear h0 h1
    go_enter Tryd.func18, Tryd.ntmps18
    go_wp2
    go_ret
    exact ⟨rfl, (Below.refl _ _).alloc (Nat.le_refl _) _⟩
end Go.Proofs.YtidbdmggpljlcaaDoor
