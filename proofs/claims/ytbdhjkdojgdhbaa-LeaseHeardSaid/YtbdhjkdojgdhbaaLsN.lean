/-
  LeaseNil's walk: leases that are none.
-/
import Derived.Test.YtbdhjkdojgdhbaaLsW
namespace Go.Proofs.Ytbdhjkdojgdhbaa
open Go Go.ChangeShapes Go.WideShapes Go.ChangeAt Go.RowKit

/-- What is asked of the program where there are no leases. -/
structure LsN : Prop where
  join : ∀ (w : World) (k : Int), Hn k → Calls Try.prog 17 #[.pointer none, .int .u64 k] w fun e w' => e = .returned (.bool false) ∧ Below w.heap.size w w'
  ping : ∀ (w : World) (k : Int), Hn k → Calls Try.prog 19 #[.pointer none, .int .u64 k] w fun e w' => e = .returned (.int .i64 12) ∧ Below w.heap.size w w'
  leave : ∀ (w : World) (k : Int), Hn k → Calls Try.prog 20 #[.pointer none, .int .u64 k] w fun e w' => e = .returned (.bool false) ∧ Below w.heap.size w w'
  left : ∀ (w : World) (k : Int), Hn k → Calls Try.prog 12 #[.pointer none, .int .u64 k] w fun e w' => e = .returned (.tuple #[iv 0, .int .i64 12]) ∧ Below w.heap.size w w'
  tick : ∀ (w : World), Calls Try.prog 18 #[.pointer none] w fun e w' => (∃ a c, e = .returned (.slice a 0 c)) ∧ Below w.heap.size w w'
  now : ∀ (w : World), Calls Try.prog 11 #[.pointer none] w fun e w' => e = .returned (iv 0) ∧ Below w.heap.size w w'
  all : ∀ (w : World), AllT w none []
theorem toldN_any (HN : LsN) (w : World) (m : Nat) (hm : m ≤ 100000) : Calls Try.prog 15 #[.pointer none, .int .i64 m] w fun e w' => (∃ a c, e = .returned (.slice a 0 c)) ∧ Below w.heap.size w w' := by
  refine (toldO_any (HN.all w) m hm).mono ?_
  rintro e w' ⟨hb, u, rfl, ht⟩
  refine ⟨?_, hb⟩
  rw [List.take_nil] at ht
  rcases ht.ex with ⟨rfl, _⟩ | ⟨g, c, rfl, _⟩
  · exact ⟨_, _, rfl⟩
  · exact ⟨_, _, rfl⟩
section
variable {Rp : World → (Nat → Prop) → Value → Lz → Prop}
set_option maxRecDepth 100000 in
set_option maxHeartbeats 16000000 in
theorem LeaseNil_any (HC : LsC Rp) (HN : LsN) (w : World) (k : Int) (hk : Hn k) : Calls Try.prog 6 #[.int .u64 k] w fun e w' => e = .returned (.bool true) ∧ Below w.heap.size w w' := by
  have HAW := hid (fun W => awakeO_any HC W)
  have HH := hid HN
  have HK := hid hk
  have H0 := hid (HN.left w k hk)
  clear HC HN hk
  go_enter Try.func6, Try.ntmps6
  go_wp2_with (first
    | (go_at_call 12; refine H0.out.mono ?_; rintro e w1 ⟨rfl, hb1⟩; have B1 := hid hb1; have H1 := hid (HH.out.join w1 k HK.out); clear hb1 H0)
    | (go_at_call 17; refine H1.out.mono ?_; rintro e w2 ⟨rfl, hb2⟩; have B2 := hid (B1.out.trans (hb2.mono B1.out.size)); have H2 := hid (HH.out.ping w2 k HK.out); clear hb2 H1)
    | (go_at_call 19; refine H2.out.mono ?_; rintro e w3 ⟨rfl, hb3⟩; have B3 := hid (B2.out.trans (hb3.mono B2.out.size)); have H3 := hid (HH.out.leave w3 k HK.out); clear hb3 H2)
    | (go_at_call 20; refine H3.out.mono ?_; rintro e w4 ⟨rfl, hb4⟩; have B4 := hid (B3.out.trans (hb4.mono B3.out.size)); have H4 := hid (HH.out.tick w4); clear hb4 H3)
    | (go_at_call 18; refine H4.out.mono ?_; rintro e w5 ⟨⟨a5, c5, rfl⟩, hb5⟩; have B5 := hid (B4.out.trans (hb5.mono B4.out.size)); have H5 := hid (HH.out.now w5); clear hb5 H4)
    | (go_at_call 11; refine H5.out.mono ?_; rintro e w6 ⟨rfl, hb6⟩; have B6 := hid (B5.out.trans (hb6.mono B5.out.size)); have H6 := hid (toldN_any HH.out w6 9 (by omega)); clear hb6 H5)
    | (go_at_call 15; refine H6.out.mono ?_; rintro e w7 ⟨⟨a7, c7, rfl⟩, hb7⟩; have B7 := hid (B6.out.trans (hb7.mono B6.out.size)); have H7 := hid (HAW.out w7); clear hb7 H6)
    | (go_at_call 9; refine H7.out.mono ?_; rintro e w8 ⟨rfl, hb8⟩; have B8 := hid (B7.out.trans (hb8.mono B7.out.size)); clear hb8 H7)
    | fail)
  go_ret
  exact ⟨rfl, B8.out⟩
end
end Go.Proofs.Ytbdhjkdojgdhbaa
