/-
  The contracts of the plain helpers Lent and Kept.
-/
import Derived.Test.YtceeipejhmnkfaaWrSame
namespace Go.Proofs.Ytceeipejhmnkfaa
open Go Go.ChangeShapes Go.WideShapes Go.ChangeAt Go.RowKit

def slack : List Int := [90, 91, 92, 93]
def LentPost (w : World) (xs : List Int) (n : Nat) (e : Ending) (w' : World) : Prop := ∃ g, e = .returned (.slice (some ⟨g, 0, none⟩) n (n + 4)) ∧ w'.ownsRow w.heap.size 5 1 (.slice (some ⟨g, 0, none⟩) (n + 4) (n + 4)) (n + 4) (u8l (xs ++ slack)) ∧ Below w.heap.size w w'
set_option maxRecDepth 100000 in
set_option maxHeartbeats 1000000 in
theorem Lent_any (w : World) (ad : Option Addr) (ka n : Nat) (xs : List Int) (ha : Bs w w.heap.size ad xs) (hn : n = xs.length) (hn2 : n ≤ 140737488351232) : Calls Try.prog 13 #[.slice ad n ka] w (LentPost w xs n) := by
  obtain ⟨i0, hi, hz0, hz1, hz2⟩ := info_parts info5
  have hi' := hid hi
  have hz0' := hid hz0
  have hz1' := hid hz1
  have hz2' := hid hz2
  have HA := hid ha
  have HN := hid hn
  clear ha hn hi hz0 hz1 hz2
  go_enter Try.func13, Try.ntmps13
  go_wp2_with ((with_reducible refine at_op ⟨some 8, _, _, _, _, _⟩ ?_); go_loud (refine wpList_make_own _ rfl (.const (.int .i64 0)) (.tmp 7) 30 rfl w.heap.size 5 i0 (.int .u8 0) 1 Try.underlying30 hi'.out hz0'.out hz1'.out .i64 .i64 ((n : Int) + 4) (n + 4) rfl rfl (by simp) (by rw [hz2'.out]; omega) (by unfold maxLen; omega) (Nat.le_refl _) ?_; intro w1 hown1 hgrow1))
  have hB1 : Below w.heap.size w w1 := (Below.refl _ w).grown hgrow1 (Nat.le_refl _) (fun k hk => by cases hk)
  obtain ⟨g, hg⟩ : ∃ g, g = w.heap.size := ⟨_, rfl⟩
  have HO1 := hid hown1
  have HB1 := hid hB1
  have HG := hid hg
  clear hown1 hgrow1 hB1
  rw [← hg]
  clear hg
  go_loopw [3, 4] (fun ov i wr => ∃ q : Nat, q ≤ n ∧ i = .int .i64 q ∧ ov = .slice (some ⟨g, 0, none⟩) q (n + 4) ∧ RowKit.Hid (wr.ownsRow w.heap.size 5 1 (.slice (some ⟨g, 0, none⟩) q (n + 4)) q (u8l (xs.take q))) ∧ RowKit.Hid (Below w.heap.size w wr)) (fun _ i _ => n - (intOf i).toNat)
  case atStart => exact ⟨0, by omega, rfl, rfl, hid (by rw [HG.out]; exact HO1.out), HB1⟩
  case round =>
    obtain ⟨q, hq, rfl, rfl, HR, HW⟩ := hrel
    by_cases hqn : q < n
    · obtain ⟨b, o, rfl, _⟩ := HA.out.some (by have := HN.out; omega)
      have hla : q < xs.length := by rw [← HN.out]; exact hqn
      have cq := (HA.out.below HW.out).cell hla
      have hx := getD_at hla
      generalize xs.getD q 0 = x at *
      have HX := hid hx
      clear hx hla
      have hs := HW.out.size
      go_wp2_with (at_builtin; refine wpList_append_fits _ (o := ⟨some 21, _, _, _, _, _⟩) rfl (.tmp 15) (.tmp 20) 30 rfl w.heap.size 5 i0 1 Try.underlying30 hi'.out hz1'.out g q (n + 4) _ rfl (HR.out.alloc _) ⟨wr.heap.size, 0, none⟩ 1 1 [.int .u8 x] rfl rfl (World.news_of_block (heap_alloc_new wr _)) (by simp [Value.oneCell']) (by omega) ?_; intro w5 hown5 hgrow5; have HO5 := hid hown5; have HG5 := hid hgrow5; clear hown5 hgrow5)
      have hb5 : Below w.heap.size w w5 := (HW.out.alloc hs _).grown HG5.out (by simp; omega) (fun k hk => by cases hk; rw [HG.out]; exact Nat.le_refl _)
      have HB5 := hid hb5
      have htk : u8l (xs.take (q + 1)) = u8l (xs.take q) ++ [.int .u8 x] := by rw [List.take_add_one, HX.out]; simp [u8l]
      have HTK := hid htk
      clear hb5 htk
      go_roundw
      case rel => exact ⟨q + 1, by omega, by go_num, rfl, hid (by rw [HTK.out]; exact HO5.out), HB5⟩
      case measure => simp [intOf]; omega
    · obtain rfl : q = n := by omega
      have hs := HW.out.size
      have hall : xs.take q = xs := List.take_of_length_le (by rw [HN.out]; omega)
      have hr := HR.out
      rw [hall] at hr
      have HR2 := hid hr
      clear hall hr HR
      go_wp2_with (at_builtin; refine wpList_append_fits _ (o := ⟨some 24, _, _, _, _, _⟩) rfl (.tmp 22) (.tmp 23) 30 rfl w.heap.size 5 i0 1 Try.underlying30 hi'.out hz1'.out g q (q + 4) _ rfl (HR2.out.alloc _) ⟨wr.heap.size, 0, none⟩ 4 4 (u8l slack) rfl rfl (World.news_of_block (heap_alloc_new wr _)) (by simp [Value.oneCell', u8l, slack]) (by omega) ?_; intro w5 hown5 hgrow5; have HO5 := hid hown5; have HG5 := hid hgrow5; clear hown5 hgrow5)
      have hb5 : Below w.heap.size w w5 := (HW.out.alloc hs _).grown HG5.out (by simp; omega) (fun k hk => by cases hk; rw [HG.out]; exact Nat.le_refl _)
      have HB5 := hid hb5
      go_ret
      exact ⟨g, rfl, by rw [u8l_app]; exact HO5.out, HB5.out⟩
set_option maxRecDepth 100000 in
set_option maxHeartbeats 1000000 in
/-- Kept: what was lent is as it was, and so is what lies behind it. -/
theorem Kept_any (w : World) (b o ka cb n : Nat) (ad : Option Addr) (xs ys : List Int) (hin : Bs w w.heap.size (some ⟨b, o, none⟩) (xs ++ slack)) (hw : Bs w w.heap.size ad ys) (hx : n = xs.length) (hy : n = ys.length) (hc : n + 4 ≤ ka) (hn2 : n ≤ 140737488351232) :
    Calls Try.prog 17 #[.slice (some ⟨b, o, none⟩) n ka, .slice ad n cb] w fun e w' => e = .returned (.bool (xs == ys)) ∧ Below w.heap.size w w' := by
  have h1 : Bs w w.heap.size (some ⟨b, o, none⟩) xs := by
    have := hin.take xs.length
    rw [List.take_left' rfl] at this; exact this
  have HS := hid (SameBytes_any w (some ⟨b, o, none⟩) ad ka cb n n xs ys hx hy h1 hw hn2 hn2)
  have HIN := hid hin
  have HX := hid hx
  clear hin hw hx hy h1
  go_enter Try.func17, Try.ntmps17
  go_wp2
  go_loop [6] (fun i => ∃ q : Nat, q ≤ 4 ∧ i = .int .i64 q) (fun i => 4 - (intOf i).toNat)
  case atStart => exact ⟨0, by omega, rfl⟩
  case round =>
    obtain ⟨q, hq, rfl⟩ := hrel
    by_cases hq4 : q < 4
    · have hq' : q = 0 ∨ q = 1 ∨ q = 2 ∨ q = 3 := by omega
      have cq := HIN.out.cell (j := n + q) (by have := HX.out; simp [slack]; omega)
      have e : (xs ++ slack).getD (n + q) 0 = 90 + (q : Int) := by
        rw [HX.out]
        rcases hq' with rfl | rfl | rfl | rfl <;> simp [slack]
      rw [e] at cq
      have hw8 : IntKind.u8.wrap (90 + (q : Int)) = 90 + (q : Int) := IntWalk.u8_in _ ⟨by omega, by omega⟩
      have hd : (90 + (q : Int) != 90 + (q : Int)) = false := by simp
      clear e hq'
      go_wp2
      go_round
      case rel => exact ⟨q + 1, by omega, by go_num⟩
      case measure => simp [intOf]; omega
    · obtain rfl : q = 4 := by omega
      go_wp2_with fail
      refine HS.out.mono ?_
      rintro e w2 ⟨rfl, h2⟩
      have H2 := hid h2
      clear h2
      go_wp2
      go_ret
      exact ⟨rfl, H2.out⟩
end Go.Proofs.Ytceeipejhmnkfaa
