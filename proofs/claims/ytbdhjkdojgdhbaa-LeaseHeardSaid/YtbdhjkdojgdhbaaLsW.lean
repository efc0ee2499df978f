/-
  The document's example, as the law runs it.
-/
import Derived.Test.YtbdhjkdojgdhbaaLsD
namespace Go.Proofs.Ytbdhjkdojgdhbaa
open Go Go.ChangeShapes Go.WideShapes Go.ChangeAt Go.RowKit

def zw (n : Int) : Lz := ⟨4, n, [(5, 0)]⟩
theorem zw_ok {n : Int} (h : 0 ≤ n ∧ n ≤ 9) : ZOk 100 (zw n) := by
  refine ⟨by simp [Rise, zw], by simp [zw], h.1, by show n ≤ ((100 : Nat) : Int); omega, ⟨by show (0 : Int) ≤ 4; decide, by show (4 : Int) ≤ 1000000; decide⟩, fun x hx => ?_⟩
  simp [zw] at hx
  subst hx
  exact ⟨by simp, h.1⟩
theorem zw_over {n : Int} (h : n < 3) : overK (zw n) = [] ∧ (zw n).tick = zw (n + 1) := by
  have hd : dueB (zw n) (5, 0) = false := by simp [dueB, zw]; omega
  constructor
  · simp [overK, show (zw n).l = [(5, 0)] from rfl, hd]
  · simp [Lz.tick, restK, show (zw n).l = [(5, 0)] from rfl, hd]
    rfl
theorem zw_last : overK (zw 3) = [5] := by rfl
theorem zw_join : (⟨2 * 2, 0, []⟩ : Lz).join 5 = zw 0 := by rfl
theorem told_new (w : World) (x : Int) : Told TU u64v (w.alloc (.cells #[.int .u64 x] TU)) (.slice (some ⟨w.heap.size, 0, none⟩) 1 1) [x] := by
  refine ⟨some ⟨w.heap.size, 0, none⟩, 1, rfl, Nat.le_refl _, by decide, fun _ => ⟨w.heap.size, 0, rfl, by simp, fun j u hu => ?_⟩⟩
  rw [cell_of_row _ _ _ _ _ _ (heap_alloc_new w _)]
  match j, hu with
  | 0, hu => exact hu
section
variable {Rp : World → (Nat → Prop) → Value → Lz → Prop}
/-- The example's lease under way. -/
structure Aw (Rp : World → (Nat → Prop) → Value → Lz → Prop) (w : World) (v : Value) (n : Int) (W : World) : Prop where
  ex : ∃ S, Rp W S v (zw n) ∧ ∀ k, S k → w.heap.size ≤ k
  below : Below w.heap.size w W
theorem Aw.step {w W W' : World} {v : Value} {m : Int} {S : Nat → Prop} (h : Below w.heap.size w W) (hS : ∀ k, S k → w.heap.size ≤ k) (hR : Rp W' (exS S W W') v (zw m)) (hf : Fr S W W') : Aw Rp w v m W' := by
  refine ⟨⟨_, hR, fun k hk => ?_⟩, h.trans (hf.below (B := w.heap.size) h.size hS)⟩
  rcases hk with e | e
  · exact hS k e
  · exact Nat.le_trans h.size e.1
theorem Aw.join (HC : LsC Rp) {w W : World} {v : Value} {S : Nat → Prop} (h : Below w.heap.size w W) (hS : ∀ k, S k → w.heap.size ≤ k) (hR : Rp W S v ⟨2 * 2, 0, []⟩) :
    Calls Try.prog 17 #[v, .int .u64 5] W fun e w' => e = .returned (.bool true) ∧ Aw Rp w v 0 w' := by
  refine (HC.join (N := 0) hR ⟨by simp [Rise], by simp, Int.le_refl _, by simp, by decide, fun x hx => by simp at hx⟩ (by omega) 5 (by unfold Hn; decide)).mono ?_
  rintro e w' ⟨h1, h2, h3⟩
  exact ⟨h1, Aw.step h hS (by rw [zw_join] at h2; exact h2) h3⟩
theorem Aw.tick (HC : LsC Rp) {w W : World} {v : Value} {n : Int} (h : Aw Rp w v n W) (hn : 0 ≤ n ∧ n < 3) :
    Calls Try.prog 18 #[v] W fun e w' => (∃ a c, e = .returned (.slice a 0 c)) ∧ Aw Rp w v (n + 1) w' := by
  obtain ⟨S, hR, hS⟩ := h.ex
  refine (HC.tick hR (zw_ok (by omega)) (by omega)).mono ?_
  rintro e w' ⟨⟨u, rfl, hT, _⟩, h2, h3⟩
  rw [(zw_over hn.2).1] at hT
  rw [(zw_over hn.2).2] at h2
  obtain ⟨a, c, rfl, _⟩ := hT.ex
  exact ⟨⟨a, c, rfl⟩, Aw.step h.below hS h2 h3⟩
theorem Aw.last (HC : LsC Rp) {w W : World} {v : Value} (h : Aw Rp w v 3 W) :
    Calls Try.prog 18 #[v] W fun e w' => ∃ u, e = .returned u ∧ Told TU u64v w' u [5] ∧ Below w.heap.size w w' := by
  obtain ⟨S, hR, hS⟩ := h.ex
  refine (HC.tick hR (zw_ok (by omega)) (by omega)).mono ?_
  rintro e w' ⟨⟨u, rfl, hT, _⟩, h2, h3⟩
  rw [zw_last] at hT
  exact ⟨u, rfl, hT, h.below.trans (h3.below (B := w.heap.size) h.below.size hS)⟩
theorem Aw.left (HC : LsC Rp) {w W : World} {v : Value} (h : Aw Rp w v 3 W) :
    Calls Try.prog 12 #[v, .int .u64 5] W fun e w' => e = .returned (.tuple #[iv 1, .int .i64 0]) ∧ Aw Rp w v 3 w' := by
  obtain ⟨S, hR, hS⟩ := h.ex
  refine (HC.left hR (zw_ok (by omega)) (by omega) 5 (by unfold Hn; decide)).mono ?_
  rintro e w' ⟨h1, h2⟩
  exact ⟨h1, ⟨S, HC.fr hR (Fr.of_below (fp := fun _ => False) h2) (fun _ _ e => e), hS⟩, h.below.trans (h2.mono h.below.size)⟩
set_option maxRecDepth 100000 in
set_option maxHeartbeats 8000000 in
theorem awakeO_any (HC : LsC Rp) (w : World) : Calls Try.prog 9 #[] w fun e w' => e = .returned (.bool true) ∧ Below w.heap.size w w' := by
  have HCC := hid HC
  have HN := hid (HC.new w 2 2)
  clear HC
  go_enter Try.func9, Try.ntmps9
  go_upto_region 2 with (first
    | (go_at_call 7; refine HN.out.mono ?_; rintro e w1 ⟨hb1, he⟩; rw [if_pos (by decide)] at he; obtain ⟨v, S, rfl, hS, hR⟩ := he; have HA := hid (Aw.join HCC.out hb1 hS hR); clear hb1 hS hR)
    | fail)
  clear HN
  go_upto_region 4 with (first
    | (go_at_call 17; refine HA.out.mono ?_; rintro e w2 ⟨rfl, h2⟩; have HT1 := hid (h2.tick HCC.out (by omega)); clear h2 HA)
    | (go_at_call 18; refine HT1.out.mono ?_; rintro e w3 ⟨⟨a3, c3, rfl⟩, h3⟩; have HT2 := hid (h3.tick HCC.out (by omega)); clear h3 HT1)
    | (go_at_call 18; refine HT2.out.mono ?_; rintro e w4 ⟨⟨a4, c4, rfl⟩, h4⟩; have HT3 := hid (h4.tick HCC.out (by omega)); clear h4 HT2)
    | (go_at_call 18; refine HT3.out.mono ?_; rintro e w5 ⟨⟨a5, c5, rfl⟩, h5⟩; have HL := hid (Aw.left HCC.out h5); clear h5 HT3)
    | fail)
  go_wp2_with (first
    | (go_at_call 12; refine HL.out.mono ?_; rintro e w6 ⟨rfl, h6⟩; have HT4 := hid (Aw.last HCC.out h6); clear h6 HL)
    | (go_at_call 18; refine HT4.out.mono ?_; rintro e w7 ⟨u, rfl, ht, hb⟩; have HS := hid (SameLongs_told _ u _ [5] (ht.below ((Below.refl _ _).alloc (Nat.le_refl _) (.cells #[.int .u64 5] TU))) (told_new w7 5)); have HB := hid hb; clear ht hb HT4)
    | (go_at_call 22; refine HS.out.mono ?_; rintro e w8 ⟨rfl, hb8⟩; have HB8 := hid hb8; clear hb8 HS)
    | fail)
  go_ret
  exact ⟨rfl, (HB.out.alloc HB.out.size _).trans (HB8.out.mono (Nat.le_trans HB.out.size (by simp)))⟩
end
end Go.Proofs.Ytbdhjkdojgdhbaa
