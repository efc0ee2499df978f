/-
  The contracts of the plain twin's Common and Find, of faces.Find, and of SameInts.
-/
import Derived.Test.YtpcgplcpfbgcfaaFcR
import Derived.Test.YtpcgplcpfbgcfaaFcC
namespace Go.Proofs.Ytpcgplcpfbgcfaa
open Go Go.ChangeShapes Go.WideShapes Go.ChangeAt Go.RowKit

theorem isL_nat (l : List Face) (j : Int) (k : Nat) : isL l j (k : Int) = decide (k ∈ lineL l j) := by
  unfold isL
  by_cases h : k ∈ lineL l j
  · rw [List.any_eq_true.2 ⟨k, h, by simp⟩]; simp [h]
  · rw [List.any_eq_false.2 (fun y hy => by
      have : ¬ y = k := fun e => h (by rw [← e]; exact hy)
      simp; omega)]
    simp [h]
def rcV : Option Nat → Int
  | some a => (a : Int)
  | none => -1
def NumPost (w0 : World) (v : Int) (e : Ending) (W' : World) : Prop := e = .returned (.int .i64 v) ∧ Below w0.heap.size w0 W'
set_option maxHeartbeats 1000000 in
set_option maxRecDepth 100000 in
theorem RCommon_any (w : World) (ad : Option Addr) (N cap : Nat) (l : List Face) (i j : Int) (hF : FRow w w.heap.size ad l) (hN : N = l.length) (hN2 : N ≤ 100000) :
    Calls Try.prog 22 #[.slice ad N cap, .int .i64 i, .int .i64 j] w (NumPost w (rcV (commonL l i j))) := by
  have HL := hid (RLine_any w ad N cap l i hF hN hN2)
  have hlen := lineL_len l i
  have hlen2 : (lineL l i).length ≤ 100000 := by omega
  have HIS := hid (fun (W : World) (k : Int) (h : Below w.heap.size w W) => RIs_any W ad N cap l j k (hF.on h) hN hN2)
  clear hF hN hN2 hlen
  go_enter Try.func22, Try.ntmps22
  go_wp2_with fail
  refine HL.out.mono ?_
  rintro e w1 ⟨lv, rfl, hrow, hb⟩
  obtain ⟨oa, ok, rfl⟩ := own_form hrow
  have HLI := hid (lies_of_owns hrow)
  have HB := hid hb
  obtain ⟨m, hm⟩ : ∃ m, m = (lineL l i).length := ⟨_, rfl⟩
  have HM := hid hm
  rw [← hm] at hlen2 ⊢
  clear hrow hb HL hm
  go_wp2
  go_loopw [8] (fun p wr => ∃ q : Nat, q ≤ m ∧ p = .int .i64 q ∧ RowKit.Hid (∀ k ∈ (lineL l i).take q, k ∉ lineL l j) ∧ RowKit.Hid (Below w1.heap.size w1 wr)) (fun p _ => m - (intOf p).toNat)
  case atStart => exact ⟨0, by omega, rfl, hid (fun k hk => by simp at hk), hid (Below.refl _ _)⟩
  case round =>
    obtain ⟨q, hq, rfl, HP, HBr⟩ := hrel
    by_cases hql : q < m
    · have hx : (lineL l i)[q]? = some ((lineL l i)[q]'(by have := HM.out; omega)) := List.getElem?_eq_getElem (by have := HM.out; omega)
      generalize ((lineL l i)[q]'(by have := HM.out; omega)) = k at hx
      obtain ⟨g, rfl, cg⟩ := (HLI.out.below HBr.out) q k hx
      have HX := hid hx
      have hbr : Below w.heap.size w wr := HB.out.trans (HBr.out.mono HB.out.size)
      have his := HIS.out wr (k : Int) hbr
      rw [isL_nat] at his
      have hsx := (HLI.out.below HBr.out) q k hx
      have HSX := hid hsx
      have HIS2 := hid his
      clear hx his hbr hsx
      by_cases hkj : k ∈ lineL l j
      · have hd : decide (k ∈ lineL l j) = true := by simpa using hkj
        have hco : commonL l i j = some k := by
          unfold commonL
          have ht : (lineL l i).take q ++ [k] <+: lineL l i := by
            have h2 := List.take_prefix (q + 1) (lineL l i)
            rw [List.take_add_one, HX.out] at h2
            exact h2
          exact find_prefix ht (fun p hp => by simpa using HP.out p hp) (by simpa using hkj)
        have HC := hid hco
        clear hkj hco
        go_wp2_with fail
        refine HIS2.out.mono ?_
        rintro e w2 ⟨rfl, hb2⟩
        rw [hd]
        obtain ⟨g', hg', cg2⟩ := HSX.out
        cases hg'
        have cg3 := (hb2.cell (p := ⟨g, q, none⟩) (World.block_lt_of_cell? wr _ cg2)).trans cg2
        have HB2 := hid hb2
        clear hb2 hd cg2 cg
        go_wp2
        go_ret
        exact ⟨by rw [HC.out]; rfl, (HB.out.trans (HBr.out.mono HB.out.size)).trans (HB2.out.mono (by have := HB.out.size; have := HBr.out.size; omega))⟩
      · have hd : decide (k ∈ lineL l j) = false := by simpa using hkj
        have HKJ := hid hkj
        clear hkj
        go_wp2_with fail
        refine HIS2.out.mono ?_
        rintro e w2 ⟨rfl, hb2⟩
        rw [hd]
        have HB2 := hid hb2
        clear hb2 hd
        go_wp2
        go_roundw
        case rel =>
          refine ⟨q + 1, by omega, by go_num, hid (fun z hz => ?_), hid (HBr.out.trans (HB2.out.mono HBr.out.size))⟩
          rw [List.take_add_one, HX.out] at hz
          rcases List.mem_append.1 hz with hz | hz
          · exact HP.out z hz
          · simp at hz; rw [hz]; exact HKJ.out
        case measure => simp [intOf]; omega
    · obtain rfl : q = m := by omega
      have hn : commonL l i j = none := by
        unfold commonL
        rw [List.find?_eq_none]
        have := HP.out
        rw [HM.out, List.take_length] at this
        intro c hc
        simpa using this c hc
      have HNO := hid hn
      clear hn
      go_wp2
      go_ret
      exact ⟨by rw [HNO.out]; rfl, HB.out.trans (HBr.out.mono HB.out.size)⟩
set_option maxHeartbeats 1000000 in
set_option maxRecDepth 100000 in
/-- SameInts, at two equal rows. -/
theorem Same_any (w : World) (a b : Option Addr) (ka kb n : Nat) (L : List Nat) (hn : n = L.length) (hn2 : n ≤ 100000) (ha : Lies w a L) (hb : Lies w b L) :
    Calls Try.prog 15 #[.slice a n ka, .slice b n kb] w fun e w' => e = .returned (.bool true) ∧ Below w.heap.size w w' := by
  have HA := hid ha
  have HB := hid hb
  have HN := hid hn
  clear ha hb hn
  go_enter Try.func15, Try.ntmps15
  go_wp2
  go_loopw [5] (fun i wr => ∃ q : Nat, q ≤ n ∧ i = .int .i64 q ∧ RowKit.Hid (Below w.heap.size w wr)) (fun i _ => n - (intOf i).toNat)
  case atStart => exact ⟨0, by omega, rfl, hid (Below.refl _ _)⟩
  case round =>
    obtain ⟨q, hq1, rfl, HW⟩ := hrel
    by_cases hql : q < n
    · have hqx : q < L.length := by rw [← HN.out]; exact hql
      have hx : L[q]? = some L[q] := List.getElem?_eq_getElem hqx
      generalize L[q] = x at hx
      obtain ⟨g, rfl, c1⟩ := (HA.out.below HW.out) q x hx
      obtain ⟨g', rfl, c2⟩ := (HB.out.below HW.out) q x hx
      clear hx hqx
      go_wp2
      go_region
      all_goals
        go_wp2
        go_roundw
        case rel => exact ⟨q + 1, by omega, by go_num, hid HW.out.drew⟩
        case measure => simp [intOf]; omega
    · obtain rfl : q = n := by omega
      go_wp2
      go_ret
      exact ⟨rfl, HW.out⟩
end Go.Proofs.Ytpcgplcpfbgcfaa
