/-
  The contracts of the plain twin's Line and Is.
-/
import Derived.Test.YtpcgplcpfbgcfaaFcI
import Derived.Test.YtpcgplcpfbgcfaaFcG
namespace Go.Proofs.Ytpcgplcpfbgcfaa
open Go Go.ChangeShapes Go.WideShapes Go.ChangeAt Go.RowKit

/-- Where the plain Line stands. -/
def LAt (l : List Face) (i : Int) (q : Nat) (at' : Int) : Prop := (∃ k : Nat, (lineL l i)[q]? = some k ∧ at' = (k : Int)) ∨ (q = (lineL l i).length ∧ ¬ (0 ≤ at' ∧ at' < (l.length : Int)))
theorem LAt.start (l : List Face) (i : Int) : LAt l i 0 i := by
  by_cases h : 0 ≤ i ∧ i < (l.length : Int)
  · exact .inl ⟨i.toNat, lineL_head h, by omega⟩
  · exact .inr ⟨by rw [lineL_out h]; rfl, h⟩
set_option maxHeartbeats 1000000 in
set_option maxRecDepth 100000 in
theorem RLine_any (w : World) (ad : Option Addr) (N cap : Nat) (l : List Face) (i : Int) (hF : FRow w w.heap.size ad l) (hN : N = l.length) (hN2 : N ≤ 100000) :
    Calls Try.prog 13 #[.slice ad N cap, .int .i64 i] w (SeqPost w (lineL l i)) := by
  obtain ⟨i0, hi, hz0, hz1, hz2⟩ := info_parts info3
  have hi' := hid hi
  have hz0' := hid hz0
  have hz1' := hid hz1
  have hz2' := hid hz2
  have HF := hid hF
  have HN := hid hN
  have hlen := lineL_len l i
  have HLEN := hid hlen
  clear hF hN hi hz0 hz1 hz2 hlen
  go_enter Try.func13, Try.ntmps13
  go_wp2
  go_loopw [5, 6] (fun ov p wr => ∃ (q : Nat) (at' : Int), p = .int .i64 at' ∧ RowKit.Hid (LAt l i q at') ∧ RowKit.Hid (wr.ownsRow w.heap.size 3 1 ov ((lineL l i).take q).length (pc ((lineL l i).take q))) ∧ RowKit.Hid (Below w.heap.size w wr)) (fun _ p _ => (intOf p + 1).toNat)
  case atStart => exact ⟨0, i, rfl, hid (LAt.start l i), hid (World.ownsRow_nil _ _ _ _), hid (Below.refl _ _)⟩
  case round =>
    obtain ⟨q, at', rfl, HA, HR, HB⟩ := hrel
    by_cases hin : 0 ≤ at' ∧ at' < (N : Int)
    · obtain ⟨k, hk, rfl⟩ : ∃ k : Nat, (lineL l i)[q]? = some k ∧ at' = (k : Int) := by
        rcases HA.out with h | ⟨_, h⟩
        · exact h
        · exact absurd (by have := HN.out; omega) h
      have hkl : k < l.length := (lineL_mem (List.mem_of_getElem? hk)).1
      have hf : l[k]? = some l[k] := List.getElem?_eq_getElem hkl
      generalize l[k] = f at hf
      obtain ⟨b, o, rfl, hb⟩ := HF.out.some (by omega)
      have cb := (HF.out.below HB.out).base hf
      have htk : (lineL l i).take (q + 1) = (lineL l i).take q ++ [k] := by rw [List.take_add_one, hk]; rfl
      have hnx := lineL_at hk
      have hqL : q + 1 ≤ (lineL l i).length := (List.getElem?_eq_some_iff.1 hk).1
      have hql : ((lineL l i).take q).length = q := by simp; omega
      obtain ⟨oa, ok, hov⟩ := own_form HR.out
      rw [hql] at hov
      have hrow := HR.out
      rw [hql] at hrow
      subst hov
      have HROW := hid hrow
      have HT := hid htk
      have HNX := hid hnx
      have HK := hid hk
      have HFF := hid hf
      have hkN : k < N := by have := HN.out; omega
      have hq5 : q ≤ 100000 := by have := HLEN.out; have := HN.out; omega
      have d0 : decide (0 ≤ (k : Int)) = true := by simp
      have d1 : decide ((k : Int) < (N : Int)) = true := by simp; omega
      have HQ := hid hqL
      clear hin HA HR hrow htk hnx hk hf hkl hb hql hqL
      have cbk : ∀ W', Below w.heap.size w W' → W'.cell? ⟨b, o + k * 17 + 16, none⟩ = some (.int .i64 f.base) := fun W' h => (HF.out.below h).base HFF.out
      have CBK := hid cbk
      clear cbk
      by_cases hge : (k : Int) ≤ f.base
      · have d2 : decide ((k : Int) ≤ f.base) = true := by simpa using hge
        go_wp2_with (at_builtin; refine wpList_append_lies _ (o := ⟨some 19, _, _, _, _, _⟩) rfl (.tmp 16) (.tmp 18) 32 rfl w.heap.size 3 i0 (.int .i64 0) 1 8 Try.underlying32 hi'.out hz0'.out hz1'.out hz2'.out rfl (by decide) (.slice oa q ok) q _ rfl (HROW.out.alloc _) ⟨wr.heap.size, 0, none⟩ 1 1 [.int .i64 (k : Int)] rfl rfl (World.news_of_block (heap_alloc_new wr _)) (by simp [Value.oneCell']) (by decide) (by unfold maxLen; omega) (by omega) (by have := HB.out.size; simp; omega) (wr.heap.size + 1) (by simp) ?_; intro g5 k5 w5 hown5 hgrow5 hat5 hlt5; have HO5 := hid hown5; have hB5 := ((HB.out.alloc HB.out.size (.cells #[.int .i64 (k : Int)] 3)).grown hgrow5 (by have := HB.out.size; simp; omega) (fun j hj => (HROW.out.lt j hj).1)); have HB5 := hid hB5; have cb5 := CBK.out w5 hB5; clear hown5 hgrow5 hat5 hB5 cb)
        go_ret
        have hn : nxt l k = none := nxt_none HFF.out (by omega)
        have hall : (lineL l i).take (q + 1) = lineL l i := by
          have h1 := HNX.out
          rw [hn] at h1
          exact List.take_of_length_le (List.getElem?_eq_none_iff.1 h1)
        have hlen2 : (lineL l i).length = q + 1 := by
          have h1 := HNX.out
          rw [hn] at h1
          have := List.getElem?_eq_none_iff.1 h1
          have := HQ.out; omega
        refine ⟨_, rfl, ?_, HB5.out⟩
        have h2 := HO5.out
        have h3 := HT.out
        rw [hall] at h3
        rw [hlen2, h3, pc_app]
        exact h2
      · have d2 : decide ((k : Int) ≤ f.base) = false := by simpa using hge
        have hlt : f.base < (k : Int) := by omega
        have HLT := hid hlt
        clear hge hlt
        go_wp2_with (at_builtin; refine wpList_append_lies _ (o := ⟨some 19, _, _, _, _, _⟩) rfl (.tmp 16) (.tmp 18) 32 rfl w.heap.size 3 i0 (.int .i64 0) 1 8 Try.underlying32 hi'.out hz0'.out hz1'.out hz2'.out rfl (by decide) (.slice oa q ok) q _ rfl (HROW.out.alloc _) ⟨wr.heap.size, 0, none⟩ 1 1 [.int .i64 (k : Int)] rfl rfl (World.news_of_block (heap_alloc_new wr _)) (by simp [Value.oneCell']) (by decide) (by unfold maxLen; omega) (by omega) (by have := HB.out.size; simp; omega) (wr.heap.size + 1) (by simp) ?_; intro g5 k5 w5 hown5 hgrow5 hat5 hlt5; have HO5 := hid hown5; have hB5 := ((HB.out.alloc HB.out.size (.cells #[.int .i64 (k : Int)] 3)).grown hgrow5 (by have := HB.out.size; simp; omega) (fun j hj => (HROW.out.lt j hj).1)); have HB5 := hid hB5; have cb5 := CBK.out w5 hB5; clear hown5 hgrow5 hat5 hB5 cb)
        go_roundw
        case rel =>
          have hql2 : ((lineL l i).take (q + 1)).length = q + 1 := by simp; have := HQ.out; omega
          refine ⟨q + 1, f.base, rfl, hid ?_, hid ?_, HB5⟩
          · by_cases h0 : 0 ≤ f.base
            · have hn : nxt l k = some f.base.toNat := nxt_some HFF.out ⟨h0, HLT.out⟩
              exact .inl ⟨f.base.toNat, by rw [HNX.out, hn], by omega⟩
            · have hn : nxt l k = none := nxt_none HFF.out (by omega)
              refine .inr ⟨?_, by omega⟩
              have h1 := HNX.out
              rw [hn] at h1
              have := List.getElem?_eq_none_iff.1 h1
              have := HQ.out; omega
          · rw [hql2, HT.out, pc_app]
            exact HO5.out
        case measure => have := HLT.out; simp [intOf]; omega
    · have hq : q = (lineL l i).length := by
        rcases HA.out with ⟨k, h1, h2⟩ | ⟨h, _⟩
        · have := (lineL_mem (List.mem_of_getElem? h1)).1
          exact absurd (by have := HN.out; omega) hin
        · exact h
      have ht : (lineL l i).take q = lineL l i := List.take_of_length_le (by omega)
      have hrow := HR.out
      rw [ht] at hrow
      have HROW := hid hrow
      clear ht hrow hq HA HR
      by_cases h0 : 0 ≤ at'
      · have d0 : decide (0 ≤ at') = true := by simpa using h0
        have d1 : decide (at' < (N : Int)) = false := by simp; omega
        clear hin h0
        go_wp2
        go_ret
        exact ⟨_, rfl, HROW.out, HB.out⟩
      · have d0 : decide (0 ≤ at') = false := by simpa using h0
        clear hin h0
        go_wp2
        go_ret
        exact ⟨_, rfl, HROW.out, HB.out⟩
set_option maxHeartbeats 1000000 in
set_option maxRecDepth 100000 in
theorem RIs_any (w : World) (ad : Option Addr) (N cap : Nat) (l : List Face) (i j : Int) (hF : FRow w w.heap.size ad l) (hN : N = l.length) (hN2 : N ≤ 100000) :
    Calls Try.prog 24 #[.slice ad N cap, .int .i64 i, .int .i64 j] w (IsPost w (isL l i j)) := by
  have HL := hid (RLine_any w ad N cap l i hF hN hN2)
  have hlen := lineL_len l i
  have hlen2 : (lineL l i).length ≤ 100000 := by omega
  clear hF hN hN2 hlen
  go_enter Try.func24, Try.ntmps24
  go_wp2_with fail
  refine HL.out.mono ?_
  rintro e w1 ⟨lv, rfl, hrow, hb⟩
  obtain ⟨oa, ok, rfl⟩ := own_form hrow
  have HLI := hid (lies_of_owns hrow)
  have HB := hid hb
  obtain ⟨m, hm⟩ : ∃ m, m = (lineL l i).length := ⟨_, rfl⟩
  have HM := hid hm
  rw [← hm] at hlen2 ⊢
  clear hrow hb HL hm
  go_wp2
  go_loop [8] (fun p => ∃ q : Nat, q ≤ m ∧ p = .int .i64 q ∧ RowKit.Hid (∀ k ∈ (lineL l i).take q, (k : Int) ≠ j)) (fun p => m - (intOf p).toNat)
  case atStart => exact ⟨0, by omega, rfl, hid (fun k hk => by simp at hk)⟩
  case round =>
    obtain ⟨q, hq, rfl, HP⟩ := hrel
    by_cases hql : q < m
    · have hx : (lineL l i)[q]? = some ((lineL l i)[q]'(by have := HM.out; omega)) := List.getElem?_eq_getElem (by have := HM.out; omega)
      generalize ((lineL l i)[q]'(by have := HM.out; omega)) = k at hx
      obtain ⟨g, rfl, cg⟩ := HLI.out q k hx
      have HX := hid hx
      clear hx
      by_cases hkj : (k : Int) = j
      · have hd : ((k : Int) == j) = true := by simpa using hkj
        have hy : isL l i j = true := isL_true (List.prefix_refl _) ⟨k, List.mem_of_getElem? HX.out, hkj⟩
        have HY := hid hy
        clear hkj hy
        go_wp2
        go_ret
        exact ⟨ret_bool HY.out.symm, HB.out⟩
      · have hd : ((k : Int) == j) = false := by simpa using hkj
        have HKJ := hid hkj
        clear hkj
        go_wp2
        go_round
        case rel =>
          refine ⟨q + 1, by omega, by go_num, hid (fun z hz => ?_)⟩
          rw [List.take_add_one, HX.out] at hz
          rcases List.mem_append.1 hz with hz | hz
          · exact HP.out z hz
          · simp at hz; rw [hz]; exact HKJ.out
        case measure => simp [intOf]; omega
    · obtain rfl : q = m := by omega
      have hn : isL l i j = false := isL_false (by have := HP.out; rw [HM.out, List.take_length] at this; exact this)
      have HNO := hid hn
      clear hn
      go_wp2
      go_ret
      exact ⟨ret_bool HNO.out.symm, HB.out⟩
end Go.Proofs.Ytpcgplcpfbgcfaa
