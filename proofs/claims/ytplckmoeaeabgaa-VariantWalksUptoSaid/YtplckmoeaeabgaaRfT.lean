/-
  The contract of the plain twin's Text (layer 5).
-/
import Derived.Test.YtplckmoeaeabgaaRfN
namespace Go.Proofs.Ytplckmoeaeabgaa
open Go Go.ChangeShapes Go.WideShapes Go.ChangeAt Go.RowKit

set_option maxRecDepth 100000 in
set_option maxHeartbeats 1000000 in
theorem RText_any (w : World) (ad ae : Option Addr) (cap L ce n : Nat) (xs ys : List Int) (hb : Bs w w.heap.size ad xs) (hL : L = xs.length) (h0 : ad = none → cap = 0 ∧ L = 0)
    (hb2 : Bs w w.heap.size ae ys) (hn : n = ys.length) (h02 : ae = none → ce = 0 ∧ n = 0) (hl : L ≤ 90000000000000) (hn2 : n ≤ 65535) :
    Calls Try.prog 34 #[.slice ad L cap, .slice ae n ce] w (RowPost w (layT xs ys)) := by
  obtain ⟨i0, hi, hz0, hz1, hz2⟩ := info_parts info5
  have hi' := hid hi
  have hz0' := hid hz0
  have hz1' := hid hz1
  have hz2' := hid hz2
  have HN := hid (RNum_any w ad cap L xs n 4 hb hL h0 (.inr (.inr (.inl rfl))) (by omega) (by omega) (by omega))
  have hwn : IntKind.u64.wrap (n : Int) = n := IntWalk.u64_in _ ⟨by omega, by omega⟩
  have hll := lay_len xs n 4
  have hgl := gap_lt (n := xs.length) (k := 4) (.inr (.inr (.inl rfl)))
  have hlen4 : (lay xs n 4).length ≤ 90000000000010 := by omega
  have hlay : layT xs ys = lay xs n 4 ++ ys := by unfold layT; rw [hn]
  have HLY := hid hlay
  have HY := hid hn
  have HB := hid hb2
  have H0 := hid h02
  generalize lay xs (n : Int) 4 = zs at *
  clear hi hz0 hz1 hz2 hb hL h0 hb2 hn h02 hll hgl hlay
  go_enter Try.func34, Try.ntmps34
  go_wp2_with fail
  refine HN.out.mono ?_
  rintro e w1 ⟨v1, rfl, h1, h2⟩
  obtain ⟨m, hm⟩ : ∃ m, m = zs.length := ⟨_, rfl⟩
  rw [← hm] at h1 hlen4
  have HM := hid hm
  obtain ⟨a1, k1, rfl⟩ := own_form h1
  have H1 := hid h1
  have H2 := hid h2
  clear h1 h2 hm hwn HN
  cases ae with
  | none =>
    obtain ⟨rfl, rfl⟩ := H0.out rfl
    have hy : ys = [] := List.eq_nil_of_length_eq_zero HY.out.symm
    subst hy
    go_wp2_with (at_builtin; refine wpList_append_own_none (o := ⟨some 13, _, _, _, _, _⟩) rfl (.tmp 11) (.tmp 12) 30 rfl w.heap.size 5 i0 1 Try.underlying30 hi'.out (.slice a1 m k1) m _ rfl H1.out rfl ?_)
    go_ret
    exact ⟨_, rfl, by rw [HLY.out, List.append_nil, ← HM.out]; exact H1.out, H2.out⟩
  | some ae =>
    have hnews : ∀ (j : Nat) (u : Value), (u8l ys)[j]? = some u → w1.cell? (ae.add j) = some u := fun j u hu => by
      have hj : j < ys.length := by
        have := (List.getElem?_eq_some_iff.1 hu).1
        simpa [u8l] using this
      obtain ⟨b, o', he, hbl⟩ := HB.out.some (by omega)
      cases he
      exact (HB.out.below H2.out).news j u hu
    have HNW := hid hnews
    have HL1 := hid (show (u8l ys).length = n * 1 by rw [u8l_len, HY.out]; omega)
    clear hnews
    go_wp2_with (at_builtin; refine wpList_append_own_at _ (o := ⟨some 13, _, _, _, _, _⟩) rfl (.tmp 11) (.tmp 12) 30 rfl w.heap.size 5 i0 (.int .u8 0) 1 1 Try.underlying30 hi'.out hz0'.out hz1'.out hz2'.out rfl (by decide) (.slice a1 m k1) m _ rfl H1.out ae n ce (u8l ys) rfl HL1.out HNW.out (u8l_one ys) (by unfold maxLen; omega) (by omega) H2.out.size ?_; intro v5 w5 hown5 hgrow5 hnil5 hat5; obtain ⟨a5, k5, rfl⟩ := own_form hown5; have HO5 := hid hown5; have HG5 := hid hgrow5; clear hown5 hgrow5 hnil5 hat5)
    go_ret
    have hp := own_push (xs := zs) (zs := ys) H2.out (by rw [← HM.out]; exact H1.out) (Fr.refl _ w1) HO5.out HG5.out
    rw [← HLY.out] at hp
    exact ⟨_, rfl, hp.1, hp.2⟩
end Go.Proofs.Ytplckmoeaeabgaa
