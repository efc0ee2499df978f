/-
  The contract of a writer's Text.
-/
import Derived.Test.YtplckmoeaeabgaaWrW
namespace Go.Proofs.Ytplckmoeaeabgaa
open Go Go.ChangeShapes Go.WideShapes Go.ChangeAt Go.RowKit

set_option maxRecDepth 100000 in
theorem Text_nil (w : World) (b : Value) : Calls Try.prog 45 #[.pointer none, b] w fun e w' => e = .returned (.int .i64 1) ∧ w = w' := by
  go_enter Try.func45, Try.ntmps45
  go_wp2
  go_ret
  exact ⟨rfl, rfl⟩
def textOk (ys : List Int) : Bool := decide (ys.length ≤ 65535)
def TextPost (w : World) (p : Nat) (v : Value) (xs ys : List Int) (e : Ending) (w' : World) : Prop := e = .returned (.int .i64 (code (textOk ys))) ∧ ∃ v', WrTo w p v w' v' (if textOk ys then layT xs ys else xs)
set_option maxRecDepth 100000 in
set_option maxHeartbeats 1000000 in
theorem Text_any0 (w : World) (p : Nat) (v : Value) (xs ys : List Int) (ad : Option Addr) (n cap : Nat) (h : WrW w p v xs) (hb : Bs w w.heap.size ad ys) (hn : n = ys.length) (h0 : ad = none → cap = 0 ∧ n = 0)
    (hd : 0 < n → ∀ b o, ad = some ⟨b, o, none⟩ → b ≠ p ∧ v.ownBlock ≠ some b) (hl : xs.length ≤ 90000000000000) (hn2 : n ≤ 1000000000) :
    Calls Try.prog 45 #[.pointer (some ⟨p, 0, none⟩), .slice ad n cap] w (TextPost w p v xs ys) := by
  by_cases hm : 65535 < n
  · have hno : textOk ys = false := by unfold textOk; simp; omega
    have HP := hid (show TextPost w p v xs ys (.returned (.int .i64 1)) w from ⟨by rw [hno]; rfl, v, by rw [hno]; exact WrTo.refl h⟩)
    have d1 : decide ((65535 : Int) < n) = true := by simp; omega
    clear h hb hn h0 hd hl hno
    go_enter Try.func45, Try.ntmps45
    go_wp2
    go_ret
    exact HP.out
  · have hyes : textOk ys = true := by unfold textOk; simp; omega
    have HP := hid (show ∀ w', (∃ v', WrTo w p v w' v' (layT xs ys)) → TextPost w p v xs ys (.returned (.int .i64 0)) w' from fun w' h => ⟨by rw [hyes]; rfl, by rw [hyes]; exact h⟩)
    have d1 : decide ((65535 : Int) < n) = false := by simp; omega
    have HL := hid (lay_any w p v xs n 4 h (.inr (.inr (.inl rfl))) (by omega))
    have hwn : IntKind.u64.wrap (n : Int) = n := IntWalk.u64_in _ ⟨by omega, by omega⟩
    have HN := hid hn
    have HB := hid hb
    have HD := hid hd
    have H0 := hid h0
    have hll := lay_len xs n 4
    have hgl := gap_lt (n := xs.length) (k := 4) (.inr (.inr (.inl rfl)))
    have hlen4 : (lay xs n 4).length ≤ 90000000000010 := by omega
    clear h hb hn h0 hd hl hyes hll hgl
    go_enter Try.func45, Try.ntmps45
    go_wp2_with fail
    refine HL.out.mono ?_
    rintro e w2 ⟨rfl, v2, ht⟩
    obtain ⟨oa, oc, hov⟩ := own_form ht.wr.row
    have c0 := ht.wr.c0
    have z0 := ht.wr.fz 0
    have hrow := ht.wr.row
    have HT := hid ht
    have hlay : layT xs ys = lay xs n 4 ++ ys := by unfold layT; rw [HN.out]
    have HLY := hid hlay
    generalize lay xs (n : Int) 4 = zs at *
    clear ht hwn hlay
    obtain ⟨m, hm2⟩ : ∃ m, m = zs.length := ⟨_, rfl⟩
    rw [← hm2] at hov hrow hlen4
    have HM := hid hm2
    clear hm2
    subst hov
    have HROW := hid hrow
    clear hrow
    obtain ⟨i0, hi, hz0, hz1, hz2⟩ := info_parts info5
    have hi' := hid hi
    have hz0' := hid hz0
    have hz1' := hid hz1
    have hz2' := hid hz2
    clear hi hz0 hz1 hz2
    cases ad with
    | none =>
      obtain ⟨rfl, rfl⟩ := H0.out rfl
      have hy : ys = [] := List.eq_nil_of_length_eq_zero HN.out.symm
      subst hy
      go_wp2_with (at_builtin; refine wpList_append_own_none (o := ⟨some 23, _, _, _, _, _⟩) rfl (.tmp 21) (.tmp 22) 30 rfl 0 5 i0 1 Try.underlying30 hi'.out (.slice oa m oc) m _ rfl HROW.out rfl ?_)
      go_ret
      have hpu := HT.out.wr.push (zs := []) (v2 := .slice oa m oc) (m := m) (Fr.refl _ w2) (by simpa [u8l] using HROW.out) ⟨rfl, rfl, rfl, Nat.le_refl _, fun _ _ _ => rfl⟩ (fun _ h => .inl h)
      exact HP.out _ ⟨_, by rw [HLY.out]; exact HT.out.trans hpu⟩
    | some ad =>
      have hnews : ∀ (j : Nat) (u : Value), (u8l ys)[j]? = some u → w2.cell? (ad.add j) = some u := fun j u hu => by
        have hj : j < ys.length := by
          have := (List.getElem?_eq_some_iff.1 hu).1
          simpa [u8l] using this
        obtain ⟨b, o', he, hbl⟩ := HB.out.some (by omega)
        cases he
        have hdd := HD.out (by have := HN.out; omega) b o' rfl
        exact ((HB.out.fr HT.out.fr (fun b2 o2 e2 hh => by
          cases e2
          rcases hh with h1 | h1
          · exact hdd.1 h1
          · exact hdd.2 h1)).news j u hu)
      have HNW := hid hnews
      have HL1 := hid (show (u8l ys).length = n * 1 by rw [u8l_len, HN.out]; omega)
      have hn5 : n ≤ 65535 := by omega
      clear hnews
      go_wp2_with (at_builtin; refine wpList_append_own_at _ (o := ⟨some 23, _, _, _, _, _⟩) rfl (.tmp 21) (.tmp 22) 30 rfl 0 5 i0 (.int .u8 0) 1 1 Try.underlying30 hi'.out hz0'.out hz1'.out hz2'.out rfl (by decide) (.slice oa m oc) m _ rfl HROW.out ad n cap (u8l ys) rfl HL1.out HNW.out (u8l_one ys) (by unfold maxLen; omega) (by omega) (Nat.zero_le _) ?_; intro v5 w5 hown5 hgrow5 hnil5 hat5; obtain ⟨a5, k5, rfl⟩ := own_form hown5; obtain ⟨c5, z5⟩ := HT.out.wr.p5 (Fr.refl _ w2) hgrow5; have HO5 := hid hown5; have HG5 := hid hgrow5; have HA5 := hid hat5; clear hown5 hgrow5 hnil5 hat5)
      go_ret
      have hpu := HT.out.wr.push (zs := ys) (Fr.refl _ w2) HO5.out HG5.out (fun j hj => by
        rcases HA5.out with h1 | h1
        · exact .inl (h1.symm.trans hj)
        · rw [hj] at h1; cases h1; exact .inr (Nat.le_refl _))
      exact HP.out _ ⟨_, by rw [HLY.out]; exact HT.out.trans hpu⟩
set_option maxRecDepth 100000 in
theorem Text_any (w : World) (p : Nat) (v : Value) (xs ys : List Int) (ad : Option Addr) (n cap : Nat) (h : WrW w p v xs) (hb : Bs w w.heap.size ad ys) (hn : n = ys.length) (h0 : ad = none → cap = 0 ∧ n = 0)
    (hd : ∀ b o, ad = some ⟨b, o, none⟩ → b ≠ p ∧ v.ownBlock ≠ some b) (hl : xs.length ≤ 90000000000000) (hn2 : n ≤ 1000000000) :
    Calls Try.prog 45 #[.pointer (some ⟨p, 0, none⟩), .slice ad n cap] w (TextPost w p v xs ys) := Text_any0 w p v xs ys ad n cap h hb hn h0 (fun _ => hd) hl hn2
set_option maxRecDepth 100000 in
theorem Text_good (w : World) (p : Nat) (v : Value) (xs ys : List Int) (ad : Option Addr) (n cap : Nat) (h : WrW w p v xs) (hb : Bs w w.heap.size ad ys) (hn : n = ys.length) (h0 : ad = none → cap = 0 ∧ n = 0)
    (hd : ∀ b o, ad = some ⟨b, o, none⟩ → b ≠ p ∧ v.ownBlock ≠ some b) (hl : xs.length ≤ 90000000000000) (hn2 : n ≤ 65535) :
    Calls Try.prog 45 #[.pointer (some ⟨p, 0, none⟩), .slice ad n cap] w fun e w' => e = .returned (.int .i64 0) ∧ ∃ v', WrTo w p v w' v' (layT xs ys) := by
  refine (Text_any w p v xs ys ad n cap h hb hn h0 hd hl (by omega)).mono ?_
  rintro e w' ⟨h1, h2⟩
  rw [show textOk ys = true by unfold textOk; simp; omega] at h1 h2
  exact ⟨h1, h2⟩
end Go.Proofs.Ytplckmoeaeabgaa
