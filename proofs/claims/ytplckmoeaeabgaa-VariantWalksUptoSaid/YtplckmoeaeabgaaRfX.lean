/-
  The contract of the plain twin's ReadText (layer 5).
-/
import Derived.Test.YtplckmoeaeabgaaRfR
import Derived.Test.YtplckmoeaeabgaaWrX
namespace Go.Proofs.Ytplckmoeaeabgaa
open Go Go.ChangeShapes Go.WideShapes Go.ChangeAt Go.RowKit

def RdTextPost (w : World) (r : List Int × Nat × Int) (e : Ending) (w' : World) : Prop :=
  ∃ tv, e = .returned (.tuple #[tv, .int .i64 r.2.1, .int .i64 r.2.2]) ∧ w'.ownsRow w.heap.size 5 1 tv r.1.length (u8l r.1) ∧ Below w.heap.size w w'
set_option maxRecDepth 100000 in
set_option maxHeartbeats 1000000 in
theorem ReadText_any (w : World) (ad : Option Addr) (cap L a : Nat) (xs : List Int) (m : Int) (hbs : Bs w w.heap.size ad xs) (hL : L = xs.length) (hb : Byt xs) (hl : L ≤ 140737488351232) (ha : a ≤ L) (hc : L ≤ cap) (hc2 : cap ≤ 9223372036854775807) (hm1 : m ≤ 9223372036854775807) :
    Calls Try.prog 50 #[.slice ad L cap, .int .i64 a, .int .i64 m] w (RdTextPost w (rdT xs a m)) := by
  have HP := hid (Read_any w ad cap L a xs 4 hbs hL hb hl ha)
  have hpl := rd_place (b := xs) (a := a) (s := 4) (by omega)
  have hps := rd_pos (a := a) (s := 4) hb
  have h4 := rd_four (xs := xs) (a := a)
  obtain ⟨r, hr⟩ : ∃ r, r = rdT xs a m := ⟨_, rfl⟩
  rw [← hr]
  unfold rdT at hr
  unfold rdV at HP
  generalize rd xs a 4 = q at *
  obtain ⟨n, k, e⟩ := q
  simp only at HP hpl hps hr h4
  by_cases he : e = 0
  · subst he
    rw [if_neg (by simp)] at hr
    obtain ⟨N, rfl⟩ := Int.eq_ofNat_of_zero_le hps.1
    by_cases hm : m < 0 ∨ m < (N : Int)
    · rw [if_pos hm] at hr
      subst hr
      clear hbs hb hl hpl hc hc2
      by_cases hm0 : m < 0
      · have d0 : decide (m < 0) = true := by simpa using hm0
        clear hm hm0 hps hm1 ha h4 hL
        go_enter Try.func50, Try.ntmps50
        go_wp2_with fail
        refine HP.out.mono ?_
        rintro e w1 ⟨rfl, rfl⟩
        go_wp2
        go_ret3
        exact ⟨_, rfl, World.ownsRow_nil _ _ _ _, Below.refl _ _⟩
      · have d0 : decide (m < 0) = false := by simpa using hm0
        obtain ⟨M, rfl⟩ := Int.eq_ofNat_of_zero_le (show 0 ≤ m by omega)
        have hw : IntKind.u64.wrap (M : Int) = M := IntWalk.u64_in _ ⟨by omega, by omega⟩
        have d1 : decide (M < N) = true := by simp; omega
        clear hm hm0 hps hm1 ha h4 hL
        go_enter Try.func50, Try.ntmps50
        go_wp2_with fail
        refine HP.out.mono ?_
        rintro e w1 ⟨rfl, rfl⟩
        go_wp2
        go_ret3
        exact ⟨_, rfl, World.ownsRow_nil _ _ _ _, Below.refl _ _⟩
    · rw [if_neg hm] at hr
      obtain ⟨M, rfl⟩ := Int.eq_ofNat_of_zero_le (show 0 ≤ m by omega)
      have hw : IntKind.u64.wrap (M : Int) = M := IntWalk.u64_in _ ⟨by omega, by omega⟩
      have d0 : decide ((M : Int) < 0) = false := by simp
      have d1 : decide (M < N) = false := by simp; omega
      rw [← hL] at hpl hr
      have hw2 : IntKind.u64.wrap ((L : Int) - (k : Int)) = (L : Int) - (k : Int) := IntWalk.u64_in _ ⟨by omega, by omega⟩
      have HL := hid hL
      have HBS := hid hbs
      by_cases hsh : (L : Int) - (k : Int) < (N : Int)
      · rw [if_pos hsh] at hr
        subst hr
        have d2 : decide ((L : Int) - (k : Int) < (N : Int)) = true := by simpa using hsh
        clear hbs hb hm hm1 hps hL hsh hc hc2
        go_enter Try.func50, Try.ntmps50
        go_wp2_with fail
        refine HP.out.mono ?_
        rintro e w1 ⟨rfl, rfl⟩
        go_wp2
        go_ret3
        exact ⟨_, rfl, World.ownsRow_nil _ _ _ _, Below.refl _ _⟩
      · rw [if_neg hsh, Int.toNat_natCast] at hr
        have hk4 : 4 ≤ k := h4 rfl
        obtain ⟨b, o, rfl, _⟩ := hbs.some (by omega)
        obtain ⟨i0, hi, hz0, hz1, hz2⟩ := info_parts info5
        have hi' := hid hi
        have hz0' := hid hz0
        have hz1' := hid hz1
        have hz2' := hid hz2
        have d2 : decide ((L : Int) - (k : Int) < (N : Int)) = false := by simpa using hsh
        have hw3 : IntKind.i64.wrap (N : Int) = N := IntWalk.i64_in _ (by omega)
        have hw4 : IntKind.i64.wrap ((k : Int) + (N : Int)) = (k : Int) + (N : Int) := IntWalk.i64_in _ (by omega)
        have hkn : k + N ≤ L := by omega
        have hN9 : N ≤ 140737488351232 := by omega
        have hknc : k + N ≤ cap := by omega
        have hlen : ((xs.drop k).take N).length = N := by simp; omega
        have HLEN := hid hlen
        have HR := hid hr
        clear hbs hb hm hm1 hps hL hsh h4 hr hlen hi hz0 hz1 hz2
        go_enter Try.func50, Try.ntmps50
        go_wp2_with fail
        refine HP.out.mono ?_
        rintro e w1 ⟨rfl, rfl⟩
        clear d2
        have d2 : decide ((L : Int) - (k : Int) < (N : Int)) = false := by simp; omega
        by_cases hck : cap = k
        · obtain rfl : N = 0 := by omega
          subst hck
          go_wp2_with (at_builtin; go_loud (refine wpList_append_own_at _ (o := ⟨some 49, _, _, _, _, _⟩) rfl (.tmp 41) (.tmp 48) 30 rfl w.heap.size 5 i0 (.int .u8 0) 1 1 Try.underlying30 hi'.out hz0'.out hz1'.out hz2'.out rfl (by decide) (.slice none 0 0) 0 [] rfl (World.ownsRow_nil _ _ _ _) ⟨b, o, none⟩ 0 0 [] rfl rfl (fun j u h => by simp at h) (by simp) (by unfold maxLen; omega) (by omega) (Nat.le_refl _) ?_; intro v5 w5 hown5 hgrow5 hnil5 hat5; obtain ⟨a5, k5, rfl⟩ := own_form hown5; have HO5 := hid hown5; have HG5 := hid hgrow5; clear hown5 hgrow5 hnil5 hat5))
          go_ret3
          have hp := own_push (xs := []) (zs := []) (Below.refl _ w) (World.ownsRow_nil _ _ _ _) (Fr.refl _ w) HO5.out HG5.out
          rw [HR.out, List.take_zero]
          exact ⟨_, rfl, hp.1, hp.2⟩
        · have hnews : ∀ (j : Nat) (u : Value), (u8l ((xs.drop k).take N))[j]? = some u → w.cell? ((⟨b, o + k, none⟩ : Addr).add j) = some u := ((HBS.out.drop k).take N).news
          have HNW := hid hnews
          have HL1 := hid (show (u8l ((xs.drop k).take N)).length = (k + N - k) * 1 by rw [u8l_len, HLEN.out]; omega)
          clear hnews
          go_wp2_with (at_builtin; go_loud (refine wpList_append_own_at _ (o := ⟨some 49, _, _, _, _, _⟩) rfl (.tmp 41) (.tmp 48) 30 rfl w.heap.size 5 i0 (.int .u8 0) 1 1 Try.underlying30 hi'.out hz0'.out hz1'.out hz2'.out rfl (by decide) (.slice none 0 0) 0 [] rfl (World.ownsRow_nil _ _ _ _) ⟨b, o + k, none⟩ (k + N - k) (cap - k) (u8l ((xs.drop k).take N)) rfl HL1.out HNW.out (u8l_one _) (by unfold maxLen; omega) (by omega) (Nat.le_refl _) ?_; intro v5 w5 hown5 hgrow5 hnil5 hat5; obtain ⟨a5, k5, rfl⟩ := own_form hown5; have HO5 := hid hown5; have HG5 := hid hgrow5; clear hown5 hgrow5 hnil5 hat5))
          go_ret3
          have hp := own_push (xs := []) (zs := (xs.drop k).take N) (Below.refl _ w) (World.ownsRow_nil _ _ _ _) (Fr.refl _ w) HO5.out HG5.out
          rw [List.nil_append, show 0 + (k + N - k) = N by omega] at hp
          rw [HR.out]
          exact ⟨_, rfl, hp.1, hp.2⟩
  · rw [if_pos he] at hr
    subst hr
    have hd : (e != 0) = true := by simpa using he
    clear hbs hb hl he hpl hps hm1 hc hc2 ha h4 hL
    go_enter Try.func50, Try.ntmps50
    go_wp2_with fail
    refine HP.out.mono ?_
    rintro e w1 ⟨rfl, rfl⟩
    go_wp2
    go_ret3
    exact ⟨_, rfl, World.ownsRow_nil _ _ _ _, Below.refl _ _⟩
end Go.Proofs.Ytplckmoeaeabgaa
