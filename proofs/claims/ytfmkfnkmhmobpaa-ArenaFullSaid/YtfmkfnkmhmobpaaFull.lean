/-
  ArenaFull's walk.
-/
import Derived.Test.YtfmkfnkmhmobpaaArFrame
import Derived.Test.YtfmkfnkmhmobpaaArP
namespace Go.Proofs.Ytfmkfnkmhmobpaa
open Go.ChangeShapes Go.WideShapes Go.ChangeAt Go.RowKit

/-- An arena of n places, of which the first k are taken, with their handles. -/
structure FullInv (w0 : World) (n k b : Nat) (S : Nat → Prop) (A : Ar) (l : List Int) (lv : Value) (wr : World) : Prop where
  ar : InS S wr w0.heap.size A
  ge : ∀ j, S j → w0.heap.size ≤ j
  below : Below w0.heap.size w0 wr
  lr : HRow S w0.heap.size wr lv l
  most : A.most = n
  first : A.first = 1
  fr : A.F = []
  len : A.L.length = k
  tk : ∀ (q : Nat) (s : Spot), A.L[q]? = some s → s.t = true ∧ s.g ≤ b
  ll : l.length = k
  lh : ∀ (q : Nat) (h : Int), l[q]? = some h → ∃ s : Spot, A.L[q]? = some s ∧ h = hand q s.g
theorem cnt_all (L : List Spot) (h : ∀ (q : Nat) (s : Spot), L[q]? = some s → s.t = true) : cnt L = L.length := by
  unfold cnt
  rw [List.filter_eq_self.2 (fun s hs => by obtain ⟨q, hq⟩ := mem_at hs; exact h q s hq)]

set_option maxHeartbeats 2000000 in
set_option maxRecDepth 100000 in
theorem Full_any (w : World) (m : Int) (ad : Option Addr) (cap : Nat) (ds : List Int) (hm : I64 m) (hl : Ints w w.heap.size ad ds) : Calls Try.prog 9 #[.int .i64 m, .slice ad ds.length cap] w fun e w' => e = .returned (.bool true) ∧ Below w.heap.size w w' := by
  have hp := hid (Pick_any m 60 w hm (by decide) (by decide))
  obtain ⟨n0, hn⟩ : ∃ n : Nat, m % 60 = n := ⟨(m % 60).toNat, by omega⟩
  have hn4 : n0 ≤ 59 := by omega
  rw [hn] at hp
  obtain ⟨n, hnn⟩ : ∃ n : Nat, n = 1 + n0 := ⟨_, rfl⟩
  have hnb : 1 ≤ n ∧ n ≤ 60 := by omega
  have hsum : (1 + (n0 : Int)) = (n : Int) := by omega
  have HL := hid hl
  have HN := hid (New_int w (n : Int) 1 n 1 (by omega) rfl (by omega) (by omega))
  obtain ⟨i0, hi, hz0, hz1, hz2⟩ := info_parts info34
  have hi' := hid hi
  have hz0' := hid hz0
  have hz1' := hid hz1
  have hz2' := hid hz2
  clear hn hl hi hz0 hz1 hz2 hnn
  go_enter Try.func9, Try.ntmps9
  go_wp2_with fail
  refine hp.out.mono ?_
  rintro e w' ⟨rfl, rfl⟩
  go_wp2_with fail
  refine HN.out.mono ?_
  rintro e w1 ⟨rfl, i1, b1⟩
  clear hp HN hsum
  go_wp2
  go_loopw [8, 9] (fun lv i wr => ∃ k : Nat, k ≤ n ∧ i = .int .i64 k ∧ ∃ S A l, FullInv w n k 1 S A l lv wr) (fun _ i _ => n - (intOf i).toNat)
  case atStart =>
    refine ⟨0, by omega, rfl, _, _, [], ⟨i1, fun j h => by omega, b1, HRow.nil _ _ _, rfl, rfl, rfl, rfl, fun q s h => by simp [new] at h, rfl, fun q h hq => by simp at hq⟩⟩
  case round =>
    obtain ⟨k, hk1, rfl, S, A, l, R⟩ := hrel
    clear i1 b1
    by_cases hlt : k < n
    · have hput : Put A k A.L.length A.first { A with L := A.L ++ [⟨k, A.first, true⟩] } := .fresh R.fr (by rw [R.len, R.most]; exact hlt)
      have hc := Put_some S wr _ A _ _ _ k R.ar hput
      unfold PutPost at hc
      rw [R.len, R.first] at hc
      obtain ⟨hd, hhd⟩ : ∃ hd, hd = hand k 1 := ⟨_, rfl⟩
      rw [← hhd] at hc
      have HHD := hid hhd
      have HC := hid hc
      have HR := hid R
      have hll := R.ll
      obtain ⟨gad, gk, rfl⟩ := R.lr.shape
      have HLL := hid hll
      have hlb : l.length ≤ 60 := by omega
      clear R hc hput hhd hll
      go_wp2_with (first | (go_at_call 22; refine HC.out.mono ?_; rintro e w2 ⟨rfl, i2, f2⟩; have H4 := hid (HR.out.lr.fr f2); have H2 := hid i2; have HF2 := hid f2; clear i2 f2) | (at_builtin; refine wpList_append_lies _ (o := ⟨some 48, _, _, _, _, _⟩) rfl (.tmp 45) (.tmp 47) 37 rfl w.heap.size 34 i0 (.int .u64 0) 1 8 Try.underlying37 hi'.out hz0'.out hz1'.out hz2'.out rfl (by decide) (.slice gad l.length gk) l.length _ rfl (H4.out.own.alloc _) ⟨w2.heap.size, 0, none⟩ 1 1 [.int .u64 hd] rfl rfl (one_news _ _ _ _ rfl) (by simp [Value.oneCell']) (by decide) (by unfold maxLen; omega) (by omega) (by have := HR.out.below.size; have := HF2.out.size; simp; omega) (w2.heap.size + 1) (by simp) ?_; intro g5 k5 w5 hown5 hgrow5 hat5 hlt5; have HO5 := hid hown5; have HG5 := hid hgrow5; have HA5 := hid hat5; clear hown5 hgrow5 hat5))
      have hB2 := below_on HR.out.below HF2.out HR.out.ge
      obtain ⟨n1, n2, n3, n4⟩ := H4.out.app H2.out hB2 hB2.size HO5.out HG5.out HA5.out
      go_roundw
      case rel =>
        refine ⟨k + 1, by omega, by go_num, _, _, l ++ [hd], ⟨n2, ext_ge HR.out.ge HR.out.below.size, n3, by simpa using n1, HR.out.most, by first | exact HR.out.first | rfl, HR.out.fr, by simp [HR.out.len], ?_, by simp [HR.out.ll], ?_⟩⟩
        · intro q s hq
          simp only at hq
          by_cases e : q < A.L.length
          · rw [List.getElem?_append_left e] at hq; exact HR.out.tk q s hq
          · rw [List.getElem?_append_right (by omega)] at hq
            have := List.mem_of_getElem? hq
            simp at this
            subst this
            exact ⟨rfl, by simp⟩
        · intro q h hq
          by_cases e : q < l.length
          · rw [List.getElem?_append_left e] at hq
            obtain ⟨s, h1, h2⟩ := HR.out.lh q h hq
            exact ⟨s, by simp only; rw [List.getElem?_append_left (List.getElem?_eq_some_iff.1 h1).1]; exact h1, h2⟩
          · have hql : q < (l ++ [hd]).length := (List.getElem?_eq_some_iff.1 hq).1
            simp at hql
            have e2 : q = k := by have := HR.out.ll; omega
            subst e2
            rw [List.getElem?_append_right (by omega)] at hq
            have := List.mem_of_getElem? hq
            simp at this
            subst this
            exact ⟨⟨q, 1, true⟩, by simp [HR.out.len], HHD.out⟩
      case measure => simp [intOf]; omega
    · obtain rfl : k = n := by omega
      have hfull : Full A := ⟨R.fr, by rw [R.len, R.most]⟩
      have hc := Put_full S wr _ A 0 R.ar hfull
      obtain ⟨gad, gk, rfl⟩ := R.lr.shape
      have HR := hid R
      clear R hfull hlt
      go_wp2_with (refine hc.mono ?_; rintro e w2 ⟨rfl, f2⟩)
      have i2 : FullInv w k k 1 S A l (.slice gad l.length gk) w2 := ⟨HR.out.ar.fr f2 (fun _ _ e => e), HR.out.ge, HR.out.below.trans (f2.below HR.out.below.size (fun _ e => e.elim)), HR.out.lr.no f2, HR.out.most, HR.out.first, HR.out.fr, HR.out.len, HR.out.tk, HR.out.ll, HR.out.lh⟩
      have hl0 := HR.out.ll
      obtain ⟨lv, hlv⟩ : ∃ lv, lv = Value.slice gad l.length gk := ⟨_, rfl⟩
      rw [hl0] at hlv
      have HLV := hid hlv
      rw [hl0] at i2 ⊢
      rw [← hlv] at i2 ⊢
      clear HR f2 hc hl0 hlv
      go_loopw [14] (fun i wr => ∃ r : Nat, r ≤ 100 ∧ r ≤ ds.length ∧ i = .int .i64 r ∧ ∃ S A l, FullInv w k k (1 + r) S A l lv wr) (fun i _ => 100 - (intOf i).toNat)
      case atStart => exact ⟨0, by omega, by omega, rfl, S, A, l, i2⟩
      case round =>
        clear i2
        obtain ⟨r, hr1, hr2, rfl, S, A, l, R⟩ := hrel
        by_cases hlt : r < ds.length ∧ r < 100
        · obtain ⟨hrl, hr100⟩ := hlt
          have hx : ds[r]? = some ds[r] := List.getElem?_eq_getElem hrl
          have hxok := HL.out.ok ds[r] (List.getElem_mem hrl)
          generalize ds[r] = x at hx hxok
          obtain ⟨a, rfl, hab⟩ := HL.out.some (by omega)
          have x0 := (HL.out.below R.below).at' r a x rfl hx
          obtain ⟨i, hi⟩ : ∃ i : Nat, x % (k : Int) = i := ⟨(x % (k : Int)).toNat, by have := Int.emod_nonneg x (show (k : Int) ≠ 0 by omega); omega⟩
          have hik : i < k := by have := Int.emod_lt_of_pos x (show (0 : Int) < k by omega); omega
          have hpk := Pick_any x k wr hxok (by omega) (by omega)
          rw [hi] at hpk
          have HPK := hid hpk
          have hil : i < l.length := by have := R.ll; omega
          have hy : l[i]? = some l[i] := List.getElem?_eq_getElem hil
          generalize l[i] = z at hy
          obtain ⟨s, hs, hz⟩ := R.lh i z hy
          obtain ⟨ht, hsg⟩ := R.tk i s hs
          have hfd : Found A z i s := ⟨hs, ht, hz⟩
          have hbd := hfd.bd R.ar.ok
          have hlt0 : i < A.L.length := (List.getElem?_eq_some_iff.1 hs).1
          have hdr : dropAt A i s = { A with L := A.L.set i ⟨0, s.g + 1, false⟩, F := A.F ++ [i] } := by unfold dropAt; rw [if_pos (by omega)]
          have hput : Put (dropAt A i s) s.x i (s.g + 1) { dropAt A i s with L := (dropAt A i s).L.set i ⟨s.x, s.g + 1, true⟩, F := [] } :=
            Put.again [] i ⟨0, s.g + 1, false⟩ (by rw [hdr, R.fr]) (by rw [hdr]; exact List.getElem?_set_self hlt0)
          obtain ⟨A2, hA2⟩ : ∃ A2, A2 = { dropAt A i s with L := (dropAt A i s).L.set i ⟨s.x, s.g + 1, true⟩, F := [] } := ⟨_, rfl⟩
          rw [← hA2] at hput
          have hA2' : A2 = { A with L := A.L.set i ⟨s.x, s.g + 1, true⟩, F := [] } := by rw [hA2, hdr]; simp
          have hfull : Full A2 := by rw [hA2']; exact ⟨rfl, by simp [R.len, R.most]⟩
          have hcd := Drop_again S wr _ A i s z R.ar hfd (by omega)
          have hcn : cnt A2.L = k := by
            rw [cnt_all, hA2']
            · simp [R.len]
            · intro q t hq
              rw [hA2'] at hq
              simp only at hq
              by_cases e : i = q
              · subst e; rw [List.getElem?_set_self hlt0] at hq; cases hq; rfl
              · rw [List.getElem?_set_ne e] at hq; exact (R.tk q t hq).1
          obtain ⟨hd2, hhd2⟩ : ∃ hd2, hd2 = hand i (s.g + 1) := ⟨_, rfl⟩
          have hdb : 0 ≤ hd2 ∧ hd2 ≤ 18446744073709551615 := by rw [hhd2]; unfold hand; omega
          have e1 : z % 4294967296 = (i : Int) + 1 := by rw [hz]; unfold hand; omega
          have e2 : hd2 % 4294967296 = (i : Int) + 1 := by rw [hhd2]; unfold hand; omega
          obtain ⟨g, gk2, hlf⟩ := R.lr.form (by have := R.ll; omega)
          have hll2 := R.ll
          rw [hll2] at hlf
          have hgk := hid hlf
          have hlr := R.lr
          rw [hlf] at hlr
          have hyc := hlr.cell hll2.symm i z hy
          have hzf := hlr.fz hll2.symm i
          subst hlf
          have HCD := hid hcd
          have HR := hid R
          have HPUT := hid hput
          have HFULL := hid hfull
          have HA2 := hid hA2'
          have HY := hid hy
          have HHD2 := hid hhd2
          have HE1 := hid e1
          have HE2 := hid e2
          have HCN := hid hcn
          have HLR := hid hlr
          obtain ⟨hd20, hd21⟩ := hdb
          obtain ⟨hz0, hz1⟩ := hbd
          have HLL2 := hid hll2
          have HS := hid hs
          have HLT0 := hid hlt0
          clear hcd R hput hfull hA2 hA2' hx hxok hy hs hz ht hsg hfd hdr hhd2 e1 e2 hi hpk hcn hlr hll2 hlt0
          go_wp2_with fail
          refine HPK.out.mono ?_
          rintro e w' ⟨rfl, rfl⟩
          go_wp2_with fail
          refine HCD.out.mono ?_
          rintro e w2 ⟨rfl, j2, f2⟩
          have q2 := Put_some _ w2 _ _ _ _ _ s.x j2 HPUT.out
          unfold PutPost at q2
          rw [← HHD2.out] at q2
          have J2 := hid j2
          have F2 := hid f2
          have Q2 := hid q2
          clear j2 f2 q2
          go_wp2_with fail
          refine Q2.out.mono ?_
          rintro e w3 ⟨rfl, j3, f3⟩
          have q3 := Put_full _ w3 _ _ 0 j3 HFULL.out
          have J3 := hid j3
          have F3 := hid f3
          have Q3 := hid q3
          clear j3 f3 q3
          go_wp2_with fail
          refine Q3.out.mono ?_
          rintro e w4 ⟨rfl, f4⟩
          have j4 := J3.out.fr f4 (fun _ _ e => e)
          have q4 := Len_some _ w4 _ _ j4
          rw [HCN.out] at q4
          have l4 := ((HLR.out.fr F2.out).fr F3.out).no f4
          have y4 := l4.cell HLL2.out.symm i z HY.out
          have z4 := l4.fz HLL2.out.symm i
          have J4 := hid j4
          have Q4 := hid q4
          have L4 := hid l4
          have F4 := hid f4
          have E1 := HE1.out
          have E2 := HE2.out
          clear j4 q4 l4 f4 hyc hzf x0
          go_wp2_with (refine Q4.out.mono ?_; rintro e w5 ⟨rfl, rfl⟩)
          have hgS : ¬ ext (ext S wr w2) w2 w3 g := L4.out.off g rfl
          have hgw : w.heap.size ≤ g := (L4.out.own.lt g rfl).1
          have s1 := F2.out.size
          have s2 := HR.out.below.size
          have b2 := below_on HR.out.below F2.out HR.out.ge
          have g2 := ext_ge (w' := w2) HR.out.ge s2
          have b3 := below_on b2 F3.out g2
          have g3 := ext_ge (w := w2) (w' := w3) g2 (by omega)
          have b4 : Below w.heap.size w w4 := b3.trans (F4.out.below b3.size (fun _ e => e.elim))
          go_roundw
          case rel =>
            refine ⟨r + 1, by omega, by omega, by go_num, _, A2, l.set i hd2, ⟨J4.out.fr ((Fr.refl (fun q => q = g) w4).setCell ⟨g, i, none⟩ _ (fun _ => rfl)) (fun q h1 h2 => hgS (h2 ▸ h1)), g3, b4.setCell (p := ⟨g, i, none⟩) hgw _, L4.out.put HLL2.out.symm hd2, ?_, ?_, ?_, ?_, ?_, ?_, ?_⟩⟩
            · rw [HA2.out]; exact HR.out.most
            · rw [HA2.out]; exact HR.out.first
            · rw [HA2.out]
            · rw [HA2.out]; simp [HR.out.len]
            · intro q t hq
              rw [HA2.out] at hq
              simp only at hq
              by_cases e : i = q
              · subst e; rw [List.getElem?_set_self HLT0.out] at hq; cases hq
                have := (HR.out.tk i s HS.out).2
                exact ⟨rfl, by simp; omega⟩
              · rw [List.getElem?_set_ne e] at hq
                obtain ⟨t1, t2⟩ := HR.out.tk q t hq
                exact ⟨t1, by omega⟩
            · simp [HLL2.out]
            · intro q h hq
              by_cases e : i = q
              · subst e
                rw [List.getElem?_set_self hil] at hq; cases hq
                exact ⟨⟨s.x, s.g + 1, true⟩, by rw [HA2.out]; exact List.getElem?_set_self HLT0.out, HHD2.out⟩
              · rw [List.getElem?_set_ne e] at hq
                obtain ⟨t, t1, t2⟩ := HR.out.lh q h hq
                exact ⟨t, by rw [HA2.out]; simp only; rw [List.getElem?_set_ne e]; exact t1, t2⟩
          case measure => simp [intOf]; omega
        · have hlt2 : r = ds.length ∨ r = 100 := by omega
          have HR := hid R
          clear R hlt
          rcases hlt2 with rfl | rfl
          all_goals
            go_wp2_with (refine (awake_any wr).mono ?_; rintro e w2 ⟨rfl, hb2⟩)
            all_goals
              go_ret
              exact ⟨rfl, HR.out.below.trans (hb2.mono HR.out.below.size)⟩
end Go.Proofs.Ytfmkfnkmhmobpaa
