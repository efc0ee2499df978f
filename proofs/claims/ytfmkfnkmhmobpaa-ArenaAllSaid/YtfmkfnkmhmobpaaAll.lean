/-
  ArenaAll's walk.
-/
import Derived.Test.YtfmkfnkmhmobpaaDoM
import Derived.Test.YtfmkfnkmhmobpaaBeg
import Derived.Test.YtfmkfnkmhmobpaaMixD
import Derived.Test.YtfmkfnkmhmobpaaPick
import Derived.Test.YtfmkfnkmhmobpaaRise
namespace Go.Proofs.Ytfmkfnkmhmobpaa
open Go.ChangeShapes Go.WideShapes Go.ChangeAt Go.RowKit

def LiesI (w : World) (a : Option Addr) (xs : List Int) : Prop := ∀ (j : Nat) (x : Int), xs[j]? = some x → ∃ g, a = some ⟨g, 0, none⟩ ∧ g < w.heap.size ∧ w.cell? ⟨g, j, none⟩ = some (.int .i64 x)
theorem LiesI.below {w w' : World} {a : Option Addr} {xs : List Int} (h : LiesI w a xs) (hB : Below w.heap.size w w') : LiesI w' a xs := fun j x hx => by
  obtain ⟨g, h1, h2, h3⟩ := h j x hx
  exact ⟨g, h1, by have := hB.size; omega, (hB.cell (p := ⟨g, j, none⟩) h2).trans h3⟩
theorem liesI_of_owns {w : World} {B n : Nat} {v : Value} {xs : List Int} (h : w.ownsRow B 3 1 v n (xs.map (Value.int .i64))) : ∃ a k, v = .slice a xs.length k ∧ LiesI w a xs := by
  have hl : n = xs.length := by have := h.1; simp at this; omega
  subst hl
  rcases h.2 with ⟨h1, h2⟩ | ⟨g, cap, cur, h1, _, h3, _⟩
  · refine ⟨none, 0, by rw [h1, h2], fun j x hx => ?_⟩
    have := (List.getElem?_eq_some_iff.1 hx).1; omega
  · refine ⟨_, cap, h1, fun j x hx => ⟨g, rfl, (Array.getElem?_eq_some_iff.1 h3).1, ?_⟩⟩
    have := h.cells (g := g) (by rw [h1]; rfl) j (.int .i64 x) (by simp [hx])
    have e : (⟨g, 0, none⟩ : Addr).add j = ⟨g, j, none⟩ := by
      cases j <;> simp [Addr.add]
    rwa [e] at this

theorem want_shape {w : World} {B n m k : Nat} {a : Option Addr} {xs : List Value} (h : w.ownsRow B 34 1 (.slice a m k) n xs) : m ≤ k ∧ ((a = none ∧ k = 0) ∨ ∃ g, a = some ⟨g, 0, none⟩) := by
  rcases h.2 with ⟨h1, h2⟩ | ⟨g, cap, cur, h1, _, _, h3, _⟩
  · cases h1; exact ⟨Nat.le_refl _, .inl ⟨rfl, rfl⟩⟩
  · cases h1; exact ⟨h3, .inr ⟨g, rfl⟩⟩
theorem u32_mod (h : Int) : IntKind.u32.wrap h = h % 4294967296 := by
  first | rfl | simp [IntKind.wrap]
def AllInv (w0 : World) (pp pA pR mo k : Nat) (w : World) : Prop := ∃ SA SR A given gv, PairInv w0 pp pA pR SA SR A A given gv w ∧ given.length ≤ k ∧ A.most = mo
/-- Behind the first three: the pair, all that it tells, twice; what lies there. -/
structure AllS (w0 : World) (pp pA pR : Nat) (SA SR : Nat → Prop) (A : Ar) (given : List Int) (gv : Value) (aW aL aX : Option Addr) (w : World) : Prop where
  pr : PairInv w0 pp pA pR SA SR A A given gv w
  lw : Lies w aW (allF 0 A.L)
  ll : Lies w aL (allF 0 A.L)
  lx : LiesI w aX ((pairF 0 A.L).map (·.2))
theorem AllS.below {w0 w w' : World} {pp pA pR : Nat} {SA SR : Nat → Prop} {A : Ar} {given : List Int} {gv : Value} {aW aL aX : Option Addr} (h : AllS w0 pp pA pR SA SR A given gv aW aL aX w) (hB : Below w.heap.size w w') : AllS w0 pp pA pR SA SR A given gv aW aL aX w' :=
  ⟨h.pr.no (Fr.of_below hB), h.lw.below hB, h.ll.below hB, h.lx.below hB⟩

set_option maxHeartbeats 4000000 in
set_option maxRecDepth 100000 in
theorem AllLaw_any (w : World) (m st : Int) (ad : Option Addr) (cap : Nat) (l : List Act4) (hm : I64 m) (hst : I64 st) (hl : Acts w w.heap.size ad l) (_ : l.length ≤ 9223372036854775807) :
    Calls Try.prog 4 #[.int .i64 m, .slice ad l.length cap, .int .i64 st] w fun e w' => e = .returned (.bool true) ∧ Below w.heap.size w w' := by
  have hp := hid (Pick_any m 40 w hm (by decide) (by decide))
  obtain ⟨n, hn⟩ : ∃ n : Nat, m % 40 = n := ⟨(m % 40).toNat, by omega⟩
  have hn4 : n ≤ 39 := by omega
  rw [hn] at hp
  have hb := hid (begun_some w w (1 + (n : Int)) 1 (1 + n) 1 (by omega) rfl (by omega) (by omega) (Below.refl _ _))
  have HL := hid hl
  have HST := hid hst
  clear hn hl hst hm
  go_enter Try.func4, Try.ntmps4
  go_wp2_with fail
  refine hp.out.mono ?_
  rintro e w' ⟨rfl, rfl⟩
  go_wp2_with fail
  refine hb.out.mono ?_
  rintro e w1 ⟨rfl, i1⟩
  clear hp hb
  obtain ⟨pp, hpp⟩ : ∃ pp, pp = w.heap.size + 2 := ⟨_, rfl⟩
  obtain ⟨pA, hpA⟩ : ∃ pA, pA = w.heap.size := ⟨_, rfl⟩
  obtain ⟨pR, hpR⟩ : ∃ pR, pR = w.heap.size + 1 := ⟨_, rfl⟩
  rw [← hpp] at i1 ⊢
  have hi1 : AllInv w pp pA pR (1 + n) 0 w1 := ⟨_, _, _, [], _, by rw [hpA, hpR]; exact i1, by simp, rfl⟩
  clear i1 hpp hpA hpR
  go_wp2
  go_loopw [8] (fun i wr => ∃ k : Nat, k ≤ l.length ∧ k ≤ 200 ∧ i = .int .i64 k ∧ AllInv w pp pA pR (1 + n) k wr) (fun i _ => 200 - (intOf i).toNat)
  case atStart => exact ⟨0, by omega, by omega, rfl, hi1⟩
  case round =>
    clear hi1
    obtain ⟨k, hk1, hk2, rfl, SA, SR, A, given, gv, R, r6, r7⟩ := hrel
    by_cases hlt : k < l.length ∧ k < 200
    · obtain ⟨hkl, hk200⟩ := hlt
      have hx : l[k]? = some l[k] := List.getElem?_eq_getElem hkl
      have hxok := HL.out.ok l[k] (List.getElem_mem hkl)
      generalize l[k] = x at hx hxok
      obtain ⟨a, rfl, hab⟩ := HL.out.some (by omega)
      have hac := HL.out.below R.below
      have x0 := hac.at0 k a x rfl hx
      have x1 := hac.at1 k a x rfl hx
      have x2 := hac.at2 k a x rfl hx
      have x3 := hac.at3 k a x rfl hx
      have hdo := DoM_any w wr pp pA pR SA SR A given gv x R hxok (by omega)
      have HDO := hid hdo
      have H7 := hid r7
      clear R hac hx hxok hdo r7
      go_wp2_with fail
      refine HDO.out.mono ?_
      rintro e w4 ⟨rfl, SA2, SR2, A2, given2, gv2, R2, q6, q7⟩
      have R2' := hid R2
      have Q7 := hid q7
      clear x0 x1 x2 x3 HDO R2 q7
      go_wp2
      go_roundw
      case rel => exact ⟨k + 1, by omega, by omega, by go_num, SA2, SR2, A2, given2, gv2, R2'.out, by omega, Q7.out.trans H7.out⟩
      case measure => simp [intOf]; omega
    · have hlt2 : k = l.length ∨ (k = 200 ∧ 200 < l.length) := by omega
      have hmo : A.L.length ≤ 40 := by have := R.ar.ok.len; omega
      have c0 := R.c0
      have c1 := R.c1
      have hall := hid (RAll_any SR wr pR A R.rr)
      have hn6 : (allF 0 A.L).length = cnt A.L := allF_len 0 A.L
      have hn7 := cnt_le A.L
      obtain ⟨N, hN⟩ : ∃ N, N = cnt A.L := ⟨_, rfl⟩
      have hN40 : N ≤ 40 := by omega
      have RR := hid R
      have HNN := hid hN
      have HN6 := hid hn6
      have HMO := hid hmo
      clear R hlt r7 hN hn6 hn7 hmo
      rcases hlt2 with rfl | ⟨rfl, h200⟩
      all_goals
        go_wp2_with fail
        refine hall.out.mono ?_
        rintro e w4 ⟨v4, rfl, hrow4, hb4⟩
        obtain ⟨aW, kW, rfl, lw4⟩ := lies_of_owns hrow4
        have HW := hid (want_shape hrow4)
        rw [HN6.out, ← HNN.out]
        have hR4 := RR.out.no (Fr.of_below hb4)
        have c0' := hR4.c0
        have hh := hid (handles_any SA pA A 1000 w4 hR4.ar (by omega) (by rw [pairF_len, ← HNN.out]; omega))
        have R4 := hid hR4
        have LW4 := hid lw4
        clear c0 hall hrow4 hb4 hR4 lw4
        go_wp2_with fail
        refine hh.out.mono ?_
        rintro e w5 ⟨lv, xv, rfl, hl5, hx5, hb5⟩
        have htk : (pairF 0 A.L).take (1000 : Int).toNat = pairF 0 A.L := List.take_of_length_le (by rw [pairF_len, ← HNN.out]; show N ≤ 1000; omega)
        rw [htk] at hl5 hx5
        rw [show (fun x : Int × Int => Value.int .u64 x.1) = Value.int .u64 ∘ (·.1) from rfl, ← List.map_map, pairF_fst] at hl5
        rw [show (fun x : Int × Int => Value.int .i64 x.2) = Value.int .i64 ∘ (·.2) from rfl, ← List.map_map] at hx5
        obtain ⟨aL, kL, rfl, ll5⟩ := lies_of_owns hl5
        obtain ⟨aX, kX, rfl, lx5⟩ := liesI_of_owns hx5
        rw [HN6.out, ← HNN.out, List.length_map, pairF_len, ← HNN.out]
        have S5 := hid (show AllS w pp pA pR SA SR A given gv aW aL aX w5 from ⟨R4.out.no (Fr.of_below hb5), LW4.out.below hb5, ll5, lx5⟩)
        have hsm := hid (Same_any w5 aL aW kL kW N (allF 0 A.L) (by rw [HN6.out, HNN.out]) (by omega) S5.out.ll S5.out.lw)
        clear c0' hl5 hx5 hb5 htk ll5 lx5 hh R4 LW4 RR
        go_wp2_with fail
        refine hsm.out.mono ?_
        rintro e w6 ⟨rfl, hb6⟩
        have S6 := hid (S5.out.below hb6)
        clear hsm S5 hb6
        go_wp2
        go_loopw [12] (fun i wr => ∃ q : Nat, q ≤ N ∧ i = .int .i64 q ∧ Below w6.heap.size w6 wr) (fun i _ => N - (intOf i).toNat)
        case atStart => exact ⟨0, by omega, rfl, Below.refl _ _⟩
        case round =>
          obtain ⟨q, hq1, rfl, hB⟩ := hrel
          have S7 := hid (S6.out.below hB)
          by_cases hql : q < N
          · have hqp : q < (pairF 0 A.L).length := by rw [pairF_len, ← HNN.out]; exact hql
            obtain ⟨y, hyq⟩ : ∃ y, (pairF 0 A.L)[q]? = some y := ⟨_, List.getElem?_eq_getElem hqp⟩
            obtain ⟨i, s, hs, ht, rfl⟩ := pairF_at A.L q y hyq
            have hi : i < 40 := by have := (List.getElem?_eq_some_iff.1 hs).1; have := HMO.out; omega
            obtain ⟨gl, hgl, _, cL⟩ := S7.out.ll q (hand i s.g) (by rw [← pairF_fst]; simp [hyq])
            obtain ⟨gx, hgx, _, cX⟩ := S7.out.lx q s.x (by simp [hyq])
            have d1 := S7.out.pr.c1
            obtain ⟨b, nR, kR, t1, t2, t3, t4, -⟩ := S7.out.pr.rr.thing hs
            have hgen := S7.out.pr.ar.ok.gen i s hs
            have hmod := hand_mod i s.g (by omega)
            have hU : 0 ≤ hand i s.g ∧ hand i s.g ≤ 18446744073709551615 := by unfold hand; omega
            have hat : Calls Try.prog 21 #[.pointer (some ⟨pR, 0, none⟩), .int .u64 (hand i s.g)] wr.drew fun e w' => e = .returned (.int .i64 i) ∧ wr.drew = w' := by
              refine (RAt_any SR wr.drew pR A _ (S7.out.pr.no (Fr.refl _ _).drew).rr).mono ?_
              rintro e w' ⟨rfl, ⟨i2, s2, ⟨h1, h2, h3⟩, rfl⟩ | ⟨h1, rfl⟩⟩
              · have hi2 : i2 < 40 := by have := (List.getElem?_eq_some_iff.1 h1).1; have := HMO.out; omega
                have e2 := hand_mod i2 s2.g (by omega)
                rw [← h3] at e2
                obtain rfl : i = i2 := by omega
                exact ⟨rfl, rfl⟩
              · exact absurd ⟨hs, ht, rfl⟩ (h1 i s)
            have hsp := Split_any (hand i s.g) wr hU.1 hU.2
            have hpre : ∀ q', q = q' + 1 → ∃ h' j : Nat, wr.cell? ⟨gl, q', none⟩ = some (.int .u64 (hand j h')) ∧ j < i := fun q' e => by
              subst e
              have hq' : q' < (pairF 0 A.L).length := by omega
              obtain ⟨y', hy'⟩ : ∃ y, (pairF 0 A.L)[q']? = some y := ⟨_, List.getElem?_eq_getElem hq'⟩
              obtain ⟨j, s', hs', ht', rfl⟩ := pairF_at A.L q' y' hy'
              obtain ⟨g2, hg2, _, cL'⟩ := S7.out.ll q' (hand j s'.g) (by rw [← pairF_fst]; simp [hy'])
              rw [hgl] at hg2; cases hg2
              have := pairF_step A.L (by have := HMO.out; omega) q' _ _ hy' hyq
              have hj : j < 40 := by have := (List.getElem?_eq_some_iff.1 hs').1; have := HMO.out; omega
              simp only at this
              rw [hmod, hand_mod j _ (by omega)] at this
              exact ⟨s'.g, j, cL', by omega⟩
            rw [hmod] at hsp
            obtain ⟨h, hh⟩ : ∃ h, h = hand i s.g := ⟨_, rfl⟩
            obtain ⟨sx, hsx⟩ : ∃ sx, sx = s.x := ⟨_, rfl⟩
            rw [← hh] at hmod hU cL hat hsp
            rw [← hsx] at cX t4
            rw [show (i : Int) + 1 - 1 = i from by omega] at hsp
            obtain ⟨gq, hgq⟩ : ∃ gq, gq = h / 4294967296 := ⟨_, rfl⟩
            rw [← hgq] at hsp
            subst hgl hgx
            have HAT := hid hat
            have HSP := hid hsp
            have HBB := hid hB
            have HMD := hid hmod
            have HPR := hid hpre
            clear hqp hyq hs ht hgen hU hat hsp hpre hmod hh hsx hgq hB
            go_wp2_with fail
            refine HSP.out.mono ?_
            rintro e w7 ⟨rfl, rfl⟩
            clear HSP
            go_wp2
            have e1 : IntKind.u32.wrap h = (i : Int) + 1 := by rw [u32_mod]; exact HMD.out
            have e2 := IntWalk.i64_in ((i : Int) + 1) (by omega)
            have e3 := IntWalk.i64_in ((i : Int) + 1 - 1) (by omega)
            have e4 := IntWalk.i64_in (i : Int) (by omega)
            rcases Nat.eq_zero_or_pos q with hq0 | hqpos
            · have hz1 : ¬ (0 : Int) < q := by omega
              have hz2 : ¬ 0 < q := by omega
              clear hq0
              refine D.wp_region_mix [0,0,0,1,0,0,0,1,0,0,1,0,0,0,1,0,0,0,1,2,0,0,1,0,0,0,0,0,0,0,0,1,0,0,0,0,0,1,0,0,0,0,0,0,0,0,0,1,0,0,0,0,0] (fun W => W.cell? ⟨gx, q, none⟩ = some (.int .i64 sx) ∧ W.cell? ⟨gl, q, none⟩ = some (.int .u64 h) ∧ W.cell? ⟨pp, 1, none⟩ = some (.pointer (some ⟨pR, 0, none⟩)) ∧ W.cell? ⟨pR, 2, none⟩ = some (.slice (some ⟨b, 0, none⟩) nR kR) ∧ W.cell? ⟨b, i * 3, none⟩ = some (.int .i64 sx)) (by kernel_rfl) (by kernel_rfl) ⟨cX, cL, d1, t1, t4⟩ ?_
              repeat (first
                | ((first | refine' C.wpMix_not (.inl rfl) rfl _ | refine' C.wpMix_not (.inr rfl) rfl _); simp only [Act.put, List.setIfInBounds_toArray, List.set_cons_zero, List.set_cons_succ])
                | (refine' C.wpMix_value _ rfl rfl _ _; rotate_left; (solve | (intro W; go_simp) | (intro W; go_simp; with_reducible rfl)); simp only [Act.put, List.setIfInBounds_toArray, List.set_cons_zero, List.set_cons_succ])
                | (refine' C.wpMix_read _ rfl rfl _ _; rotate_left; (solve | (rintro W ⟨h1, h2, h3, h4, h5⟩; go_simp) | (rintro W ⟨h1, h2, h3, h4, h5⟩; go_simp; with_reducible rfl)); simp only [Act.put, List.setIfInBounds_toArray, List.set_cons_zero, List.set_cons_succ]))
              refine C.wpMix_call 21 #[.pointer (some ⟨pR, 0, none⟩), .int .u64 h] (by decide) rfl (by go_simp) ?_
              refine HAT.out.mono ?_
              rintro e w7 ⟨rfl, rfl⟩
              refine ⟨_, rfl, fun _ => ⟨cX, cL, d1, t1, t4⟩, ?_⟩
              simp only [Act.put, List.setIfInBounds_toArray, List.set_cons_zero, List.set_cons_succ]
              repeat (first
                | ((first | refine' C.wpMix_not (.inl rfl) rfl _ | refine' C.wpMix_not (.inr rfl) rfl _); simp only [Act.put, List.setIfInBounds_toArray, List.set_cons_zero, List.set_cons_succ])
                | (refine' C.wpMix_value _ rfl rfl _ _; rotate_left; (solve | (intro W; go_simp) | (intro W; go_simp; with_reducible rfl)); simp only [Act.put, List.setIfInBounds_toArray, List.set_cons_zero, List.set_cons_succ])
                | (refine' C.wpMix_read _ rfl rfl _ _; rotate_left; (solve | (rintro W ⟨h1, h2, h3, h4, h5⟩; go_simp) | (rintro W ⟨h1, h2, h3, h4, h5⟩; go_simp; with_reducible rfl)); simp only [Act.put, List.setIfInBounds_toArray, List.set_cons_zero, List.set_cons_succ]))
              refine C.wpMix_end ?_
              go_wp2
              go_roundw
              case rel => exact ⟨q + 1, by omega, by go_num, HBB.out.drew⟩
              case measure => simp [intOf]; omega
            · obtain ⟨q', hqq⟩ : ∃ q', q = q' + 1 := ⟨q - 1, by omega⟩
              obtain ⟨g', j, cP, hji⟩ := HPR.out q' hqq
              have hz1 : (0 : Int) < q := by omega
              have hz3 : (q : Int) - 1 = (q' : Int) := by omega
              have hz4 : q' < N := by omega
              have hm2 := hand_mod j g' (by omega)
              obtain ⟨h', hh'⟩ : ∃ h', h' = hand j g' := ⟨_, rfl⟩
              rw [← hh'] at cP hm2
              clear hh' hqq
              have e5 := IntWalk.i64_in (q' : Int) (by omega)
              have e6 : IntKind.u32.wrap h' = (j : Int) + 1 := by rw [u32_mod]; exact hm2
              have hz5 : ¬ (i : Int) + 1 ≤ (j : Int) + 1 := by omega
              have hz6 : ¬ i ≤ j := by omega
              clear hm2
              refine D.wp_region_mix [0,0,0,1,0,0,0,1,0,0,1,0,0,0,1,0,0,0,1,2,0,0,1,0,0,0,0,0,0,0,0,1,0,0,0,0,0,1,0,0,0,0,0,0,0,0,0,1,0,0,0,0,0] (fun W => W.cell? ⟨gx, q, none⟩ = some (.int .i64 sx) ∧ W.cell? ⟨gl, q, none⟩ = some (.int .u64 h) ∧ W.cell? ⟨pp, 1, none⟩ = some (.pointer (some ⟨pR, 0, none⟩)) ∧ W.cell? ⟨pR, 2, none⟩ = some (.slice (some ⟨b, 0, none⟩) nR kR) ∧ W.cell? ⟨b, i * 3, none⟩ = some (.int .i64 sx) ∧ W.cell? ⟨gl, q', none⟩ = some (.int .u64 h')) (by kernel_rfl) (by kernel_rfl) ⟨cX, cL, d1, t1, t4, cP⟩ ?_
              repeat (first
                | ((first | refine' C.wpMix_not (.inl rfl) rfl _ | refine' C.wpMix_not (.inr rfl) rfl _); simp only [Act.put, List.setIfInBounds_toArray, List.set_cons_zero, List.set_cons_succ])
                | (refine' C.wpMix_value _ rfl rfl _ _; rotate_left; (solve | (intro W; go_simp) | (intro W; go_simp; with_reducible rfl)); simp only [Act.put, List.setIfInBounds_toArray, List.set_cons_zero, List.set_cons_succ])
                | (refine' C.wpMix_read _ rfl rfl _ _; rotate_left; (solve | (rintro W ⟨h1, h2, h3, h4, h5, h6⟩; go_simp) | (rintro W ⟨h1, h2, h3, h4, h5, h6⟩; go_simp; with_reducible rfl)); simp only [Act.put, List.setIfInBounds_toArray, List.set_cons_zero, List.set_cons_succ]))
              refine C.wpMix_call 21 #[.pointer (some ⟨pR, 0, none⟩), .int .u64 h] (by decide) rfl (by go_simp) ?_
              refine HAT.out.mono ?_
              rintro e w7 ⟨rfl, rfl⟩
              refine ⟨_, rfl, fun _ => ⟨cX, cL, d1, t1, t4, cP⟩, ?_⟩
              simp only [Act.put, List.setIfInBounds_toArray, List.set_cons_zero, List.set_cons_succ]
              repeat (first
                | ((first | refine' C.wpMix_not (.inl rfl) rfl _ | refine' C.wpMix_not (.inr rfl) rfl _); simp only [Act.put, List.setIfInBounds_toArray, List.set_cons_zero, List.set_cons_succ])
                | (refine' C.wpMix_value _ rfl rfl _ _; rotate_left; (solve | (intro W; go_simp) | (intro W; go_simp; with_reducible rfl)); simp only [Act.put, List.setIfInBounds_toArray, List.set_cons_zero, List.set_cons_succ])
                | (refine' C.wpMix_read _ rfl rfl _ _; rotate_left; (solve | (rintro W ⟨h1, h2, h3, h4, h5, h6⟩; go_simp) | (rintro W ⟨h1, h2, h3, h4, h5, h6⟩; go_simp; with_reducible rfl)); simp only [Act.put, List.setIfInBounds_toArray, List.set_cons_zero, List.set_cons_succ]))
              refine C.wpMix_end ?_
              go_wp2
              go_roundw
              case rel => exact ⟨q + 1, by omega, by go_num, HBB.out.drew⟩
              case measure => simp [intOf]; omega
          · obtain rfl : q = N := by omega
            obtain ⟨kk, hkk⟩ : ∃ kk : Nat, st % ((q : Int) + 1) = kk := ⟨(st % ((q : Int) + 1)).toNat, by have := Int.emod_nonneg st (show (q : Int) + 1 ≠ 0 by omega); omega⟩
            have hkN : kk ≤ q := by have := Int.emod_lt_of_pos st (show 0 < (q : Int) + 1 by omega); omega
            have hpk := hid (Pick_any st ((q : Int) + 1) wr HST.out (by omega) (by omega))
            rw [hkk] at hpk
            have d0 := S7.out.pr.c0
            have hh := hid (handles_any SA pA A (kk : Int) wr S7.out.pr.ar (by omega) (by rw [pairF_len, ← HNN.out]; omega))
            have HB6 := hid hB
            clear hkk hB
            go_wp2_with fail
            refine hpk.out.mono ?_
            rintro e w7 ⟨rfl, rfl⟩
            clear hpk
            go_wp2_with fail
            refine hh.out.mono ?_
            rintro e w8 ⟨lv, xv, rfl, hl8, -, hb8⟩
            have htl : ((pairF 0 A.L).take (kk : Int).toNat).length = kk := by
              rw [List.length_take, pairF_len, ← HNN.out]; simp; omega
            rw [show (fun x : Int × Int => Value.int .u64 x.1) = Value.int .u64 ∘ (·.1) from rfl, ← List.map_map, List.map_take, pairF_fst] at hl8
            obtain ⟨aP, kP, rfl, lp8⟩ := lies_of_owns hl8
            have htl2 : ((allF 0 A.L).take (kk : Int).toNat).length = kk := by
              rw [List.length_take, HN6.out, ← HNN.out]; simp; omega
            rw [htl2]
            have S8 := hid (S7.out.below hb8)
            have hsm := fun b kb (h : Lies w8 b ((allF 0 A.L).take (kk : Int).toNat)) => Same_any w8 aP b kP kb kk _ htl2.symm (by omega) lp8 h
            have HSM := hid hsm
            have HLW := hid (S8.out.lw.take (kk : Int).toNat)
            have haw := hid awake_any
            clear hl8 htl htl2 lp8 hsm hb8 hh d0
            obtain ⟨hNk, hsh⟩ := HW.out
            rw [HN6.out, ← HNN.out] at hNk
            rcases hsh with ⟨rfl, rfl⟩ | ⟨gw, rfl⟩
            · obtain rfl : kk = 0 := by omega
              go_wp2_with fail
              refine (HSM.out _ _ HLW.out).mono ?_
              rintro e w9 ⟨rfl, hb9⟩
              have B9 := hid (S8.out.pr.below.trans (hb9.mono S8.out.pr.below.size))
              go_wp2_with fail
              refine (haw.out w9).mono ?_
              rintro e w10 ⟨rfl, hb10⟩
              go_wp2
              go_ret
              exact ⟨rfl, B9.out.trans (hb10.mono B9.out.size)⟩
            · go_wp2_with fail
              refine (HSM.out _ _ HLW.out).mono ?_
              rintro e w9 ⟨rfl, hb9⟩
              have B9 := hid (S8.out.pr.below.trans (hb9.mono S8.out.pr.below.size))
              go_wp2_with fail
              refine (haw.out w9).mono ?_
              rintro e w10 ⟨rfl, hb10⟩
              go_wp2
              go_ret
              exact ⟨rfl, B9.out.trans (hb10.mono B9.out.size)⟩
end Go.Proofs.Ytfmkfnkmhmobpaa
