/-
  ArenaPlays' walk.
-/
import Derived.Test.YtfmkfnkmhmobpaaDo
import Derived.Test.YtfmkfnkmhmobpaaBeg
import Derived.Test.YtfmkfnkmhmobpaaMixD
namespace Go.Proofs.Ytfmkfnkmhmobpaa
open Go.ChangeShapes Go.WideShapes Go.ChangeAt Go.RowKit

def PlaysInv (w0 : World) (pp pA pR k : Nat) (w : World) : Prop := ∃ SA SR A given gv, PairInv w0 pp pA pR SA SR A A given gv w ∧ given.length ≤ k
set_option maxHeartbeats 4000000 in
set_option maxRecDepth 100000 in
theorem Plays_any (w : World) (m f : Int) (ad : Option Addr) (cap : Nat) (l : List Act4) (hm : I64 m) (hf : 0 ≤ f ∧ f ≤ 4294967295) (hl : Acts w w.heap.size ad l) (hll : l.length ≤ 9223372036854775807) :
    Calls Try.prog 3 #[.int .i64 m, .int .u32 f, .slice ad l.length cap] w fun e w' => e = .returned (.bool true) ∧ Below w.heap.size w w' := by
  by_cases hbad : m < 1 ∨ 65536 < m ∨ f = 0
  · have p1 := New_not m f w hbad
    have p2 := RNew_not m f w hbad
    clear hbad hl hll
    go_enter Try.func3, Try.ntmps3
    go_wp2_with (first | (go_at_call 10; refine p1.mono ?_; rintro e w' ⟨rfl, rfl⟩) | (go_at_call 11; refine p2.mono ?_; rintro e w' ⟨rfl, rfl⟩) | (go_at_call 12; refine (awake_any _).mono ?_; rintro e w2 ⟨rfl, hb⟩))
    go_ret
    exact ⟨rfl, hb⟩
  · obtain ⟨mn, hmn⟩ : ∃ mn : Nat, m = mn := ⟨m.toNat, by omega⟩
    obtain ⟨fn, hfn⟩ : ∃ fn : Nat, f = fn := ⟨f.toNat, by omega⟩
    subst hmn
    subst hfn
    have hmb : 1 ≤ mn ∧ mn ≤ 65536 := by omega
    have hfb : 1 ≤ fn ∧ fn ≤ 4294967295 := by omega
    have p1 := New_some w mn fn hmb hfb
    have p2 := fun W => RNew_any mn fn W (by omega) (by omega) (by omega) (by omega)
    have p3 := fun W hB => begun_some w W mn fn mn fn rfl rfl hmb hfb hB
    have P2 := hid p2
    have P3 := hid p3
    have HL := hid hl
    clear hbad hl p2 p3 hm hf hmb hfb hll
    go_enter Try.func3, Try.ntmps3
    go_wp2_with fail
    refine p1.mono ?_
    rintro e w1 ⟨rfl, i1, b1⟩
    clear i1 p1
    go_wp2_with fail
    refine (P2.out _).mono ?_
    rintro e w2 ⟨rfl, hw2⟩
    have b2 : Below w.heap.size w w2 := by rw [hw2]; exact b1.alloc b1.size _
    have p4 := P3.out w2 b2
    clear P2 P3 hw2 b1
    go_wp2_with fail
    refine p4.mono ?_
    rintro e w3 ⟨rfl, i3⟩
    obtain ⟨pp, hpp⟩ : ∃ pp, pp = w2.heap.size + 2 := ⟨_, rfl⟩
    obtain ⟨pA, hpA⟩ : ∃ pA, pA = w2.heap.size := ⟨_, rfl⟩
    obtain ⟨pR, hpR⟩ : ∃ pR, pR = w2.heap.size + 1 := ⟨_, rfl⟩
    rw [← hpp] at i3 ⊢
    have hi3 : PlaysInv w pp pA pR 0 w3 := ⟨_, _, _, [], _, by rw [hpA, hpR]; exact i3, by simp⟩
    clear p4 i3 hpp hpA hpR b2
    go_wp2
    go_loopw [10] (fun i wr => ∃ k : Nat, k ≤ l.length ∧ k ≤ 200 ∧ i = .int .i64 k ∧ PlaysInv w pp pA pR k wr) (fun i _ => 200 - (intOf i).toNat)
    case atStart => exact ⟨0, by omega, by omega, rfl, hi3⟩
    case round =>
      clear hi3
      obtain ⟨k, hk1, hk2, rfl, SA, SR, A, given, gv, R, r6⟩ := hrel
      by_cases hlt : k < l.length ∧ k < 200
      · obtain ⟨hkl, hk200⟩ := hlt
        have hx : l[k]? = some l[k] := List.getElem?_eq_getElem hkl
        have hxok := HL.out.ok l[k] (List.getElem_mem hkl)
        generalize l[k] = x at hx hxok
        obtain ⟨a, rfl, hab⟩ := HL.out.some (by omega)
        have Rd := R.no (Fr.refl _ _).drew
        have hac := HL.out.below R.below
        have x0 := hac.at0 k a x rfl hx
        have x1 := hac.at1 k a x rfl hx
        have x2 := hac.at2 k a x rfl hx
        have x3 := hac.at3 k a x rfl hx
        have c0 := R.c0
        have c1 := R.c1
        have hdo := Do_any w wr.drew pp pA pR SA SR A given gv x Rd hxok (by omega)
        have HDO := hid hdo
        have HX := hid hx
        clear R Rd hac hx hxok hdo
        go_wp2
        refine D.wp_region_mix [0, 0, 0, 0, 1, 2, 0, 0, 0, 0, 0, 1, 2, 0, 0, 0, 1, 2, 0, 0, 0] (fun W => W.cell? ⟨pp, 0, none⟩ = some (.pointer (some ⟨pA, 0, none⟩)) ∧ W.cell? ⟨pp, 1, none⟩ = some (.pointer (some ⟨pR, 0, none⟩)) ∧ W.cell? (a.add (k * 4)) = some (.int .i64 x.kind) ∧ W.cell? ⟨(a.add (k * 4)).block, (a.add (k * 4)).off + 1, none⟩ = some (.int .i64 x.at') ∧ W.cell? ⟨(a.add (k * 4)).block, (a.add (k * 4)).off + 2, none⟩ = some (.int .i64 x.x) ∧ W.cell? ⟨(a.add (k * 4)).block, (a.add (k * 4)).off + 3, none⟩ = some (.int .u64 x.raw)) (by kernel_rfl) (by kernel_rfl) ⟨c0, c1, x0, x1, x2, x3⟩ ?_
        repeat (first
          | (refine' C.wpMix_value _ rfl rfl _ _; rotate_left; (solve | (intro W; go_simp) | (intro W; go_simp; with_reducible rfl)); simp only [Act.put, List.setIfInBounds_toArray, List.set_cons_zero, List.set_cons_succ])
          | (refine' C.wpMix_read _ rfl rfl _ _; rotate_left; (solve | (rintro W ⟨h1, h2, h3, h4, h5, h6⟩; go_simp) | (rintro W ⟨h1, h2, h3, h4, h5, h6⟩; go_simp; with_reducible rfl)); simp only [Act.put, List.setIfInBounds_toArray, List.set_cons_zero, List.set_cons_succ]))
        refine C.wpMix_call 14 #[.pointer (some ⟨pp, 0, none⟩), .agg #[.int .i64 x.kind, .int .i64 x.at', .int .i64 x.x, .int .u64 x.raw]] (by decide) rfl (by go_simp) ?_
        refine HDO.out.mono ?_
        rintro e w4 ⟨rfl, SA2, SR2, A2, given2, gv2, R2, r7⟩
        have hac2 := HL.out.below R2.below
        have S2 : w4.cell? ⟨pp, 0, none⟩ = some (.pointer (some ⟨pA, 0, none⟩)) ∧ w4.cell? ⟨pp, 1, none⟩ = some (.pointer (some ⟨pR, 0, none⟩)) ∧ w4.cell? (a.add (k * 4)) = some (.int .i64 x.kind) ∧ w4.cell? ⟨(a.add (k * 4)).block, (a.add (k * 4)).off + 1, none⟩ = some (.int .i64 x.at') ∧ w4.cell? ⟨(a.add (k * 4)).block, (a.add (k * 4)).off + 2, none⟩ = some (.int .i64 x.x) ∧ w4.cell? ⟨(a.add (k * 4)).block, (a.add (k * 4)).off + 3, none⟩ = some (.int .u64 x.raw) :=
          ⟨R2.c0, R2.c1, hac2.at0 k a x rfl HX.out, hac2.at1 k a x rfl HX.out, hac2.at2 k a x rfl HX.out, hac2.at3 k a x rfl HX.out⟩
        refine ⟨_, rfl, fun _ => S2, ?_⟩
        have hlen := Len_some SA2 w4 pA A2 R2.ar
        have hall := RAll_any SR2 w4 pR A2 R2.rr
        have RR := hid R2
        have HLEN := hid hlen
        have HALL := hid hall
        have HS2 := hid S2
        clear c0 c1 x0 x1 x2 x3 hac2 S2 R2 hlen hall HDO
        simp only [Act.put, List.setIfInBounds_toArray, List.set_cons_zero, List.set_cons_succ]
        repeat (first
          | (refine' C.wpMix_value _ rfl rfl _ _; rotate_left; (solve | (intro W; go_simp) | (intro W; go_simp; with_reducible rfl)); simp only [Act.put, List.setIfInBounds_toArray, List.set_cons_zero, List.set_cons_succ])
          | (refine' C.wpMix_read _ rfl rfl _ _; rotate_left; (solve | (rintro W ⟨h1, h2, h3, h4, h5, h6⟩; go_simp) | (rintro W ⟨h1, h2, h3, h4, h5, h6⟩; go_simp; with_reducible rfl)); simp only [Act.put, List.setIfInBounds_toArray, List.set_cons_zero, List.set_cons_succ]))
        refine C.wpMix_call 15 #[.pointer (some ⟨pA, 0, none⟩)] (by decide) rfl (by go_simp) ?_
        refine HLEN.out.mono ?_
        rintro e w5 ⟨rfl, rfl⟩
        refine ⟨_, rfl, fun _ => HS2.out, ?_⟩
        simp only [Act.put, List.setIfInBounds_toArray, List.set_cons_zero, List.set_cons_succ]
        repeat (first
          | (refine' C.wpMix_value _ rfl rfl _ _; rotate_left; (solve | (intro W; go_simp) | (intro W; go_simp; with_reducible rfl)); simp only [Act.put, List.setIfInBounds_toArray, List.set_cons_zero, List.set_cons_succ])
          | (refine' C.wpMix_read _ rfl rfl _ _; rotate_left; (solve | (rintro W ⟨h1, h2, h3, h4, h5, h6⟩; go_simp) | (rintro W ⟨h1, h2, h3, h4, h5, h6⟩; go_simp; with_reducible rfl)); simp only [Act.put, List.setIfInBounds_toArray, List.set_cons_zero, List.set_cons_succ]))
        refine C.wpMix_call 16 #[.pointer (some ⟨pR, 0, none⟩)] (by decide) rfl (by go_simp) ?_
        refine HALL.out.mono ?_
        rintro e w6 ⟨v6, rfl, hrow6, hb6⟩
        have hn6 : (allF 0 A2.L).length = cnt A2.L := allF_len 0 A2.L
        obtain ⟨a6, k6, hv6⟩ : ∃ a k, v6 = .slice a (cnt A2.L) k := by
          rw [hn6] at hrow6
          rcases hrow6.2 with ⟨e1, e2⟩ | ⟨g, cap, _, e1, _⟩
          · exact ⟨none, 0, by rw [e1, e2]⟩
          · exact ⟨_, cap, e1⟩
        subst hv6
        have R6 := RR.out.no (Fr.of_below hb6)
        have hac6 := HL.out.below R6.below
        refine ⟨_, rfl, fun _ => ⟨R6.c0, R6.c1, hac6.at0 k a x rfl HX.out, hac6.at1 k a x rfl HX.out, hac6.at2 k a x rfl HX.out, hac6.at3 k a x rfl HX.out⟩, ?_⟩
        have HR6 := hid R6
        clear hrow6 hb6 hn6 R6 hac6
        simp only [Act.put, List.setIfInBounds_toArray, List.set_cons_zero, List.set_cons_succ]
        repeat (first
          | (refine' C.wpMix_value _ rfl rfl _ _; rotate_left; (solve | (intro W; go_simp) | (intro W; go_simp; with_reducible rfl)); simp only [Act.put, List.setIfInBounds_toArray, List.set_cons_zero, List.set_cons_succ])
          | (refine' C.wpMix_read _ rfl rfl _ _; rotate_left; (solve | (rintro W ⟨h1, h2, h3, h4, h5, h6⟩; go_simp) | (rintro W ⟨h1, h2, h3, h4, h5, h6⟩; go_simp; with_reducible rfl)); simp only [Act.put, List.setIfInBounds_toArray, List.set_cons_zero, List.set_cons_succ]))
        refine C.wpMix_end ?_
        go_wp2
        go_roundw
        case rel => exact ⟨k + 1, by omega, by omega, by go_num, SA2, SR2, A2, given2, gv2, HR6.out, by omega⟩
        case measure => simp [intOf]; omega
      · have HB := hid R.below
        have hlt2 : k = l.length ∨ k = 200 := by omega
        clear R hlt
        rcases hlt2 with rfl | rfl
        all_goals
          go_wp2_with (refine (awake_any wr).mono ?_; rintro e w2 ⟨rfl, hb2⟩)
          all_goals
            go_ret
            exact ⟨rfl, HB.out.trans (hb2.mono HB.out.size)⟩
end Go.Proofs.Ytfmkfnkmhmobpaa
