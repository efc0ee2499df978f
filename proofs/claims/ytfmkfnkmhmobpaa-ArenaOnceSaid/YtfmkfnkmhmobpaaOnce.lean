/-
  ArenaOnce's walk.
-/
import Derived.Test.YtfmkfnkmhmobpaaArN
namespace Go.Proofs.Ytfmkfnkmhmobpaa
open Go.ChangeShapes Go.WideShapes Go.ChangeAt Go.RowKit

/-- Between two acts: the arena, the handles that were given. -/
def OnceInv (w0 : World) (k : Nat) (gv : Value) (wr : World) : Prop :=
  ∃ (S : Nat → Prop) (A : Ar) (given : List Int), InS S wr w0.heap.size A ∧ (∀ j, S j → w0.heap.size ≤ j) ∧ Below w0.heap.size w0 wr ∧ HRow S w0.heap.size wr gv given ∧ (∀ h ∈ given, Past A h) ∧ given.length ≤ k

set_option maxHeartbeats 2000000 in
set_option maxRecDepth 100000 in
theorem Once_any (w : World) (m : Int) (b : Int) (ad : Option Addr) (cap : Nat) (l : List Act4) (hm : I64 m) (hb : 0 ≤ b ∧ b ≤ 255) (hl : Acts w w.heap.size ad l) (hll : l.length ≤ 9223372036854775807) : Calls Try.prog 5 #[.int .i64 m, .int .u8 b, .slice ad l.length cap] w fun e w' => e = .returned (.bool true) ∧ Below w.heap.size w w' := by
  have hp := hid (Pick_any m 5 w hm (by decide) (by decide))
  obtain ⟨n, hn⟩ : ∃ n : Nat, m % 5 = n := ⟨(m % 5).toNat, by omega⟩
  have hn4 : n ≤ 4 := by omega
  obtain ⟨f, hf⟩ : ∃ f : Nat, 4294967295 - b = f := ⟨(4294967295 - b).toNat, by omega⟩
  rw [hn] at hp
  have hw : IntKind.u32.wrap (4294967295 - b) = f := by rw [IntWalk.u32_in _ (by omega)]; exact hf
  have hw2 : IntKind.u32.wrap b = b := IntWalk.u32_in _ (by omega)
  have HL := hid hl
  have HN := hid (New_int w (1 + (n : Int)) f (1 + n) f (by omega) rfl (by omega) (by omega))
  have HLL := hid hll
  obtain ⟨i0, hi, hz0, hz1, hz2⟩ := info_parts info34
  have hi' := hid hi
  have hz0' := hid hz0
  have hz1' := hid hz1
  have hz2' := hid hz2
  clear hn hl hll hi hz0 hz1 hz2
  go_enter Try.func5, Try.ntmps5
  go_wp2_with fail
  refine hp.out.mono ?_
  rintro e w' ⟨rfl, rfl⟩
  go_wp2_with fail
  refine HN.out.mono ?_
  rintro e w1 ⟨rfl, i1, b1⟩
  clear hw hw2 hf hp HN
  go_wp2
  go_loopw [9, 10] (fun g i wr => ∃ k : Nat, k ≤ l.length ∧ k ≤ 200 ∧ i = .int .i64 k ∧ OnceInv w k g wr) (fun _ i _ => 200 - (intOf i).toNat)
  case atStart => exact ⟨0, by omega, by omega, rfl, _, _, [], i1, fun j h => by omega, b1, HRow.nil _ _ _, by simp, by simp⟩
  case round =>
    obtain ⟨k, hk1, hk2, rfl, S, A, given, r1, r2, r3, r4, r5, r6⟩ := hrel
    clear i1 b1
    by_cases hlt : k < l.length ∧ k < 200
    · obtain ⟨hkl, hk200⟩ := hlt
      have hx : l[k]? = some l[k] := List.getElem?_eq_getElem hkl
      have hxok := HL.out.ok l[k] (List.getElem_mem hkl)
      generalize l[k] = x at hx hxok
      obtain ⟨a, rfl, hab⟩ := HL.out.some (by omega)
      have hac := HL.out.below r3
      have x0 := hac.at0 k a x rfl hx
      have x1 := hac.at1 k a x rfl hx
      have hpk := hid (Pick_any x.kind 2 wr hxok.1 (by decide) (by decide))
      have hkk : x.kind % 2 = 0 ∨ x.kind % 2 = 1 := by omega
      have R1 := hid r1
      have R2 := hid r2
      have R3 := hid r3
      have R4 := hid r4
      have R5 := hid r5
      have HX := hid hx
      have HXO := hid hxok
      clear r1 r2 r3 r4 r5 hac hx hxok
      go_wp2_with fail
      refine hpk.out.mono ?_
      rintro e w' ⟨rfl, rfl⟩
      clear hpk
      rcases hkk with hkk | hkk
      · rw [hkk]
        rcases put_or_full R1.out.ok k with hfull | ⟨pi, pg, A', hput⟩
        · -- the arena is full
          have hc := Put_full S wr _ A k R1.out hfull
          clear hfull
          go_wp2_with (refine hc.mono ?_; rintro e w2 ⟨rfl, hfr⟩)
          go_roundw
          case rel =>
            exact ⟨k + 1, by omega, by omega, by go_num, S, A, given, R1.out.fr hfr (fun _ _ e => e), R2.out, R3.out.trans (hfr.below R3.out.size (fun _ e => e.elim)), R4.out.no hfr, R5.out, by omega⟩
          case measure => simp [intOf]; omega
        · have hc := Put_some S wr _ A A' pi pg k R1.out hput
          have hnp : ∀ h ∈ given, ¬ h = hand pi pg := fun h hm e => hput.not_past R1.out.ok (by rw [← e]; exact R5.out h hm)
          have hnew := hput.past R1.out.ok
          have hall : ∀ h ∈ given, Past A' h := fun h hm => (R5.out h hm).put hput
          have NP := hid hnp
          have NW := hid hnew
          have NA := hid hall
          have HP := hid hput
          unfold PutPost at hc
          obtain ⟨hd, hhd⟩ : ∃ hd, hd = hand pi pg := ⟨_, rfl⟩
          rw [← hhd] at hc
          have HHD := hid hhd
          clear hnp hnew hall hput hhd
          go_wp2_with (refine hc.mono ?_; rintro e w2 ⟨rfl, i2, f2⟩)
          have h4 := R4.out.fr f2
          obtain ⟨gad, gk, rfl⟩ := h4.shape
          have H4 := hid h4
          have H2 := hid i2
          have HF2 := hid f2
          clear h4 i2 f2 hc x0 x1
          go_loop [13] (fun q => ∃ q' : Nat, q' ≤ given.length ∧ q = .int .i64 q') (fun q => given.length - (intOf q).toNat)
          case atStart => exact ⟨0, by omega, rfl⟩
          case round =>
            obtain ⟨q, hq1, rfl⟩ := hrel
            by_cases hql : q < given.length
            · have hy : given[q]? = some given[q] := List.getElem?_eq_getElem hql
              have hym := List.getElem_mem hql
              generalize given[q] = y at hy hym
              obtain ⟨g, gk', hgf⟩ := H4.out.form (by omega)
              simp only [Value.slice.injEq] at hgf
              obtain ⟨rfl, -, rfl⟩ := hgf
              have hyc := H4.out.cell rfl q y hy
              have hne : (y == hd) = false := by
                have := NP.out y hym
                rw [← HHD.out] at this
                simpa using this
              clear hy hym
              go_wp2
              go_round
              case rel => exact ⟨q + 1, by omega, by go_num⟩
              case measure => simp [intOf]; omega
            · go_wp2_with (at_builtin; refine wpList_append_lies _ (o := ⟨some 66, _, _, _, _, _⟩) rfl (.tmp 63) (.tmp 65) 37 rfl w.heap.size 34 i0 (.int .u64 0) 1 8 Try.underlying37 hi'.out hz0'.out hz1'.out hz2'.out rfl (by decide) (.slice gad given.length gk) given.length _ rfl (H4.out.own.alloc _) ⟨w2.heap.size, 0, none⟩ 1 1 [.int .u64 hd] rfl rfl (one_news _ _ _ _ rfl) (by simp [Value.oneCell']) (by decide) (by unfold maxLen; omega) (by omega) (by have := R3.out.size; have := HF2.out.size; simp; omega) (w2.heap.size + 1) (by simp) ?_; intro g5 k5 w5 hown5 hgrow5 hat5 hlt5; have HO5 := hid hown5; have HG5 := hid hgrow5; have HA5 := hid hat5; clear hown5 hgrow5 hat5)
              have hB2 := below_on R3.out HF2.out R2.out
              obtain ⟨n1, n2, n3, n4⟩ := H4.out.app H2.out hB2 hB2.size HO5.out HG5.out HA5.out
              go_roundw
              case rel =>
                refine ⟨k + 1, by omega, by omega, by go_num, _, A', given ++ [hd], n2, ext_ge R2.out R3.out.size, n3, by simpa using n1, ?_, by simp; omega⟩
                intro h hm
                rcases List.mem_append.1 hm with hm | hm
                · exact NA.out h hm
                · simp at hm; subst hm; rw [HHD.out]; exact NW.out
              case measure => simp [intOf]; omega
      · rw [hkk]
        by_cases hg0 : 0 < given.length
        · obtain ⟨g, gk, rfl⟩ := R4.out.form hg0
          obtain ⟨j, hj⟩ : ∃ j : Nat, x.at' % (given.length : Int) = j := ⟨(x.at' % (given.length : Int)).toNat, by have := Int.emod_nonneg x.at' (show (given.length : Int) ≠ 0 by omega); omega⟩
          have hjl : j < given.length := by have := Int.emod_lt_of_pos x.at' (show (0 : Int) < given.length by omega); omega
          have hpk2 := hid (Pick_any x.at' given.length wr HXO.out.2.1 (by omega) (by omega))
          rw [hj] at hpk2
          have hy : given[j]? = some given[j] := List.getElem?_eq_getElem hjl
          have hym := List.getElem_mem hjl
          generalize given[j] = y at hy hym
          have hyc := R4.out.cell rfl j y hy
          have hybd := (R5.out y hym).bd R1.out.ok
          have hc := hid (Drop_any S wr _ A y R1.out hybd.1 hybd.2)
          clear hy hym hj hybd
          go_wp2_with fail
          refine hpk2.out.mono ?_
          rintro e w' ⟨rfl, rfl⟩
          clear hpk2
          go_wp2_with (refine hc.out.mono ?_; rintro e w2 ⟨dx, der, A', rfl, i2, f2, dr⟩)
          go_roundw
          case rel =>
            refine ⟨k + 1, by omega, by omega, by go_num, _, A', given, i2, ext_ge R2.out R3.out.size, below_on R3.out f2 R2.out, R4.out.fr f2, fun h hm => ?_, by omega⟩
            rcases dr with ⟨_, rfl, _⟩ | ⟨di, ds, hf, rfl, _⟩
            · exact R5.out h hm
            · exact (R5.out h hm).drop hf.1 hf.2.1 R1.out.ok
          case measure => simp [intOf]; omega
        · obtain ⟨gad, gk, rfl⟩ := R4.out.shape
          go_wp2
          go_roundw
          case rel => exact ⟨k + 1, by omega, by omega, by go_num, S, A, given, R1.out, R2.out, R3.out, R4.out, R5.out, by omega⟩
          case measure => simp [intOf]; omega
    · have R3 := hid r3
      have hlt2 : k = l.length ∨ k = 200 := by omega
      clear r1 r2 r3 r4 r5
      rcases hlt2 with rfl | rfl
      · go_wp2_with (refine (awake_any wr).mono ?_; rintro e w2 ⟨rfl, hb2⟩)
        go_ret
        exact ⟨rfl, R3.out.trans (hb2.mono R3.out.size)⟩
      · go_wp2_with (refine (awake_any wr).mono ?_; rintro e w2 ⟨rfl, hb2⟩)
        all_goals
          go_ret
          exact ⟨rfl, R3.out.trans (hb2.mono R3.out.size)⟩
end Go.Proofs.Ytfmkfnkmhmobpaa
