/-
  ArenaStale's walk.
-/
import Derived.Test.YtfmkfnkmhmobpaaArP
namespace Go.Proofs.Ytfmkfnkmhmobpaa
open Go.ChangeShapes Go.WideShapes Go.ChangeAt Go.RowKit

/-- Between two acts: the arena, the handles that find something, and those that did. -/
structure StaleInv (w0 : World) (S : Nat → Prop) (A : Ar) (live gone : List Int) (lv gv : Value) (wr : World) : Prop where
  ar : InS S wr w0.heap.size A
  ge : ∀ j, S j → w0.heap.size ≤ j
  below : Below w0.heap.size w0 wr
  lr : HRow S w0.heap.size wr lv live
  gr : HRow S w0.heap.size wr gv gone
  dj : ∀ j, lv.ownBlock = some j → gv.ownBlock ≠ some j
  nd : live.Nodup
  lm : ∀ h, h ∈ live ↔ Live A h
  lc : cnt A.L = live.length
  gs : ∀ h ∈ gone, Past A h ∧ ¬ Live A h
  ll : ∀ h ∈ live, Past A h
def StaleRel (w0 : World) (k : Nat) (lv gv : Value) (wr : World) : Prop := ∃ S A live gone, StaleInv w0 S A live gone lv gv wr ∧ live.length ≤ k ∧ gone.length ≤ k

set_option maxHeartbeats 2000000 in
set_option maxRecDepth 100000 in
theorem Stale_any (w : World) (m : Int) (ad : Option Addr) (cap : Nat) (l : List Act4) (raw : Int) (hm : I64 m) (hl : Acts w w.heap.size ad l) (hr : U64 raw) : Calls Try.prog 6 #[.int .i64 m, .slice ad l.length cap, .int .u64 raw] w fun e w' => e = .returned (.bool true) ∧ Below w.heap.size w w' := by
  have hp := hid (Pick_any m 9 w hm (by decide) (by decide))
  obtain ⟨n, hn⟩ : ∃ n : Nat, m % 9 = n := ⟨(m % 9).toNat, by omega⟩
  have hn4 : n ≤ 8 := by omega
  rw [hn] at hp
  have HL := hid hl
  have HN := hid (New_int w (1 + (n : Int)) 1 (1 + n) 1 (by omega) rfl (by omega) (by omega))
  obtain ⟨i0, hi, hz0, hz1, hz2⟩ := info_parts info34
  have hi' := hid hi
  have hz0' := hid hz0
  have hz1' := hid hz1
  have hz2' := hid hz2
  clear hn hl hi hz0 hz1 hz2
  go_enter Try.func6, Try.ntmps6
  go_wp2_with fail
  refine hp.out.mono ?_
  rintro e w' ⟨rfl, rfl⟩
  go_wp2_with fail
  refine HN.out.mono ?_
  rintro e w1 ⟨rfl, i1, b1⟩
  clear hp HN
  go_wp2
  go_loopw [9, 10, 11] (fun lv gv i wr => ∃ k : Nat, k ≤ l.length ∧ k ≤ 100 ∧ i = .int .i64 k ∧ StaleRel w k lv gv wr) (fun _ _ i _ => 100 - (intOf i).toNat)
  case atStart =>
    refine ⟨0, by omega, by omega, rfl, _, _, [], [], ⟨i1, fun j h => by omega, b1, HRow.nil _ _ _, HRow.nil _ _ _, fun j h => by simp [Value.ownBlock] at h, by simp, fun h => ⟨fun h => by simp at h, fun ⟨i, s, h1, _⟩ => by simp [new] at h1⟩, rfl, by simp, by simp⟩, by simp, by simp⟩
  case round =>
    obtain ⟨k, hk1, hk2, rfl, S, A, live, gone, R, r6, r7⟩ := hrel
    clear i1 b1
    by_cases hlt : k < l.length ∧ k < 100
    · obtain ⟨hkl, hk200⟩ := hlt
      have hx : l[k]? = some l[k] := List.getElem?_eq_getElem hkl
      have hxok := HL.out.ok l[k] (List.getElem_mem hkl)
      generalize l[k] = x at hx hxok
      obtain ⟨a, rfl, hab⟩ := HL.out.some (by omega)
      have hac := HL.out.below R.below
      have x0 := hac.at0 k a x rfl hx
      have x1 := hac.at1 k a x rfl hx
      have hpk := hid (Pick_any x.kind 2 wr hxok.1 (by decide) (by decide))
      have hkk : x.kind % 2 = 0 ∨ x.kind % 2 = 1 := by omega
      have HX := hid hx
      have HXO := hid hxok
      clear hac hx hxok
      go_wp2_with fail
      refine hpk.out.mono ?_
      rintro e w' ⟨rfl, rfl⟩
      clear hpk
      rcases hkk with hkk | hkk
      · rw [hkk]
        rcases put_or_full R.ar.ok k with hfull | ⟨pi, pg, A', hput⟩
        · have hc := Put_full S wr _ A k R.ar hfull
          clear hfull
          go_wp2_with (refine hc.mono ?_; rintro e w2 ⟨rfl, hfr⟩)
          go_roundw
          case rel =>
            exact ⟨k + 1, by omega, by omega, by go_num, S, A, live, gone, ⟨R.ar.fr hfr (fun _ _ e => e), R.ge, R.below.trans (hfr.below R.below.size (fun _ e => e.elim)), R.lr.no hfr, R.gr.no hfr, R.dj, R.nd, R.lm, R.lc, R.gs, R.ll⟩, by omega, by omega⟩
          case measure => simp [intOf]; omega
        · have hc := Put_some S wr _ A A' pi pg k R.ar hput
          have NP := hid (fun h : Past A (hand pi pg) => hput.not_past R.ar.ok h)
          have NW := hid (hput.past R.ar.ok)
          have NL := hid (put_live R.ar.ok hput)
          have NC := hid (hput.cnt R.ar.ok)
          have NA := hid (fun h (hq : Past A h) => hq.put hput)
          unfold PutPost at hc
          obtain ⟨hd, hhd⟩ : ∃ hd, hd = hand pi pg := ⟨_, rfl⟩
          rw [← hhd] at hc NP NW NL
          have HC := hid hc
          clear hput hhd hc
          have h4 := R.lr
          obtain ⟨gad, gk, rfl⟩ := h4.shape
          have HR := hid R
          clear R h4
          go_wp2_with (first | (go_at_call 22; refine HC.out.mono ?_; rintro e w2 ⟨rfl, i2, f2⟩; have H4 := hid (HR.out.lr.fr f2); have H2 := hid i2; have HF2 := hid f2; clear i2 f2 x0 x1) | (at_builtin; refine wpList_append_lies _ (o := ⟨some 61, _, _, _, _, _⟩) rfl (.tmp 58) (.tmp 60) 37 rfl w.heap.size 34 i0 (.int .u64 0) 1 8 Try.underlying37 hi'.out hz0'.out hz1'.out hz2'.out rfl (by decide) (.slice gad live.length gk) live.length _ rfl (H4.out.own.alloc _) ⟨w2.heap.size, 0, none⟩ 1 1 [.int .u64 hd] rfl rfl (one_news _ _ _ _ rfl) (by simp [Value.oneCell']) (by decide) (by unfold maxLen; omega) (by omega) (by have := HR.out.below.size; have := HF2.out.size; simp; omega) (w2.heap.size + 1) (by simp) ?_; intro g5 k5 w5 hown5 hgrow5 hat5 hlt5; have HO5 := hid hown5; have HG5 := hid hgrow5; have HA5 := hid hat5; clear hown5 hgrow5 hat5))
          have hB2 := below_on HR.out.below HF2.out HR.out.ge
          have hsz := HF2.out.size
          obtain ⟨n1, n2, n3, n4⟩ := H4.out.app H2.out hB2 hB2.size HO5.out HG5.out HA5.out
          go_roundw
          case rel =>
            refine ⟨k + 1, by omega, by omega, by go_num, _, A', live ++ [hd], gone, ⟨n2, ext_ge HR.out.ge HR.out.below.size, n3, by simpa using n1, (HR.out.gr.fr HF2.out).side n4 (fun j h1 h2 => HR.out.dj j h2 h1), ?_, ?_, ?_, ?_, ?_, ?_⟩, by simp; omega, by omega⟩
            · intro j h1 h2
              simp [Value.ownBlock] at h1
              subst h1
              rcases HA5.out with e | e
              · exact HR.out.dj _ e h2
              · have := (HR.out.gr.own.lt _ h2).2; omega
            · rw [List.nodup_append]
              refine ⟨HR.out.nd, by simp, fun u hu v hv e => ?_⟩
              simp at hv; subst hv; subst e
              exact NP.out (HR.out.ll _ hu)
            · intro h
              rw [NL.out h, ← HR.out.lm h]; simp
            · rw [NC.out, HR.out.lc]; simp
            · intro h hh
              obtain ⟨g1, g2⟩ := HR.out.gs h hh
              refine ⟨NA.out h g1, fun hl => ?_⟩
              rcases (NL.out h).1 hl with e | e
              · exact g2 e
              · subst e; exact NP.out g1
            · intro h hh
              rcases List.mem_append.1 hh with hh | hh
              · exact NA.out h (HR.out.ll h hh)
              · simp at hh; subst hh; exact NW.out
          case measure => simp [intOf]; omega
      · rw [hkk]
        rcases List.eq_nil_or_concat live with rfl | ⟨mm, y, hly⟩
        · obtain ⟨gad, gk, rfl⟩ := R.lr.shape
          have HR := hid R
          clear R
          go_wp2
          go_roundw
          case rel => exact ⟨k + 1, by omega, by omega, by go_num, S, A, [], gone, HR.out, by simp, by omega⟩
          case measure => simp [intOf]; omega
        · rw [List.concat_eq_append] at hly
          subst hly
          have hlen : (mm ++ [y]).length = mm.length + 1 := by simp
          have hmm : mm.length ≤ 99 := by omega
          obtain ⟨g, gk, hlf⟩ := R.lr.form (by omega)
          rw [hlen] at hlf
          subst hlf
          have hgk := R.lr.cap
          obtain ⟨gad, gk2, hgf⟩ := R.gr.shape
          subst hgf
          obtain ⟨j, hj⟩ : ∃ j : Nat, x.at' % ((mm.length : Int) + 1) = j := ⟨(x.at' % ((mm.length : Int) + 1)).toNat, by have := Int.emod_nonneg x.at' (show (mm.length : Int) + 1 ≠ 0 by omega); omega⟩
          have hjl : j < mm.length + 1 := by have := Int.emod_lt_of_pos x.at' (show (0 : Int) < (mm.length : Int) + 1 by omega); omega
          have hpk2 := hid (Pick_any x.at' ((mm.length : Int) + 1) wr HXO.out.2.1 (by omega) (by omega))
          rw [hj] at hpk2
          have hy : (mm ++ [y])[j]? = some (mm ++ [y])[j] := List.getElem?_eq_getElem (by omega)
          have hym : (mm ++ [y])[j] ∈ mm ++ [y] := List.getElem_mem _
          generalize (mm ++ [y])[j] = z at hy hym
          have hyc := R.lr.cell hlen.symm j z hy
          obtain ⟨fi, fs, hfd⟩ := (R.lm z).1 hym
          have hDL := hid (drop_live R.ar.ok hfd)
          have hDC := hid (drop_cnt hfd.1 hfd.2.1)
          have hDP := hid (fun h (hq : Past A h) => hq.drop hfd.1 hfd.2.1 R.ar.ok)
          have hzP := hid (R.ll z hym)
          have hbd := hfd.bd R.ar.ok
          have hcd : Calls Try.prog 23 #[.pointer (some ⟨w.heap.size, 0, none⟩), .int .u64 z] wr fun e w' => e = .returned (.tuple #[.int .i64 fs.x, .int .i64 0]) ∧ InS (ext S wr w') w' w.heap.size (dropAt A fi fs) ∧ Fr S wr w' := by
            by_cases hw : fs.g < 4294967295
            · exact Drop_again S wr _ A fi fs z R.ar hfd hw
            · refine (Drop_worn S wr _ A fi fs z R.ar hfd hw).mono ?_
              rintro e w' ⟨h1, h2, h3⟩
              exact ⟨h1, h2.wider, h3⟩
          have HC := hid hcd
          have HR := hid R
          have HY := hid hy
          have HYM := hid hym
          clear hj hfd hcd hbd R hy hym hlen
          go_wp2_with fail
          refine hpk2.out.mono ?_
          rintro e w' ⟨rfl, rfl⟩
          clear hpk2
          go_wp2_with fail
          refine HC.out.mono ?_
          rintro e w2 ⟨rfl, i2, f2⟩
          have hl2 := HR.out.lr.fr f2
          have hg2 := HR.out.gr.fr f2
          have hyc2 := hl2.cell (by simp) j z HY.out
          have I2 := hid i2
          have F2 := hid f2
          have L2 := hid hl2
          have G2 := hid hg2
          clear i2 f2 hl2 hg2 x0 x1 hyc
          go_wp2_with (at_builtin; refine wpList_append_lies _ (o := ⟨some 90, _, _, _, _, _⟩) rfl (.tmp 84) (.tmp 89) 37 rfl w.heap.size 34 i0 (.int .u64 0) 1 8 Try.underlying37 hi'.out hz0'.out hz1'.out hz2'.out rfl (by decide) (.slice gad gone.length gk2) gone.length _ rfl (G2.out.own.alloc _) ⟨w2.heap.size, 0, none⟩ 1 1 [.int .u64 z] rfl rfl (one_news _ _ _ _ rfl) (by simp [Value.oneCell']) (by decide) (by unfold maxLen; omega) (by omega) (by have := HR.out.below.size; have := F2.out.size; simp; omega) (w2.heap.size + 1) (by simp) ?_; intro g5 k5 w5 hown5 hgrow5 hat5 hlt5; have HO5 := hid hown5; have HG5 := hid hgrow5; have HA5 := hid hat5; have hB2 := hid (below_on HR.out.below F2.out HR.out.ge); have HAP := hid (G2.out.app I2.out hB2.out hB2.out.size HO5.out HG5.out HA5.out); have L5 := hid (L2.out.side HAP.out.2.2.2 (fun j h1 h2 => HR.out.dj j h1 h2)); have cy := L5.out.cell (by simp) mm.length y (by simp); have cz := L5.out.cell (by simp) j z HY.out; have fz := L5.out.fz (by simp) j; clear hown5 hgrow5 hat5 hyc2)
          have hst := L5.out.strike (j := j) (by omega)
          obtain ⟨sn, sm⟩ := strike mm y j z HY.out HR.out.nd
          obtain ⟨n1, n2, n3, n4⟩ := HAP.out
          have hgb : ∀ q, (Value.slice (some ⟨g, 0, none⟩) mm.length gk).ownBlock = some q → q = g := fun q hq => by simp [Value.ownBlock] at hq; exact hq.symm
          have hgS : ¬ ext S wr w2 g := L5.out.off g rfl
          have hgw : w.heap.size ≤ g := (L5.out.own.lt g rfl).1
          have hsz := F2.out.size
          have hsB := hB2.out.size
          have hg5 : g5 ≠ g := fun e => by
            subst e
            rcases HA5.out with e | e
            · exact HR.out.dj _ rfl e
            · have h9 : g5 < w2.heap.size := (L2.out.own.lt g5 rfl).2
              omega
          have hfrs : Fr (fun q => q = g) w5 (w5.setCell ⟨g, j, none⟩ (.int .u64 y)) := (Fr.refl _ _).setCell _ _ (fun _ => rfl)
          go_roundw
          case rel =>
            refine ⟨k + 1, by omega, by omega, by go_num, ext S wr w2, dropAt A fi fs, mm.set j y, gone ++ [z], ⟨n2.fr hfrs (fun q h1 h2 => hgS (h2 ▸ h1)), ext_ge HR.out.ge HR.out.below.size, n3.setCell (p := ⟨g, j, none⟩) hgw _, hst, ?_, ?_, sn, ?_, ?_, ?_, ?_⟩, by simp at r6 ⊢; omega, by simp; omega⟩
            · have n1' : HRow (ext S wr w2) w.heap.size w5 (.slice (some ⟨g5, 0, none⟩) (gone.length + 1) k5) (gone ++ [z]) := n1
              exact ⟨hfrs.owns n1'.own (fun q h1 h2 => by simp [Value.ownBlock] at h1; exact hg5 (h1.trans h2)), n1'.off⟩
            · intro q h1 h2
              have := hgb q h1
              subst this
              simp [Value.ownBlock] at h2
              exact hg5 h2
            · intro h
              rw [sm h, hDL.out h, HR.out.lm h]
            · have h1 := HR.out.lc
              have h2 := hDC.out
              rw [List.length_append, List.length_singleton] at h1
              rw [List.length_set]; omega
            · intro h hh
              rcases List.mem_append.1 hh with hh | hh
              · obtain ⟨g1, g2⟩ := HR.out.gs h hh
                exact ⟨hDP.out h g1, fun e => g2 ((hDL.out h).1 e).1⟩
              · simp at hh; subst hh
                exact ⟨hDP.out _ hzP.out, fun e => ((hDL.out _).1 e).2 rfl⟩
            · intro h hh
              exact hDP.out h (HR.out.ll h ((sm h).1 hh).1)
          case measure => simp [intOf]; omega
    · have hlt2 : k = l.length ∨ k = 100 := by omega
      have HR := hid R
      clear R
      obtain ⟨lad, lk, rfl⟩ := HR.out.lr.shape
      obtain ⟨gad, gk, rfl⟩ := HR.out.gr.shape
      have hll : live.length ≤ 100 := by omega
      have hgl : gone.length ≤ 100 := by omega
      clear hlt r6 r7
      rcases hlt2 with rfl | rfl
      all_goals
        go_wp2
        all_goals
          go_loop [17] (fun q => ∃ q' : Nat, q' ≤ gone.length ∧ q = .int .i64 q') (fun q => gone.length - (intOf q).toNat)
          case atStart => exact ⟨0, by omega, rfl⟩
          case round =>
            obtain ⟨q, hq1, rfl⟩ := hrel
            by_cases hql : q < gone.length
            · have hy : gone[q]? = some gone[q] := List.getElem?_eq_getElem hql
              have hym := List.getElem_mem hql
              generalize gone[q] = y at hy hym
              obtain ⟨g, gk', hgf⟩ := HR.out.gr.form (by omega)
              simp only [Value.slice.injEq] at hgf
              obtain ⟨rfl, -, rfl⟩ := hgf
              have hyc := HR.out.gr.cell rfl q y hy
              obtain ⟨gs1, gs2⟩ := HR.out.gs y hym
              have hbd := gs1.bd HR.out.ar.ok
              have hg := Get_stale S wr _ A y HR.out.ar ((stale_iff A y).2 gs2) hbd.1 hbd.2
              have hs := Set_stale S wr _ A y 1 HR.out.ar ((stale_iff A y).2 gs2) hbd.1 hbd.2
              clear hy hym gs1 gs2 hbd
              go_wp2_with (first | (go_at_call 24; refine hg.mono ?_; rintro e w' ⟨rfl, rfl⟩) | (go_at_call 25; refine hs.mono ?_; rintro e w' ⟨rfl, rfl⟩))
              go_round
              case rel => exact ⟨q + 1, by omega, by go_num⟩
              case measure => simp [intOf]; omega
            · go_wp2
              go_loop [20, 21] (fun b q => ∃ q' : Nat, q' ≤ live.length ∧ q = .int .i64 q' ∧ b = .bool (decide (raw ∈ live.take q'))) (fun _ q => live.length - (intOf q).toNat)
              case atStart => exact ⟨0, by omega, rfl, by simp⟩
              case round =>
                obtain ⟨q2, hq2, rfl, rfl⟩ := hrel
                by_cases hql2 : q2 < live.length
                · have hy : live[q2]? = some live[q2] := List.getElem?_eq_getElem hql2
                  have htk : live.take (q2 + 1) = live.take q2 ++ [live[q2]] := by rw [List.take_succ_eq_append_getElem hql2]
                  generalize live[q2] = y at hy htk
                  obtain ⟨g, gk', hgf⟩ := HR.out.lr.form (by omega)
                  simp only [Value.slice.injEq] at hgf
                  obtain ⟨rfl, -, rfl⟩ := hgf
                  have hyc := HR.out.lr.cell rfl q2 y hy
                  have HT := hid htk
                  clear hy htk
                  by_cases hin : raw ∈ live.take q2
                  · have hb : decide (raw ∈ live.take q2) = true := by simpa using hin
                    have hb2 : decide (raw ∈ live.take (q2 + 1)) = true := by rw [HT.out]; simpa using .inl hin
                    have HB2 := hid hb2
                    clear hin hb2
                    rw [hb]
                    clear hb
                    go_wp2
                    go_round
                    case rel => exact ⟨q2 + 1, by omega, by go_num, by rw [HB2.out]⟩
                    case measure => simp [intOf]; omega
                  · have hb : decide (raw ∈ live.take q2) = false := by simpa using hin
                    have hb2 : decide (raw ∈ live.take (q2 + 1)) = (y == raw) := by
                      rw [HT.out]
                      by_cases e : y = raw
                      · subst e; simp
                      · have : ¬ raw = y := fun e2 => e e2.symm
                        simp [e, hin, this]
                    have HB2 := hid hb2
                    clear hin hb2
                    rw [hb]
                    clear hb
                    go_wp2
                    go_round
                    case rel => exact ⟨q2 + 1, by omega, by go_num, by rw [HB2.out]⟩
                    case measure => simp [intOf]; omega
                · obtain rfl : q2 = live.length := by omega
                  rw [List.take_length]
                  have hlen := Len_some S wr _ A HR.out.ar
                  rw [HR.out.lc] at hlen
                  by_cases hin : raw ∈ live
                  · have hb : decide (raw ∈ live) = true := by simpa using hin
                    obtain ⟨fi, fs, hfd⟩ := (HR.out.lm raw).1 hin
                    have hg := Get_some S wr _ A fi fs raw HR.out.ar hfd
                    rw [hb]
                    clear hin hb hfd
                    go_wp2_with (first | (go_at_call 24; refine hg.mono ?_; rintro e w' ⟨rfl, rfl⟩) | (go_at_call 15; refine hlen.mono ?_; rintro e w' ⟨rfl, rfl⟩) | (go_at_call 12; refine (awake_any wr).mono ?_; rintro e w2 ⟨rfl, hb2⟩))
                    go_ret
                    exact ⟨rfl, HR.out.below.trans (hb2.mono HR.out.below.size)⟩
                  · have hb : decide (raw ∈ live) = false := by simpa using hin
                    have hst := (stale_iff A raw).2 (fun e => hin ((HR.out.lm raw).2 e))
                    have hg := Get_stale S wr _ A raw HR.out.ar hst hr.1 hr.2
                    rw [hb]
                    clear hin hb hst
                    go_wp2_with (first | (go_at_call 24; refine hg.mono ?_; rintro e w' ⟨rfl, rfl⟩) | (go_at_call 15; refine hlen.mono ?_; rintro e w' ⟨rfl, rfl⟩) | (go_at_call 12; refine (awake_any wr).mono ?_; rintro e w2 ⟨rfl, hb2⟩))
                    go_ret
                    exact ⟨rfl, HR.out.below.trans (hb2.mono HR.out.below.size)⟩
end Go.Proofs.Ytfmkfnkmhmobpaa
