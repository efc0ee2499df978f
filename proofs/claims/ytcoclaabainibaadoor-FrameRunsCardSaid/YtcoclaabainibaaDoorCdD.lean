/-
  The plain twin's Height.
-/
import Derived.Test.YtcoclaabainibaaDoorCdC
namespace Go.Proofs.YtcoclaabainibaaDoor
open Go Go.ChangeShapes Go.WideShapes Go.ChangeAt Go.RowKit

set_option maxRecDepth 100000 in
theorem szI : (Tryd.prog.info? 45).map (·.size) = some 3 := by kernel_rfl
set_option maxRecDepth 100000 in
theorem AtL.loadI {W : World} {b o : Nat} {x : Ins} (h : AtL W b o (insc x)) : (loadVar 45 ⟨b, o, none⟩).run Tryd.prog W = .ok (.agg (insA x)) W := by
  have h1 := h.run (P := Tryd.prog)
  cases hq : Tryd.prog.info? 45 with
  | none => have := szI; simp [hq] at this
  | some i =>
    have hi : i.size = 3 := by have := szI; simpa [hq] using this
    rw [show (insc x).length = 3 from rfl] at h1
    simp [loadVar, sizeOf, typeInfo, hq, hi, loadCells, h1, insA]
/-- An operation that loads an instruction out of a row. -/
theorem load_ia {o : Oper} {f : Operand → Value} {p : Operand} {b off : Nat} {x : Ins} {W : World} (ho : o.op = .load 45 p) (hp : f p = .pointer (some ⟨b, off, none⟩)) (h : AtL W b off (insc x)) : (execOp f o).run Tryd.prog W = .ok (.value (.agg (insA x))) W := by
  have h1 := h.loadI
  unfold execOp
  simp only [ho, hp, Instr.loadAt, Instr.sureAddr, Sem.run_bind, Sem.run_pure, Result.andThen_ok, h1]
/-- What Height answers. -/
def HtP (w : World) (ls : List Ins) (s : Int) (e : Ending) (w' : World) : Prop :=
  ∃ a c, e = .returned (.tuple #[.slice a (heightP ls s).1.length c, .int .i64 (heightP ls s).2.1, .int .i64 (heightP ls s).2.2]) ∧ EI w w' (.slice a (heightP ls s).1.length c) (heightP ls s).1.length (heightP ls s).1
theorem HtP.stop {w W : World} {ls : List Ins} {s : Int} {i c : Nat} {h : List Int} {a : Option Addr} (hr : runP ls s i = (h, none)) (hi : i < ls.length) (h32 : ls.length ≤ 32) {er : Int} (he : (stepE ls s h i).1 = er) (h0 : er ≠ 0) (hE : EI w W (.slice a i c) i h) :
    HtP w ls s (.returned (.tuple #[.slice a i c, .int .i64 i, .int .i64 er])) W := by
  have h1 := run_stop hr hi h32 (by rw [he]; exact h0)
  have hl := (run_small i hr (by omega)).1
  unfold HtP
  rw [h1, he]
  subst hl
  exact ⟨a, c, rfl, hE⟩
set_option maxRecDepth 100000 in
set_option maxHeartbeats 8000000 in
theorem Height_any (ls : List Ins) (s : Int) (ad : Option Addr) (n c : Nat) (w : World) (h : RwI w w.heap.size ad ls) (hn : n = ls.length) (hc : n ≤ c ∧ c ≤ 9223372036854775807) :
    Calls Tryd.prog 10 #[.slice ad n c, .int .i64 s] w (HtP w ls s) := by
  have HR := hid h
  have HN := hid hn
  obtain ⟨hc1, hc2⟩ := hc
  by_cases hz : n = 0 ∨ 32 < n
  · have HH := hid (show heightP ls s = ([], 0, 20) by rw [heightP, if_pos (by omega)])
    have d1 : ((n : Int) == 0) = decide (n = 0) := by by_cases e : n = 0 <;> simp [e]
    clear h hn
    rcases hz with rfl | hz
    · go_enter Tryd.func10, Tryd.ntmps10
      go_wp2
      go_ret3
      unfold HtP
      rw [HH.out]
      exact ⟨none, 0, rfl, World.ownsRow_nil _ _ _ _, Below.refl _ _, rfl⟩
    · have d2 : ((n : Int) == 0) = false := by simp; omega
      clear d1
      go_enter Tryd.func10, Tryd.ntmps10
      go_wp2
      go_ret3
      unfold HtP
      rw [HH.out]
      exact ⟨none, 0, rfl, World.ownsRow_nil _ _ _ _, Below.refl _ _, rfl⟩
  have hn1 : 1 ≤ n := by omega
  have hn32 : n ≤ 32 := by omega
  have d2 : ((n : Int) == 0) = false := by simp; omega
  obtain ⟨b, o, rfl, _⟩ := h.at_ (by omega)
  have H0 := hid (show runP ls s 0 = ([], none) from rfl)
  have E0 := hid (show EI w w (.slice none 0 0) 0 [] from ⟨World.ownsRow_nil _ _ _ _, Below.refl _ _, rfl⟩)
  clear h hn hz
  go_enter Tryd.func10, Tryd.ntmps10
  go_wp2
  go_loopw [7, 8] (fun hv iv wr => ∃ (i k : Nat) (a : Option Addr) (h : List Int), i ≤ n ∧ iv = .int .i64 i ∧ hv = .slice a i k ∧ RowKit.Hid (runP ls s i = (h, none)) ∧ RowKit.Hid (EI w wr (.slice a i k) i h)) (fun _ iv _ => n - (intOf iv).toNat)
  case atStart => exact ⟨0, 0, none, [], by omega, rfl, rfl, H0, E0⟩
  case round =>
    obtain ⟨i, k, a, h, hi, rfl, rfl, HRun, HE⟩ := hrel
    obtain ⟨wo, hwo⟩ : ∃ wo, wo = wr := ⟨_, rfl⟩
    rw [← hwo] at HE ⊢
    clear hwo
    by_cases hin : i < n
    · by_cases hi0 : i = 0
      · skip
        have e0 : ((i : Int) == 0) = true := by simp; omega
        have HI0 := hid hi0
        clear hi0
        go_wp2
        go_loopw [9, 10] (fun nv kv wr2 => ∃ (k2 : Nat) (now : Int), k2 ≤ i ∧ kv = .int .i64 k2 ∧ nv = .int .i64 now ∧ (-1 ≤ now ∧ now ≤ 8) ∧ RowKit.Hid (nowP ls s h i k2 = some now) ∧ RowKit.Hid (Below wo.heap.size wo wr2)) (fun _ kv _ => i - (intOf kv).toNat)
        case atStart => exact ⟨0, 0, by omega, rfl, rfl, by omega, hid (by rw [nowP, if_pos HI0.out]), hid (Below.refl _ _)⟩
        case round =>
          obtain ⟨k2, now, hk2, rfl, rfl, hnow, HNow, HBr⟩ := hrel
          by_cases hki : k2 < i
          · exact absurd hki (by have := HI0.out; omega)
          · obtain rfl : k2 = i := by omega
            clear hki e0
            obtain ⟨x, hx⟩ : ∃ x, ls[k2]? = some x := ⟨_, List.getElem?_eq_getElem (by have := HN.out; omega)⟩
            have HRW := hid ((HR.out.on HE.out.2.1).on HBr.out)
            have HAT := hid (HRW.out.rows b o rfl k2 x hx)
            have STEP := hid (show stepE ls s h k2 = (badP n s k2 x now, now) by rw [stepE, HNow.out, hx, HN.out])
            unfold badP at STEP
            go_wp2_with (first | ((with_reducible refine at_op ⟨some 76, _, _, _, _, _⟩ ?_); refine wpList_runW rfl (.agg (insA x)) (load_ia rfl rfl HAT.out) ?_) | fail)
            refine (shape_any x s _).mono ?_
            rintro e w2 ⟨rfl, hb2⟩
            have HE2 := hid ((HE.out.on HBr.out).on hb2)
            have hat2 := (HRW.out.on hb2).rows b o rfl k2 x hx
            have c0 : w2.cell? ⟨b, o + k2 * 3, none⟩ = some (.int .i64 x.op) := by simpa using hat2 0 _ rfl
            have c1 : w2.cell? ⟨b, o + k2 * 3 + 1, none⟩ = some (.int .i64 x.a) := hat2 1 _ rfl
            unfold shV
            have hsl := shape_le x s
            have HLF := hid (show leftP x s now = now - (shapeP x s).1 + (shapeP x s).2.1 from rfl)
            obtain ⟨lf, hlf⟩ : ∃ lf, lf = leftP x s now := ⟨_, rfl⟩
            rw [← hlf] at HLF STEP
            generalize (shapeP x s).1 = tk at *
            generalize (shapeP x s).2.1 = la at *
            generalize (shapeP x s).2.2 = ok at *
            generalize x.op = op at *
            generalize x.a = xa at *
            have w1 : IntKind.i64.wrap (now - tk) = now - tk := IntWalk.i64_in _ (by omega)
            have w2e : IntKind.i64.wrap (now - tk + la) = lf := by rw [HLF.out]; exact IntWalk.i64_in _ (by omega)
            have w3 : IntKind.i64.wrap ((n : Int) - 1) = (n : Int) - 1 := IntWalk.i64_in _ (by omega)
            have w4 : IntKind.i64.wrap ((n : Int) - 2) = (n : Int) - 2 := IntWalk.i64_in _ (by omega)
            have w5 : IntKind.i64.wrap ((n : Int) - 2 - k2) = (n : Int) - 2 - k2 := IntWalk.i64_in _ (by omega)
            have hlfr : -3 ≤ lf ∧ lf ≤ 10 := by rw [HLF.out]; omega
            clear hx hlf hsl hb2 hat2 HRW HAT HBr HNow
            cases ok
            case false =>
              have HST := hid (show (stepE ls s h k2).1 = 5 by rw [STEP.out]; simp)
              clear STEP hlfr
              go_wp2
              go_ret3
              exact HtP.stop HRun.out (by have := HN.out; omega) (by have := HN.out; omega) (er := 5) HST.out (by decide) HE2.out
            case true =>
              by_cases b1 : now < 0
              · have d1 : decide (now < 0) = true := decide_eq_true b1
                have HST := hid (show (stepE ls s h k2).1 = 5 by rw [STEP.out]; exact if_pos (Or.inr (Or.inl b1)))
                clear STEP hlfr
                go_wp2
                go_ret3
                exact HtP.stop HRun.out (by have := HN.out; omega) (by have := HN.out; omega) (er := 5) HST.out (by decide) HE2.out
              have d1 : decide (now < 0) = false := decide_eq_false b1
              by_cases b2 : now < tk
              · have d5 : decide (now < tk) = true := decide_eq_true b2
                have HST := hid (show (stepE ls s h k2).1 = 5 by rw [STEP.out]; exact if_pos (Or.inr (Or.inr (Or.inl b2))))
                clear STEP hlfr
                go_wp2
                go_ret3
                exact HtP.stop HRun.out (by have := HN.out; omega) (by have := HN.out; omega) (er := 5) HST.out (by decide) HE2.out
              have d5 : decide (now < tk) = false := decide_eq_false b2
              by_cases b3 : op = 11
              · subst b3
                by_cases b4 : now = 1
                · have d6 : (now != 1) = false := by simp [b4]
                  have hnb : ¬ (true = false ∨ now < 0 ∨ now < tk ∨ ((11 : Int) = 11 ∧ now ≠ 1)) := by simp; omega
                  by_cases b5 : 8 < lf
                  · have d7 : decide (8 < lf) = true := decide_eq_true b5
                    have HST := hid (show (stepE ls s h k2).1 = 16 by rw [STEP.out]; exact (if_neg hnb).trans (if_pos b5))
                    clear STEP hlfr
                    clear b4
                    clear hnb
                    go_wp2
                    go_ret3
                    exact HtP.stop HRun.out (by have := HN.out; omega) (by have := HN.out; omega) (er := 16) HST.out (by decide) HE2.out
                  · have d7 : decide (8 < lf) = false := decide_eq_false b5
                    have hst : (stepE ls s h k2).1 = 0 := by rw [STEP.out]; exact (if_neg hnb).trans ((if_neg b5).trans (if_neg (by omega)))
                    have HGOO := hid (run_go HRun.out hst)
                    rw [STEP.out] at HGOO
                    obtain ⟨i0, hi0q, hz0, hz1, hz2⟩ := info_parts infoInt
                    clear STEP hlfr
                    clear b4
                    clear hnb
                    have hi' := hid hi0q
                    have hz0' := hid hz0
                    have hz1' := hid hz1
                    have hz2' := hid hz2
                    clear hi0q hz0 hz1 hz2 hst
                    go_wp2_with (at_builtin; refine wpList_append_own_at _ (o := ⟨some 154, _, _, _, _, _⟩) rfl (.tmp 151) (.tmp 153) 29 rfl w.heap.size 3 i0 (.int .i64 0) 1 8 Tryd.underlying29 hi'.out hz0'.out hz1'.out hz2'.out rfl (by decide) (.slice a k2 k) k2 _ rfl (HE2.out.1.alloc _) ⟨w2.heap.size, 0, none⟩ 1 1 (i64l [now]) rfl rfl (World.news_of_block (heap_alloc_new w2 _)) (i64l_one _) (by unfold maxLen; omega) (by omega) (by have := HE2.out.2.1.size; simp; omega) ?_; intro v5 w5 hown5 hgrow5 hnil5 hat5; have HO5 := hid hown5; have HG5 := hid hgrow5; clear hown5 hgrow5 hnil5 hat5; obtain ⟨a5, d5, rfl⟩ := own_form HO5.out)
                    have h5 : EI w w5 (.slice a5 (k2 + 1) d5) (k2 + 1) (h ++ [now]) := HE2.out.push (zs := [now]) ((Fr.refl _ w2).alloc _) HO5.out HG5.out
                    have HE5 := hid h5
                    clear h5
                    go_roundw
                    case rel => exact ⟨k2 + 1, d5, a5, h ++ [now], by omega, by go_num, rfl, HGOO, HE5⟩
                    case measure => simp [intOf] <;> omega
                · have d6 : (now != 1) = true := by simpa using b4
                  have HST := hid (show (stepE ls s h k2).1 = 5 by rw [STEP.out]; exact if_pos (Or.inr (Or.inr (Or.inr ⟨rfl, b4⟩))))
                  clear STEP hlfr
                  go_wp2
                  go_ret3
                  exact HtP.stop HRun.out (by have := HN.out; omega) (by have := HN.out; omega) (er := 5) HST.out (by decide) HE2.out
              have d6 : (op == 11) = false := by simpa using b3
              have d6n : (op != 11) = true := by simpa using b3
              have hnb : ¬ (true = false ∨ now < 0 ∨ now < tk ∨ (op = 11 ∧ now ≠ 1)) := by simp; omega
              by_cases b5 : 8 < lf
              · have d7 : decide (8 < lf) = true := decide_eq_true b5
                have HST := hid (show (stepE ls s h k2).1 = 16 by rw [STEP.out]; exact (if_neg hnb).trans (if_pos b5))
                clear STEP hlfr
                clear hnb
                clear b3
                go_wp2
                go_ret3
                exact HtP.stop HRun.out (by have := HN.out; omega) (by have := HN.out; omega) (er := 16) HST.out (by decide) HE2.out
              have d7 : decide (8 < lf) = false := decide_eq_false b5
              by_cases b6 : (k2 : Int) = n - 1
              · have d8 : ((k2 : Int) == (n : Int) - 1) = true := by simpa using b6
                have HST := hid (show (stepE ls s h k2).1 = 5 by rw [STEP.out]; exact (if_neg hnb).trans ((if_neg b5).trans (if_pos (Or.inl ⟨b3, b6⟩))))
                clear STEP hlfr
                clear hnb
                clear b3
                clear b6
                go_wp2
                go_ret3
                exact HtP.stop HRun.out (by have := HN.out; omega) (by have := HN.out; omega) (er := 5) HST.out (by decide) HE2.out
              have d8 : ((k2 : Int) == (n : Int) - 1) = false := by simpa using b6
              by_cases b7 : op = 7
              · have d9 : (op == 7) = true := by simp [b7]
                by_cases b8 : (n : Int) - 2 - k2 < xa
                · have d10 : decide ((n : Int) - 2 - k2 < xa) = true := decide_eq_true b8
                  have HST := hid (show (stepE ls s h k2).1 = 5 by rw [STEP.out]; exact (if_neg hnb).trans ((if_neg b5).trans (if_pos (Or.inr ⟨b7, b8⟩))))
                  clear STEP hlfr
                  clear hnb
                  clear b3
                  clear b6
                  clear b7
                  go_wp2
                  go_ret3
                  exact HtP.stop HRun.out (by have := HN.out; omega) (by have := HN.out; omega) (er := 5) HST.out (by decide) HE2.out
                · have d10 : decide ((n : Int) - 2 - k2 < xa) = false := decide_eq_false b8
                  have hst : (stepE ls s h k2).1 = 0 := by rw [STEP.out]; exact (if_neg hnb).trans ((if_neg b5).trans (if_neg (by omega)))
                  have HGOO := hid (run_go HRun.out hst)
                  rw [STEP.out] at HGOO
                  obtain ⟨i0, hi0q, hz0, hz1, hz2⟩ := info_parts infoInt
                  clear STEP hlfr
                  clear hnb
                  clear b3
                  clear b6
                  clear b7
                  have hi' := hid hi0q
                  have hz0' := hid hz0
                  have hz1' := hid hz1
                  have hz2' := hid hz2
                  clear hi0q hz0 hz1 hz2 hst
                  go_wp2_with (at_builtin; refine wpList_append_own_at _ (o := ⟨some 154, _, _, _, _, _⟩) rfl (.tmp 151) (.tmp 153) 29 rfl w.heap.size 3 i0 (.int .i64 0) 1 8 Tryd.underlying29 hi'.out hz0'.out hz1'.out hz2'.out rfl (by decide) (.slice a k2 k) k2 _ rfl (HE2.out.1.alloc _) ⟨w2.heap.size, 0, none⟩ 1 1 (i64l [now]) rfl rfl (World.news_of_block (heap_alloc_new w2 _)) (i64l_one _) (by unfold maxLen; omega) (by omega) (by have := HE2.out.2.1.size; simp; omega) ?_; intro v5 w5 hown5 hgrow5 hnil5 hat5; have HO5 := hid hown5; have HG5 := hid hgrow5; clear hown5 hgrow5 hnil5 hat5; obtain ⟨a5, d5, rfl⟩ := own_form HO5.out)
                  have h5 : EI w w5 (.slice a5 (k2 + 1) d5) (k2 + 1) (h ++ [now]) := HE2.out.push (zs := [now]) ((Fr.refl _ w2).alloc _) HO5.out HG5.out
                  have HE5 := hid h5
                  clear h5
                  go_roundw
                  case rel => exact ⟨k2 + 1, d5, a5, h ++ [now], by omega, by go_num, rfl, HGOO, HE5⟩
                  case measure => simp [intOf] <;> omega
              · have d9 : (op == 7) = false := by simpa using b7
                have hst : (stepE ls s h k2).1 = 0 := by rw [STEP.out]; exact (if_neg hnb).trans ((if_neg b5).trans (if_neg (by omega)))
                have HGOO := hid (run_go HRun.out hst)
                rw [STEP.out] at HGOO
                obtain ⟨i0, hi0q, hz0, hz1, hz2⟩ := info_parts infoInt
                clear STEP hlfr
                clear hnb
                clear b3
                clear b6
                clear b7
                have hi' := hid hi0q
                have hz0' := hid hz0
                have hz1' := hid hz1
                have hz2' := hid hz2
                clear hi0q hz0 hz1 hz2 hst
                go_wp2_with (at_builtin; refine wpList_append_own_at _ (o := ⟨some 154, _, _, _, _, _⟩) rfl (.tmp 151) (.tmp 153) 29 rfl w.heap.size 3 i0 (.int .i64 0) 1 8 Tryd.underlying29 hi'.out hz0'.out hz1'.out hz2'.out rfl (by decide) (.slice a k2 k) k2 _ rfl (HE2.out.1.alloc _) ⟨w2.heap.size, 0, none⟩ 1 1 (i64l [now]) rfl rfl (World.news_of_block (heap_alloc_new w2 _)) (i64l_one _) (by unfold maxLen; omega) (by omega) (by have := HE2.out.2.1.size; simp; omega) ?_; intro v5 w5 hown5 hgrow5 hnil5 hat5; have HO5 := hid hown5; have HG5 := hid hgrow5; clear hown5 hgrow5 hnil5 hat5; obtain ⟨a5, d5, rfl⟩ := own_form HO5.out)
                have h5 : EI w w5 (.slice a5 (k2 + 1) d5) (k2 + 1) (h ++ [now]) := HE2.out.push (zs := [now]) ((Fr.refl _ w2).alloc _) HO5.out HG5.out
                have HE5 := hid h5
                clear h5
                go_roundw
                case rel => exact ⟨k2 + 1, d5, a5, h ++ [now], by omega, by go_num, rfl, HGOO, HE5⟩
                case measure => simp [intOf] <;> omega
      · skip
        have e0 : ((i : Int) == 0) = false := by simp; omega
        have HI0 := hid hi0
        clear hi0
        go_wp2
        go_loopw [9, 10] (fun nv kv wr2 => ∃ (k2 : Nat) (now : Int), k2 ≤ i ∧ kv = .int .i64 k2 ∧ nv = .int .i64 now ∧ (-1 ≤ now ∧ now ≤ 8) ∧ RowKit.Hid (nowP ls s h i k2 = some now) ∧ RowKit.Hid (Below wo.heap.size wo wr2)) (fun _ kv _ => i - (intOf kv).toNat)
        case atStart => exact ⟨0, -1, by omega, rfl, rfl, by omega, hid (by rw [nowP, if_neg HI0.out]), hid (Below.refl _ _)⟩
        case round =>
          obtain ⟨k2, now, hk2, rfl, rfl, hnow, HNow, HBr⟩ := hrel
          by_cases hki : k2 < i
          · obtain ⟨x, hx⟩ : ∃ x, ls[k2]? = some x := ⟨_, List.getElem?_eq_getElem (by have := HN.out; omega)⟩
            have HX := hid hx
            have HRW := hid ((HR.out.on HE.out.2.1).on HBr.out)
            have HG := hid (goes_any ls (some ⟨b, o, none⟩) n c k2 i x wr HRW.out HN.out hx (by omega) (by omega) (by omega) hc1)
            have HSM := hid ((run_small i HRun.out (by have := HN.out; omega)).2 k2 hki x hx)
            obtain ⟨g, rfl⟩ := HE.out.form (by omega)
            clear hx e0
            cases hg : goesP x k2 i
            · rw [hg] at HG
              have HGO := hid hg
              clear hg
              go_wp2_with fail
              refine HG.out.mono ?_
              rintro e w2 ⟨rfl, rfl⟩
              go_wp2
              go_roundw
              case rel => exact ⟨k2 + 1, now, by omega, by go_num, rfl, hnow, hid (now_skip HNow.out HX.out HGO.out), HBr⟩
              case measure => simp [intOf] <;> omega
            · rw [hg] at HG
              have HGO := hid hg
              have HAT := hid (HRW.out.rows b o rfl k2 x HX.out)
              clear hg
              go_wp2_with fail
              refine HG.out.mono ?_
              rintro e w2 ⟨rfl, rfl⟩
              go_wp2_with (first | ((with_reducible refine at_op ⟨some 48, _, _, _, _, _⟩ ?_); refine wpList_runW rfl (.agg (insA x)) (load_ia rfl rfl HAT.out) ?_) | fail)
              refine (shape_any x s _).mono ?_
              rintro e w2 ⟨rfl, hb2⟩
              have HB2 := hid (below_on HBr.out hb2)
              have HE2 := hid ((HE.out.on HBr.out).on hb2)
              have hcell := HE2.out.cell hki
              unfold shV
              have HLF := hid (show leftP x s (h.getD k2 0) = h.getD k2 0 - (shapeP x s).1 + (shapeP x s).2.1 from rfl)
              have hsl := shape_le x s
              obtain ⟨s1, s2, s3, s4⟩ := HSM.out
              obtain ⟨lf, hlf⟩ : ∃ lf, lf = leftP x s (h.getD k2 0) := ⟨_, rfl⟩
              rw [← hlf] at HLF s3 s4
              have HLE := hid hlf
              generalize (shapeP x s).1 = tk at *
              generalize (shapeP x s).2.1 = la at *
              obtain ⟨hk, hhk⟩ : ∃ hk, hk = h.getD k2 0 := ⟨_, rfl⟩
              rw [← hhk] at HLF s1 s2 hcell
              have w1 : IntKind.i64.wrap (hk - tk) = hk - tk := IntWalk.i64_in _ (by omega)
              have w2e : IntKind.i64.wrap (hk - tk + la) = lf := by rw [HLF.out]; exact IntWalk.i64_in _ (by omega)
              clear hlf hhk hsl hb2 HG HRW HSM
              by_cases hcf : 0 ≤ now ∧ now ≠ lf
              · obtain ⟨c1, c2⟩ := hcf
                have d3 : decide (0 ≤ now) = true := decide_eq_true c1
                have d4 : (now != lf) = true := by simpa using c2
                have HCF := hid (now_conf HNow.out HX.out HGO.out (by rw [← HLE.out]; exact ⟨c1, c2⟩))
                clear c2
                go_wp2
                go_ret3
                exact HtP.stop HRun.out (by have := HN.out; omega) (by have := HN.out; omega) (er := 5) (by rw [step_conf ⟨k2 + 1, by omega, HCF.out⟩]) (by decide) HE2.out
              · have HTK := hid (now_take HNow.out HX.out HGO.out (by rw [← HLE.out]; exact hcf))
                rw [← HLE.out] at HTK
                by_cases c1 : 0 ≤ now
                · have d3 : decide (0 ≤ now) = true := decide_eq_true c1
                  have hcf2 : now = lf := by omega
                  subst hcf2
                  have d4 : (now != now) = false := by simp
                  clear hcf
                  go_wp2
                  go_roundw
                  case rel => exact ⟨k2 + 1, now, by omega, by go_num, rfl, hnow, HTK, HB2⟩
                  case measure => simp [intOf] <;> omega
                · have d3 : decide (0 ≤ now) = false := decide_eq_false c1
                  clear hcf
                  go_wp2
                  go_roundw
                  case rel => exact ⟨k2 + 1, lf, by omega, by go_num, rfl, by omega, HTK, HB2⟩
                  case measure => simp [intOf] <;> omega
          · obtain rfl : k2 = i := by omega
            clear hki e0
            obtain ⟨x, hx⟩ : ∃ x, ls[k2]? = some x := ⟨_, List.getElem?_eq_getElem (by have := HN.out; omega)⟩
            have HRW := hid ((HR.out.on HE.out.2.1).on HBr.out)
            have HAT := hid (HRW.out.rows b o rfl k2 x hx)
            have STEP := hid (show stepE ls s h k2 = (badP n s k2 x now, now) by rw [stepE, HNow.out, hx, HN.out])
            unfold badP at STEP
            go_wp2_with (first | ((with_reducible refine at_op ⟨some 76, _, _, _, _, _⟩ ?_); refine wpList_runW rfl (.agg (insA x)) (load_ia rfl rfl HAT.out) ?_) | fail)
            refine (shape_any x s _).mono ?_
            rintro e w2 ⟨rfl, hb2⟩
            have HE2 := hid ((HE.out.on HBr.out).on hb2)
            have hat2 := (HRW.out.on hb2).rows b o rfl k2 x hx
            have c0 : w2.cell? ⟨b, o + k2 * 3, none⟩ = some (.int .i64 x.op) := by simpa using hat2 0 _ rfl
            have c1 : w2.cell? ⟨b, o + k2 * 3 + 1, none⟩ = some (.int .i64 x.a) := hat2 1 _ rfl
            unfold shV
            have hsl := shape_le x s
            have HLF := hid (show leftP x s now = now - (shapeP x s).1 + (shapeP x s).2.1 from rfl)
            obtain ⟨lf, hlf⟩ : ∃ lf, lf = leftP x s now := ⟨_, rfl⟩
            rw [← hlf] at HLF STEP
            generalize (shapeP x s).1 = tk at *
            generalize (shapeP x s).2.1 = la at *
            generalize (shapeP x s).2.2 = ok at *
            generalize x.op = op at *
            generalize x.a = xa at *
            have w1 : IntKind.i64.wrap (now - tk) = now - tk := IntWalk.i64_in _ (by omega)
            have w2e : IntKind.i64.wrap (now - tk + la) = lf := by rw [HLF.out]; exact IntWalk.i64_in _ (by omega)
            have w3 : IntKind.i64.wrap ((n : Int) - 1) = (n : Int) - 1 := IntWalk.i64_in _ (by omega)
            have w4 : IntKind.i64.wrap ((n : Int) - 2) = (n : Int) - 2 := IntWalk.i64_in _ (by omega)
            have w5 : IntKind.i64.wrap ((n : Int) - 2 - k2) = (n : Int) - 2 - k2 := IntWalk.i64_in _ (by omega)
            have hlfr : -3 ≤ lf ∧ lf ≤ 10 := by rw [HLF.out]; omega
            clear hx hlf hsl hb2 hat2 HRW HAT HBr HNow
            cases ok
            case false =>
              have HST := hid (show (stepE ls s h k2).1 = 5 by rw [STEP.out]; simp)
              clear STEP hlfr
              go_wp2
              go_ret3
              exact HtP.stop HRun.out (by have := HN.out; omega) (by have := HN.out; omega) (er := 5) HST.out (by decide) HE2.out
            case true =>
              by_cases b1 : now < 0
              · have d1 : decide (now < 0) = true := decide_eq_true b1
                have HST := hid (show (stepE ls s h k2).1 = 5 by rw [STEP.out]; exact if_pos (Or.inr (Or.inl b1)))
                clear STEP hlfr
                go_wp2
                go_ret3
                exact HtP.stop HRun.out (by have := HN.out; omega) (by have := HN.out; omega) (er := 5) HST.out (by decide) HE2.out
              have d1 : decide (now < 0) = false := decide_eq_false b1
              by_cases b2 : now < tk
              · have d5 : decide (now < tk) = true := decide_eq_true b2
                have HST := hid (show (stepE ls s h k2).1 = 5 by rw [STEP.out]; exact if_pos (Or.inr (Or.inr (Or.inl b2))))
                clear STEP hlfr
                go_wp2
                go_ret3
                exact HtP.stop HRun.out (by have := HN.out; omega) (by have := HN.out; omega) (er := 5) HST.out (by decide) HE2.out
              have d5 : decide (now < tk) = false := decide_eq_false b2
              by_cases b3 : op = 11
              · subst b3
                by_cases b4 : now = 1
                · have d6 : (now != 1) = false := by simp [b4]
                  have hnb : ¬ (true = false ∨ now < 0 ∨ now < tk ∨ ((11 : Int) = 11 ∧ now ≠ 1)) := by simp; omega
                  by_cases b5 : 8 < lf
                  · have d7 : decide (8 < lf) = true := decide_eq_true b5
                    have HST := hid (show (stepE ls s h k2).1 = 16 by rw [STEP.out]; exact (if_neg hnb).trans (if_pos b5))
                    clear STEP hlfr
                    clear b4
                    clear hnb
                    go_wp2
                    go_ret3
                    exact HtP.stop HRun.out (by have := HN.out; omega) (by have := HN.out; omega) (er := 16) HST.out (by decide) HE2.out
                  · have d7 : decide (8 < lf) = false := decide_eq_false b5
                    have hst : (stepE ls s h k2).1 = 0 := by rw [STEP.out]; exact (if_neg hnb).trans ((if_neg b5).trans (if_neg (by omega)))
                    have HGOO := hid (run_go HRun.out hst)
                    rw [STEP.out] at HGOO
                    obtain ⟨i0, hi0q, hz0, hz1, hz2⟩ := info_parts infoInt
                    clear STEP hlfr
                    clear b4
                    clear hnb
                    have hi' := hid hi0q
                    have hz0' := hid hz0
                    have hz1' := hid hz1
                    have hz2' := hid hz2
                    clear hi0q hz0 hz1 hz2 hst
                    go_wp2_with (at_builtin; refine wpList_append_own_at _ (o := ⟨some 154, _, _, _, _, _⟩) rfl (.tmp 151) (.tmp 153) 29 rfl w.heap.size 3 i0 (.int .i64 0) 1 8 Tryd.underlying29 hi'.out hz0'.out hz1'.out hz2'.out rfl (by decide) (.slice a k2 k) k2 _ rfl (HE2.out.1.alloc _) ⟨w2.heap.size, 0, none⟩ 1 1 (i64l [now]) rfl rfl (World.news_of_block (heap_alloc_new w2 _)) (i64l_one _) (by unfold maxLen; omega) (by omega) (by have := HE2.out.2.1.size; simp; omega) ?_; intro v5 w5 hown5 hgrow5 hnil5 hat5; have HO5 := hid hown5; have HG5 := hid hgrow5; clear hown5 hgrow5 hnil5 hat5; obtain ⟨a5, d5, rfl⟩ := own_form HO5.out)
                    have h5 : EI w w5 (.slice a5 (k2 + 1) d5) (k2 + 1) (h ++ [now]) := HE2.out.push (zs := [now]) ((Fr.refl _ w2).alloc _) HO5.out HG5.out
                    have HE5 := hid h5
                    clear h5
                    go_roundw
                    case rel => exact ⟨k2 + 1, d5, a5, h ++ [now], by omega, by go_num, rfl, HGOO, HE5⟩
                    case measure => simp [intOf] <;> omega
                · have d6 : (now != 1) = true := by simpa using b4
                  have HST := hid (show (stepE ls s h k2).1 = 5 by rw [STEP.out]; exact if_pos (Or.inr (Or.inr (Or.inr ⟨rfl, b4⟩))))
                  clear STEP hlfr
                  go_wp2
                  go_ret3
                  exact HtP.stop HRun.out (by have := HN.out; omega) (by have := HN.out; omega) (er := 5) HST.out (by decide) HE2.out
              have d6 : (op == 11) = false := by simpa using b3
              have d6n : (op != 11) = true := by simpa using b3
              have hnb : ¬ (true = false ∨ now < 0 ∨ now < tk ∨ (op = 11 ∧ now ≠ 1)) := by simp; omega
              by_cases b5 : 8 < lf
              · have d7 : decide (8 < lf) = true := decide_eq_true b5
                have HST := hid (show (stepE ls s h k2).1 = 16 by rw [STEP.out]; exact (if_neg hnb).trans (if_pos b5))
                clear STEP hlfr
                clear hnb
                clear b3
                go_wp2
                go_ret3
                exact HtP.stop HRun.out (by have := HN.out; omega) (by have := HN.out; omega) (er := 16) HST.out (by decide) HE2.out
              have d7 : decide (8 < lf) = false := decide_eq_false b5
              by_cases b6 : (k2 : Int) = n - 1
              · have d8 : ((k2 : Int) == (n : Int) - 1) = true := by simpa using b6
                have HST := hid (show (stepE ls s h k2).1 = 5 by rw [STEP.out]; exact (if_neg hnb).trans ((if_neg b5).trans (if_pos (Or.inl ⟨b3, b6⟩))))
                clear STEP hlfr
                clear hnb
                clear b3
                clear b6
                go_wp2
                go_ret3
                exact HtP.stop HRun.out (by have := HN.out; omega) (by have := HN.out; omega) (er := 5) HST.out (by decide) HE2.out
              have d8 : ((k2 : Int) == (n : Int) - 1) = false := by simpa using b6
              by_cases b7 : op = 7
              · have d9 : (op == 7) = true := by simp [b7]
                by_cases b8 : (n : Int) - 2 - k2 < xa
                · have d10 : decide ((n : Int) - 2 - k2 < xa) = true := decide_eq_true b8
                  have HST := hid (show (stepE ls s h k2).1 = 5 by rw [STEP.out]; exact (if_neg hnb).trans ((if_neg b5).trans (if_pos (Or.inr ⟨b7, b8⟩))))
                  clear STEP hlfr
                  clear hnb
                  clear b3
                  clear b6
                  clear b7
                  go_wp2
                  go_ret3
                  exact HtP.stop HRun.out (by have := HN.out; omega) (by have := HN.out; omega) (er := 5) HST.out (by decide) HE2.out
                · have d10 : decide ((n : Int) - 2 - k2 < xa) = false := decide_eq_false b8
                  have hst : (stepE ls s h k2).1 = 0 := by rw [STEP.out]; exact (if_neg hnb).trans ((if_neg b5).trans (if_neg (by omega)))
                  have HGOO := hid (run_go HRun.out hst)
                  rw [STEP.out] at HGOO
                  obtain ⟨i0, hi0q, hz0, hz1, hz2⟩ := info_parts infoInt
                  clear STEP hlfr
                  clear hnb
                  clear b3
                  clear b6
                  clear b7
                  have hi' := hid hi0q
                  have hz0' := hid hz0
                  have hz1' := hid hz1
                  have hz2' := hid hz2
                  clear hi0q hz0 hz1 hz2 hst
                  go_wp2_with (at_builtin; refine wpList_append_own_at _ (o := ⟨some 154, _, _, _, _, _⟩) rfl (.tmp 151) (.tmp 153) 29 rfl w.heap.size 3 i0 (.int .i64 0) 1 8 Tryd.underlying29 hi'.out hz0'.out hz1'.out hz2'.out rfl (by decide) (.slice a k2 k) k2 _ rfl (HE2.out.1.alloc _) ⟨w2.heap.size, 0, none⟩ 1 1 (i64l [now]) rfl rfl (World.news_of_block (heap_alloc_new w2 _)) (i64l_one _) (by unfold maxLen; omega) (by omega) (by have := HE2.out.2.1.size; simp; omega) ?_; intro v5 w5 hown5 hgrow5 hnil5 hat5; have HO5 := hid hown5; have HG5 := hid hgrow5; clear hown5 hgrow5 hnil5 hat5; obtain ⟨a5, d5, rfl⟩ := own_form HO5.out)
                  have h5 : EI w w5 (.slice a5 (k2 + 1) d5) (k2 + 1) (h ++ [now]) := HE2.out.push (zs := [now]) ((Fr.refl _ w2).alloc _) HO5.out HG5.out
                  have HE5 := hid h5
                  clear h5
                  go_roundw
                  case rel => exact ⟨k2 + 1, d5, a5, h ++ [now], by omega, by go_num, rfl, HGOO, HE5⟩
                  case measure => simp [intOf] <;> omega
              · have d9 : (op == 7) = false := by simpa using b7
                have hst : (stepE ls s h k2).1 = 0 := by rw [STEP.out]; exact (if_neg hnb).trans ((if_neg b5).trans (if_neg (by omega)))
                have HGOO := hid (run_go HRun.out hst)
                rw [STEP.out] at HGOO
                obtain ⟨i0, hi0q, hz0, hz1, hz2⟩ := info_parts infoInt
                clear STEP hlfr
                clear hnb
                clear b3
                clear b6
                clear b7
                have hi' := hid hi0q
                have hz0' := hid hz0
                have hz1' := hid hz1
                have hz2' := hid hz2
                clear hi0q hz0 hz1 hz2 hst
                go_wp2_with (at_builtin; refine wpList_append_own_at _ (o := ⟨some 154, _, _, _, _, _⟩) rfl (.tmp 151) (.tmp 153) 29 rfl w.heap.size 3 i0 (.int .i64 0) 1 8 Tryd.underlying29 hi'.out hz0'.out hz1'.out hz2'.out rfl (by decide) (.slice a k2 k) k2 _ rfl (HE2.out.1.alloc _) ⟨w2.heap.size, 0, none⟩ 1 1 (i64l [now]) rfl rfl (World.news_of_block (heap_alloc_new w2 _)) (i64l_one _) (by unfold maxLen; omega) (by omega) (by have := HE2.out.2.1.size; simp; omega) ?_; intro v5 w5 hown5 hgrow5 hnil5 hat5; have HO5 := hid hown5; have HG5 := hid hgrow5; clear hown5 hgrow5 hnil5 hat5; obtain ⟨a5, d5, rfl⟩ := own_form HO5.out)
                have h5 : EI w w5 (.slice a5 (k2 + 1) d5) (k2 + 1) (h ++ [now]) := HE2.out.push (zs := [now]) ((Fr.refl _ w2).alloc _) HO5.out HG5.out
                have HE5 := hid h5
                clear h5
                go_roundw
                case rel => exact ⟨k2 + 1, d5, a5, h ++ [now], by omega, by go_num, rfl, HGOO, HE5⟩
                case measure => simp [intOf] <;> omega
    · obtain rfl : i = n := by omega
      have HH := hid (show heightP ls s = (h, 0, 0) by rw [heightP, if_neg (by have := HN.out; omega), ← HN.out, HRun.out])
      have HL := hid (show h.length = i from HE.out.2.2.symm)
      clear hin
      go_wp2
      go_ret3
      unfold HtP
      rw [HH.out]
      simp only [HL.out]
      exact ⟨a, k, rfl, HE.out⟩
end Go.Proofs.YtcoclaabainibaaDoor
