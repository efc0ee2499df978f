/- CdC CdD CdMo CdP CdQ in one -/
import Derived.Test.YtgfimkeopohjaaaDoorCdB
import Derived.OwnWalk
namespace Go.Proofs.YtgfimkeopohjaaaDoor
open Go Go.ChangeShapes Go.WideShapes Go.ChangeAt Go.RowKit

def leftP (x : Ins) (s h : Int) : Int := h - (shapeP x s).1 + (shapeP x s).2.1
/-- The height of i, by what is ahead of k: -1: none yet; none: two unlike ones. -/
def nowP (ls : List Ins) (s : Int) (h : List Int) (i : Nat) : Nat → Option Int
  | 0 => some (if i = 0 then 0 else -1)
  | k + 1 => match nowP ls s h i k, ls[k]? with
    | none, _ => none
    | some now, none => some now
    | some now, some x => if goesP x k i then (if 0 ≤ now ∧ now ≠ leftP x s (h.getD k 0) then none else some (leftP x s (h.getD k 0))) else some now
def badP (n : Nat) (s : Int) (i : Nat) (x : Ins) (now : Int) : Int :=
  if (shapeP x s).2.2 = false ∨ now < 0 ∨ now < (shapeP x s).1 ∨ (x.op = 11 ∧ now ≠ 1) then 5
  else if 8 < leftP x s now then 16
  else if (x.op ≠ 11 ∧ (i : Int) = n - 1) ∨ (x.op = 7 ∧ (n : Int) - 2 - i < x.a) then 5 else 0
/-- Why i is wrong (0: it isn't), and its height. -/
def stepE (ls : List Ins) (s : Int) (h : List Int) (i : Nat) : Int × Int :=
  match nowP ls s h i i, ls[i]? with
  | some now, some x => (badP ls.length s i x now, now)
  | _, _ => (5, 0)
def runP (ls : List Ins) (s : Int) : Nat → List Int × Option (Nat × Int)
  | 0 => ([], none)
  | i + 1 => match runP ls s i with
    | (h, some e) => (h, some e)
    | (h, none) => if (stepE ls s h i).1 = 0 then (h ++ [(stepE ls s h i).2], none) else (h, some (i, (stepE ls s h i).1))
def heightP (ls : List Ins) (s : Int) : List Int × Int × Int :=
  if ls.length = 0 ∨ 32 < ls.length then ([], 0, 20)
  else match runP ls s ls.length with
    | (h, none) => (h, 0, 0)
    | (h, some (i, e)) => (h, (i : Int), e)
theorem run_stays {ls : List Ins} {s : Int} {i : Nat} {h : List Int} {e : Nat × Int} (hi : runP ls s i = (h, some e)) : ∀ j, i ≤ j → runP ls s j = (h, some e) := by
  intro j hj
  induction j with
  | zero => obtain rfl : i = 0 := by omega
            exact hi
  | succ j ih =>
    by_cases hij : i = j + 1
    · subst hij; exact hi
    · rw [runP, ih (by omega)]
theorem run_stop {ls : List Ins} {s : Int} {i : Nat} {h : List Int} (hr : runP ls s i = (h, none)) (hi : i < ls.length) (h32 : ls.length ≤ 32) (he : (stepE ls s h i).1 ≠ 0) : heightP ls s = (h, (i : Int), (stepE ls s h i).1) := by
  have h1 : runP ls s (i + 1) = (h, some (i, (stepE ls s h i).1)) := by rw [runP, hr]; simp only; rw [if_neg he]
  rw [heightP, if_neg (by omega), run_stays h1 ls.length (by omega)]
theorem run_go {ls : List Ins} {s : Int} {i : Nat} {h : List Int} (hr : runP ls s i = (h, none)) (he : (stepE ls s h i).1 = 0) : runP ls s (i + 1) = (h ++ [(stepE ls s h i).2], none) := by
  rw [runP, hr]; simp only; rw [if_pos he]
theorem step_conf {ls : List Ins} {s : Int} {i : Nat} {h : List Int} (hc : ∃ k, k ≤ i ∧ nowP ls s h i k = none) : stepE ls s h i = (5, 0) := by
  obtain ⟨k, hk, hn⟩ := hc
  have : ∀ j, k ≤ j → nowP ls s h i j = none := fun j hj => by
    induction j with
    | zero => obtain rfl : k = 0 := by omega
              exact hn
    | succ j ih =>
      by_cases hkj : k = j + 1
      · subst hkj; exact hn
      · rw [nowP, ih (by omega)]
  rw [stepE, this i hk]
/-- Heights so far, and what is left behind each, are small. -/
theorem run_small {ls : List Ins} {s : Int} : ∀ (i : Nat) {h : List Int}, runP ls s i = (h, none) → i ≤ ls.length → h.length = i ∧ ∀ k, k < i → ∀ x, ls[k]? = some x → 0 ≤ h.getD k 0 ∧ h.getD k 0 ≤ 10 ∧ 0 ≤ leftP x s (h.getD k 0) ∧ leftP x s (h.getD k 0) ≤ 8
  | 0, h, hr, _ => by
    rw [runP] at hr
    cases hr
    exact ⟨rfl, fun k hk => by omega⟩
  | i + 1, h, hr, hi => by
    rw [runP] at hr
    cases hq : runP ls s i with
    | mk h0 o =>
      rw [hq] at hr
      cases o with
      | some e => simp only at hr; cases hr
      | none =>
        simp only at hr
        split at hr
        · rename_i he
          cases hr
          obtain ⟨h1, h2⟩ := run_small i hq (by omega)
          refine ⟨by simp [h1], fun k hk x hx => ?_⟩
          by_cases hki : k < i
          · rw [List.getD_eq_getElem?_getD, List.getElem?_append_left (by omega), ← List.getD_eq_getElem?_getD]
            exact h2 k hki x hx
          · obtain rfl : k = i := by omega
            rw [List.getD_eq_getElem?_getD, List.getElem?_append_right (by omega), h1, Nat.sub_self]
            simp only [List.getElem?_cons_zero, Option.getD_some]
            unfold stepE at he ⊢
            rw [hx] at he ⊢
            cases hn : nowP ls s h0 k k with
            | none => rw [hn] at he; simp only at he; omega
            | some now =>
              rw [hn] at he
              simp only at he ⊢
              unfold badP at he
              have hs := shape_le x s
              split at he
              · omega
              · rename_i n1
                split at he
                · omega
                · rename_i n2
                  unfold leftP at n2 ⊢
                  omega
        · cases hr
def i64l (xs : List Int) : List Value := xs.map (Value.int .i64)
/-- A row of numbers of the call's own, since the world w1. -/
def EI (w1 W : World) (v : Value) (n : Nat) (xs : List Int) : Prop := W.ownsRow w1.heap.size 3 1 v n (i64l xs) ∧ Below w1.heap.size w1 W ∧ n = xs.length
theorem EI.on {w1 W W' : World} {v : Value} {n : Nat} {xs : List Int} (h : EI w1 W v n xs) (hB : Below W.heap.size W W') : EI w1 W' v n xs :=
  ⟨(Fr.of_below (fp := fun _ => False) hB).owns h.1 (fun _ _ h => h), h.2.1.trans (hB.mono h.2.1.size), h.2.2⟩
theorem i64l_len (xs : List Int) : (i64l xs).length = xs.length := by simp [i64l]
theorem i64l_one (xs : List Int) : ∀ u ∈ i64l xs, u.oneCell' = true := fun u hu => by
  simp only [i64l, List.mem_map] at hu
  obtain ⟨x, _, rfl⟩ := hu
  rfl
theorem EI.cell {w1 W : World} {g n c : Nat} {xs : List Int} (h : EI w1 W (.slice (some ⟨g, 0, none⟩) n c) n xs) {j : Nat} (hj : j < n) : W.cell? ⟨g, j, none⟩ = some (.int .i64 (xs.getD j 0)) := by
  have h1 := h.1.cellAt j (by omega)
  rw [h1]
  have hl := h.2.2
  simp [i64l, show j < xs.length by omega]
theorem EI.push {w1 W wa w5 : World} {v v5 : Value} {n m : Nat} {xs zs : List Int} (h : EI w1 W v n xs) (ha : Fr (fun _ => False) W wa) (hown : w5.ownsRow w1.heap.size 3 1 v5 m (i64l xs ++ i64l zs)) (hg : wa.grownBy w5 v.ownBlock) : EI w1 w5 v5 (n + zs.length) (xs ++ zs) := by
  have hm : m = n + zs.length := by
    have := hown.1
    simp only [List.length_append, i64l_len] at this
    have := h.2.2
    omega
  have hW := h.2.1
  have h1 : Below w1.heap.size w1 wa := ⟨ha.os.trans hW.os, ha.tape.trans hW.tape, ha.output.trans hW.output, Nat.le_trans hW.size ha.size, fun k hk => (ha.block k (Nat.lt_of_lt_of_le hk hW.size) (fun h => h)).trans (hW.block k hk)⟩
  refine ⟨?_, h1.grown hg h1.size (fun k hk => (h.1.lt k hk).1), by rw [List.length_append, h.2.2]⟩
  rw [← hm]
  have e : i64l (xs ++ zs) = i64l xs ++ i64l zs := by simp [i64l]
  rw [e]
  exact hown
theorem EI.form {w1 W : World} {a : Option Addr} {n c : Nat} {xs : List Int} (h : EI w1 W (.slice a n c) n xs) (hn : 0 < n) : ∃ g, a = some ⟨g, 0, none⟩ := by
  rcases h.1.2 with ⟨q1, q2⟩ | ⟨g, cap', _, q1, q2⟩
  · omega
  · cases q1; exact ⟨g, rfl⟩
theorem now_skip {ls : List Ins} {s : Int} {h : List Int} {i k : Nat} {now : Int} {x : Ins} (hn : nowP ls s h i k = some now) (hx : ls[k]? = some x) (hg : goesP x k i = false) : nowP ls s h i (k + 1) = some now := by
  rw [nowP, hn, hx]; simp [hg]
theorem now_take {ls : List Ins} {s : Int} {h : List Int} {i k : Nat} {now : Int} {x : Ins} (hn : nowP ls s h i k = some now) (hx : ls[k]? = some x) (hg : goesP x k i = true) (hc : ¬ (0 ≤ now ∧ now ≠ leftP x s (h.getD k 0))) : nowP ls s h i (k + 1) = some (leftP x s (h.getD k 0)) := by
  rw [nowP, hn, hx]; simp only [hg, if_true]; rw [if_neg hc]
theorem now_conf {ls : List Ins} {s : Int} {h : List Int} {i k : Nat} {now : Int} {x : Ins} (hn : nowP ls s h i k = some now) (hx : ls[k]? = some x) (hg : goesP x k i = true) (hc : 0 ≤ now ∧ now ≠ leftP x s (h.getD k 0)) : nowP ls s h i (k + 1) = none := by
  rw [nowP, hn, hx]; simp only [hg, if_true]; rw [if_pos hc]
set_option maxRecDepth 100000 in
theorem infoInt : (Tryd.prog.info? 3).map (fun i => (i.zero, i.size, i.bytes)) = some (some (.int .i64 0), 1, 8) := by kernel_rfl
end Go.Proofs.YtgfimkeopohjaaaDoor

namespace Go.Proofs.YtgfimkeopohjaaaDoor
open Go Go.ChangeShapes Go.WideShapes Go.ChangeAt Go.RowKit

set_option maxRecDepth 100000 in
theorem szI : (Tryd.prog.info? 61).map (·.size) = some 3 := by kernel_rfl
set_option maxRecDepth 100000 in
theorem AtL.loadI {W : World} {b o : Nat} {x : Ins} (h : AtL W b o (insc x)) : (loadVar 61 ⟨b, o, none⟩).run Tryd.prog W = .ok (.agg (insA x)) W := by
  have h1 := h.run (P := Tryd.prog)
  cases hq : Tryd.prog.info? 61 with
  | none => have := szI; simp [hq] at this
  | some i =>
    have hi : i.size = 3 := by have := szI; simpa [hq] using this
    rw [show (insc x).length = 3 from rfl] at h1
    simp [loadVar, sizeOf, typeInfo, hq, hi, loadCells, h1, insA]
/-- An operation that loads an instruction out of a row. -/
theorem load_ia {o : Oper} {f : Operand → Value} {p : Operand} {b off : Nat} {x : Ins} {W : World} (ho : o.op = .load 61 p) (hp : f p = .pointer (some ⟨b, off, none⟩)) (h : AtL W b off (insc x)) : (execOp f o).run Tryd.prog W = .ok (.value (.agg (insA x))) W := by
  have h1 := h.loadI
  unfold execOp
  simp only [ho, hp, Instr.loadAt, Instr.sureAddr, Sem.run_bind, Sem.run_pure, Result.andThen_ok, h1]
/-- What Height answers. -/
def HtP (w : World) (ls : List Ins) (s : Int) (e : Ending) (w' : World) : Prop :=
  ∃ a c, e = .returned (.tuple #[.slice a (heightP ls s).1.length c, .int .i64 (heightP ls s).2.1, .int .i64 (heightP ls s).2.2]) ∧ EI w w' (.slice a (heightP ls s).1.length c) (heightP ls s).1.length (heightP ls s).1
theorem HtP.stop {w W : World} {ls : List Ins} {s : Int} {i c : Nat} {h : List Int} {a : Option Addr} (hr : runP ls s i = (h, none)) (hi : i < ls.length) (h32 : ls.length ≤ 32) {er : Int} (he : (stepE ls s h i).1 = er) (h0 : er ≠ 0) (hE : EI w W (.slice a i c) i h) :
    HtP w ls s (.returned (.tuple #[.slice a i c, .int .i64 i, .int .i64 er])) W := by
  have h1 := run_stop hr hi h32 (by rw [he]; exact h0)
  have hl := (run_small i hr (by omega)).1
  unfold HtP
  rw [h1, he]
  subst hl
  exact ⟨a, c, rfl, hE⟩
set_option maxRecDepth 100000 in
set_option maxHeartbeats 8000000 in
theorem Height_any (ls : List Ins) (s : Int) (ad : Option Addr) (n c : Nat) (w : World) (h : RwI w w.heap.size ad ls) (hn : n = ls.length) (hc : n ≤ c ∧ c ≤ 9223372036854775807) :
    Calls Tryd.prog 32 #[.slice ad n c, .int .i64 s] w (HtP w ls s) := by
  have HR := hid h
  have HN := hid hn
  obtain ⟨hc1, hc2⟩ := hc
  by_cases hz : n = 0 ∨ 32 < n
  · have HH := hid (show heightP ls s = ([], 0, 20) by rw [heightP, if_pos (by omega)])
    have d1 : ((n : Int) == 0) = decide (n = 0) := by by_cases e : n = 0 <;> simp [e]
    clear h hn
    rcases hz with rfl | hz
    · go_enter Tryd.func32, Tryd.ntmps32
      go_wp2
      go_ret3
      unfold HtP
      rw [HH.out]
      exact ⟨none, 0, rfl, World.ownsRow_nil _ _ _ _, Below.refl _ _, rfl⟩
    · have d2 : ((n : Int) == 0) = false := by simp; omega
      clear d1
      go_enter Tryd.func32, Tryd.ntmps32
      go_wp2
      go_ret3
      unfold HtP
      rw [HH.out]
      exact ⟨none, 0, rfl, World.ownsRow_nil _ _ _ _, Below.refl _ _, rfl⟩
  have hn1 : 1 ≤ n := by omega
  have hn32 : n ≤ 32 := by omega
  have d2 : ((n : Int) == 0) = false := by simp; omega
  obtain ⟨b, o, rfl, _⟩ := h.at_ (by omega)
  have H0 := hid (show runP ls s 0 = ([], none) from rfl)
  have E0 := hid (show EI w w (.slice none 0 0) 0 [] from ⟨World.ownsRow_nil _ _ _ _, Below.refl _ _, rfl⟩)
  clear h hn hz
  go_enter Tryd.func32, Tryd.ntmps32
  go_wp2
  go_loopw [7, 8] (fun hv iv wr => ∃ (i k : Nat) (a : Option Addr) (h : List Int), i ≤ n ∧ iv = .int .i64 i ∧ hv = .slice a i k ∧ RowKit.Hid (runP ls s i = (h, none)) ∧ RowKit.Hid (EI w wr (.slice a i k) i h)) (fun _ iv _ => n - (intOf iv).toNat)
  case atStart => exact ⟨0, 0, none, [], by omega, rfl, rfl, H0, E0⟩
  case round =>
    obtain ⟨i, k, a, h, hi, rfl, rfl, HRun, HE⟩ := hrel
    obtain ⟨wo, hwo⟩ : ∃ wo, wo = wr := ⟨_, rfl⟩
    rw [← hwo] at HE ⊢
    clear hwo
    by_cases hin : i < n
    · by_cases hi0 : i = 0
      · skip
        have e0 : ((i : Int) == 0) = true := by simp; omega
        have HI0 := hid hi0
        clear hi0
        go_wp2
        go_loopw [9, 10] (fun nv kv wr2 => ∃ (k2 : Nat) (now : Int), k2 ≤ i ∧ kv = .int .i64 k2 ∧ nv = .int .i64 now ∧ (-1 ≤ now ∧ now ≤ 8) ∧ RowKit.Hid (nowP ls s h i k2 = some now) ∧ RowKit.Hid (Below wo.heap.size wo wr2)) (fun _ kv _ => i - (intOf kv).toNat)
        case atStart => exact ⟨0, 0, by omega, rfl, rfl, by omega, hid (by rw [nowP, if_pos HI0.out]), hid (Below.refl _ _)⟩
        case round =>
          obtain ⟨k2, now, hk2, rfl, rfl, hnow, HNow, HBr⟩ := hrel
          by_cases hki : k2 < i
          · exact absurd hki (by have := HI0.out; omega)
          · obtain rfl : k2 = i := by omega
            clear hki e0
            obtain ⟨x, hx⟩ : ∃ x, ls[k2]? = some x := ⟨_, List.getElem?_eq_getElem (by have := HN.out; omega)⟩
            have HRW := hid ((HR.out.on HE.out.2.1).on HBr.out)
            have HAT := hid (HRW.out.rows b o rfl k2 x hx)
            have STEP := hid (show stepE ls s h k2 = (badP n s k2 x now, now) by rw [stepE, HNow.out, hx, HN.out])
            unfold badP at STEP
            go_wp2_with (first | ((with_reducible refine at_op ⟨some 76, _, _, _, _, _⟩ ?_); refine wpList_runW rfl (.agg (insA x)) (load_ia rfl rfl HAT.out) ?_) | fail)
            refine (shape_any x s _).mono ?_
            rintro e w2 ⟨rfl, hb2⟩
            have HE2 := hid ((HE.out.on HBr.out).on hb2)
            have hat2 := (HRW.out.on hb2).rows b o rfl k2 x hx
            have c0 : w2.cell? ⟨b, o + k2 * 3, none⟩ = some (.int .i64 x.op) := by simpa using hat2 0 _ rfl
            have c1 : w2.cell? ⟨b, o + k2 * 3 + 1, none⟩ = some (.int .i64 x.a) := hat2 1 _ rfl
            unfold shV
            have hsl := shape_le x s
            have HLF := hid (show leftP x s now = now - (shapeP x s).1 + (shapeP x s).2.1 from rfl)
            obtain ⟨lf, hlf⟩ : ∃ lf, lf = leftP x s now := ⟨_, rfl⟩
            rw [← hlf] at HLF STEP
            generalize (shapeP x s).1 = tk at *
            generalize (shapeP x s).2.1 = la at *
            generalize (shapeP x s).2.2 = ok at *
            generalize x.op = op at *
            generalize x.a = xa at *
            have w1 : IntKind.i64.wrap (now - tk) = now - tk := IntWalk.i64_in _ (by omega)
            have w2e : IntKind.i64.wrap (now - tk + la) = lf := by rw [HLF.out]; exact IntWalk.i64_in _ (by omega)
            have w3 : IntKind.i64.wrap ((n : Int) - 1) = (n : Int) - 1 := IntWalk.i64_in _ (by omega)
            have w4 : IntKind.i64.wrap ((n : Int) - 2) = (n : Int) - 2 := IntWalk.i64_in _ (by omega)
            have w5 : IntKind.i64.wrap ((n : Int) - 2 - k2) = (n : Int) - 2 - k2 := IntWalk.i64_in _ (by omega)
            have hlfr : -3 ≤ lf ∧ lf ≤ 10 := by rw [HLF.out]; omega
            clear hx hlf hsl hb2 hat2 HRW HAT HBr HNow
            cases ok
            case false =>
              have HST := hid (show (stepE ls s h k2).1 = 5 by rw [STEP.out]; simp)
              clear STEP hlfr
              go_wp2
              go_ret3
              exact HtP.stop HRun.out (by have := HN.out; omega) (by have := HN.out; omega) (er := 5) HST.out (by decide) HE2.out
            case true =>
              by_cases b1 : now < 0
              · have d1 : decide (now < 0) = true := decide_eq_true b1
                have HST := hid (show (stepE ls s h k2).1 = 5 by rw [STEP.out]; exact if_pos (Or.inr (Or.inl b1)))
                clear STEP hlfr
                go_wp2
                go_ret3
                exact HtP.stop HRun.out (by have := HN.out; omega) (by have := HN.out; omega) (er := 5) HST.out (by decide) HE2.out
              have d1 : decide (now < 0) = false := decide_eq_false b1
              by_cases b2 : now < tk
              · have d5 : decide (now < tk) = true := decide_eq_true b2
                have HST := hid (show (stepE ls s h k2).1 = 5 by rw [STEP.out]; exact if_pos (Or.inr (Or.inr (Or.inl b2))))
                clear STEP hlfr
                go_wp2
                go_ret3
                exact HtP.stop HRun.out (by have := HN.out; omega) (by have := HN.out; omega) (er := 5) HST.out (by decide) HE2.out
              have d5 : decide (now < tk) = false := decide_eq_false b2
              by_cases b3 : op = 11
              · subst b3
                by_cases b4 : now = 1
                · have d6 : (now != 1) = false := by simp [b4]
                  have hnb : ¬ (true = false ∨ now < 0 ∨ now < tk ∨ ((11 : Int) = 11 ∧ now ≠ 1)) := by simp; omega
                  by_cases b5 : 8 < lf
                  · have d7 : decide (8 < lf) = true := decide_eq_true b5
                    have HST := hid (show (stepE ls s h k2).1 = 16 by rw [STEP.out]; exact (if_neg hnb).trans (if_pos b5))
                    clear STEP hlfr
                    clear b4
                    clear hnb
                    go_wp2
                    go_ret3
                    exact HtP.stop HRun.out (by have := HN.out; omega) (by have := HN.out; omega) (er := 16) HST.out (by decide) HE2.out
                  · have d7 : decide (8 < lf) = false := decide_eq_false b5
                    have hst : (stepE ls s h k2).1 = 0 := by rw [STEP.out]; exact (if_neg hnb).trans ((if_neg b5).trans (if_neg (by omega)))
                    have HGOO := hid (run_go HRun.out hst)
                    rw [STEP.out] at HGOO
                    obtain ⟨i0, hi0q, hz0, hz1, hz2⟩ := info_parts infoInt
                    clear STEP hlfr
                    clear b4
                    clear hnb
                    have hi' := hid hi0q
                    have hz0' := hid hz0
                    have hz1' := hid hz1
                    have hz2' := hid hz2
                    clear hi0q hz0 hz1 hz2 hst
                    go_wp2_with (at_builtin; refine wpList_append_own_at _ (o := ⟨some 154, _, _, _, _, _⟩) rfl (.tmp 151) (.tmp 153) 68 rfl w.heap.size 3 i0 (.int .i64 0) 1 8 Tryd.underlying68 hi'.out hz0'.out hz1'.out hz2'.out rfl (by decide) (.slice a k2 k) k2 _ rfl (HE2.out.1.alloc _) ⟨w2.heap.size, 0, none⟩ 1 1 (i64l [now]) rfl rfl (World.news_of_block (heap_alloc_new w2 _)) (i64l_one _) (by unfold maxLen; omega) (by omega) (by have := HE2.out.2.1.size; simp; omega) ?_; intro v5 w5 hown5 hgrow5 hnil5 hat5; have HO5 := hid hown5; have HG5 := hid hgrow5; clear hown5 hgrow5 hnil5 hat5; obtain ⟨a5, d5, rfl⟩ := own_form HO5.out)
                    have h5 : EI w w5 (.slice a5 (k2 + 1) d5) (k2 + 1) (h ++ [now]) := HE2.out.push (zs := [now]) ((Fr.refl _ w2).alloc _) HO5.out HG5.out
                    have HE5 := hid h5
                    clear h5
                    go_roundw
                    case rel => exact ⟨k2 + 1, d5, a5, h ++ [now], by omega, by go_num, rfl, HGOO, HE5⟩
                    case measure => simp [intOf] <;> omega
                · have d6 : (now != 1) = true := by simpa using b4
                  have HST := hid (show (stepE ls s h k2).1 = 5 by rw [STEP.out]; exact if_pos (Or.inr (Or.inr (Or.inr ⟨rfl, b4⟩))))
                  clear STEP hlfr
                  go_wp2
                  go_ret3
                  exact HtP.stop HRun.out (by have := HN.out; omega) (by have := HN.out; omega) (er := 5) HST.out (by decide) HE2.out
              have d6 : (op == 11) = false := by simpa using b3
              have d6n : (op != 11) = true := by simpa using b3
              have hnb : ¬ (true = false ∨ now < 0 ∨ now < tk ∨ (op = 11 ∧ now ≠ 1)) := by simp; omega
              by_cases b5 : 8 < lf
              · have d7 : decide (8 < lf) = true := decide_eq_true b5
                have HST := hid (show (stepE ls s h k2).1 = 16 by rw [STEP.out]; exact (if_neg hnb).trans (if_pos b5))
                clear STEP hlfr
                clear hnb
                clear b3
                go_wp2
                go_ret3
                exact HtP.stop HRun.out (by have := HN.out; omega) (by have := HN.out; omega) (er := 16) HST.out (by decide) HE2.out
              have d7 : decide (8 < lf) = false := decide_eq_false b5
              by_cases b6 : (k2 : Int) = n - 1
              · have d8 : ((k2 : Int) == (n : Int) - 1) = true := by simpa using b6
                have HST := hid (show (stepE ls s h k2).1 = 5 by rw [STEP.out]; exact (if_neg hnb).trans ((if_neg b5).trans (if_pos (Or.inl ⟨b3, b6⟩))))
                clear STEP hlfr
                clear hnb
                clear b3
                clear b6
                go_wp2
                go_ret3
                exact HtP.stop HRun.out (by have := HN.out; omega) (by have := HN.out; omega) (er := 5) HST.out (by decide) HE2.out
              have d8 : ((k2 : Int) == (n : Int) - 1) = false := by simpa using b6
              by_cases b7 : op = 7
              · have d9 : (op == 7) = true := by simp [b7]
                by_cases b8 : (n : Int) - 2 - k2 < xa
                · have d10 : decide ((n : Int) - 2 - k2 < xa) = true := decide_eq_true b8
                  have HST := hid (show (stepE ls s h k2).1 = 5 by rw [STEP.out]; exact (if_neg hnb).trans ((if_neg b5).trans (if_pos (Or.inr ⟨b7, b8⟩))))
                  clear STEP hlfr
                  clear hnb
                  clear b3
                  clear b6
                  clear b7
                  go_wp2
                  go_ret3
                  exact HtP.stop HRun.out (by have := HN.out; omega) (by have := HN.out; omega) (er := 5) HST.out (by decide) HE2.out
                · have d10 : decide ((n : Int) - 2 - k2 < xa) = false := decide_eq_false b8
                  have hst : (stepE ls s h k2).1 = 0 := by rw [STEP.out]; exact (if_neg hnb).trans ((if_neg b5).trans (if_neg (by omega)))
                  have HGOO := hid (run_go HRun.out hst)
                  rw [STEP.out] at HGOO
                  obtain ⟨i0, hi0q, hz0, hz1, hz2⟩ := info_parts infoInt
                  clear STEP hlfr
                  clear hnb
                  clear b3
                  clear b6
                  clear b7
                  have hi' := hid hi0q
                  have hz0' := hid hz0
                  have hz1' := hid hz1
                  have hz2' := hid hz2
                  clear hi0q hz0 hz1 hz2 hst
                  go_wp2_with (at_builtin; refine wpList_append_own_at _ (o := ⟨some 154, _, _, _, _, _⟩) rfl (.tmp 151) (.tmp 153) 68 rfl w.heap.size 3 i0 (.int .i64 0) 1 8 Tryd.underlying68 hi'.out hz0'.out hz1'.out hz2'.out rfl (by decide) (.slice a k2 k) k2 _ rfl (HE2.out.1.alloc _) ⟨w2.heap.size, 0, none⟩ 1 1 (i64l [now]) rfl rfl (World.news_of_block (heap_alloc_new w2 _)) (i64l_one _) (by unfold maxLen; omega) (by omega) (by have := HE2.out.2.1.size; simp; omega) ?_; intro v5 w5 hown5 hgrow5 hnil5 hat5; have HO5 := hid hown5; have HG5 := hid hgrow5; clear hown5 hgrow5 hnil5 hat5; obtain ⟨a5, d5, rfl⟩ := own_form HO5.out)
                  have h5 : EI w w5 (.slice a5 (k2 + 1) d5) (k2 + 1) (h ++ [now]) := HE2.out.push (zs := [now]) ((Fr.refl _ w2).alloc _) HO5.out HG5.out
                  have HE5 := hid h5
                  clear h5
                  go_roundw
                  case rel => exact ⟨k2 + 1, d5, a5, h ++ [now], by omega, by go_num, rfl, HGOO, HE5⟩
                  case measure => simp [intOf] <;> omega
              · have d9 : (op == 7) = false := by simpa using b7
                have hst : (stepE ls s h k2).1 = 0 := by rw [STEP.out]; exact (if_neg hnb).trans ((if_neg b5).trans (if_neg (by omega)))
                have HGOO := hid (run_go HRun.out hst)
                rw [STEP.out] at HGOO
                obtain ⟨i0, hi0q, hz0, hz1, hz2⟩ := info_parts infoInt
                clear STEP hlfr
                clear hnb
                clear b3
                clear b6
                clear b7
                have hi' := hid hi0q
                have hz0' := hid hz0
                have hz1' := hid hz1
                have hz2' := hid hz2
                clear hi0q hz0 hz1 hz2 hst
                go_wp2_with (at_builtin; refine wpList_append_own_at _ (o := ⟨some 154, _, _, _, _, _⟩) rfl (.tmp 151) (.tmp 153) 68 rfl w.heap.size 3 i0 (.int .i64 0) 1 8 Tryd.underlying68 hi'.out hz0'.out hz1'.out hz2'.out rfl (by decide) (.slice a k2 k) k2 _ rfl (HE2.out.1.alloc _) ⟨w2.heap.size, 0, none⟩ 1 1 (i64l [now]) rfl rfl (World.news_of_block (heap_alloc_new w2 _)) (i64l_one _) (by unfold maxLen; omega) (by omega) (by have := HE2.out.2.1.size; simp; omega) ?_; intro v5 w5 hown5 hgrow5 hnil5 hat5; have HO5 := hid hown5; have HG5 := hid hgrow5; clear hown5 hgrow5 hnil5 hat5; obtain ⟨a5, d5, rfl⟩ := own_form HO5.out)
                have h5 : EI w w5 (.slice a5 (k2 + 1) d5) (k2 + 1) (h ++ [now]) := HE2.out.push (zs := [now]) ((Fr.refl _ w2).alloc _) HO5.out HG5.out
                have HE5 := hid h5
                clear h5
                go_roundw
                case rel => exact ⟨k2 + 1, d5, a5, h ++ [now], by omega, by go_num, rfl, HGOO, HE5⟩
                case measure => simp [intOf] <;> omega
      · skip
        have e0 : ((i : Int) == 0) = false := by simp; omega
        have HI0 := hid hi0
        clear hi0
        go_wp2
        go_loopw [9, 10] (fun nv kv wr2 => ∃ (k2 : Nat) (now : Int), k2 ≤ i ∧ kv = .int .i64 k2 ∧ nv = .int .i64 now ∧ (-1 ≤ now ∧ now ≤ 8) ∧ RowKit.Hid (nowP ls s h i k2 = some now) ∧ RowKit.Hid (Below wo.heap.size wo wr2)) (fun _ kv _ => i - (intOf kv).toNat)
        case atStart => exact ⟨0, -1, by omega, rfl, rfl, by omega, hid (by rw [nowP, if_neg HI0.out]), hid (Below.refl _ _)⟩
        case round =>
          obtain ⟨k2, now, hk2, rfl, rfl, hnow, HNow, HBr⟩ := hrel
          by_cases hki : k2 < i
          · obtain ⟨x, hx⟩ : ∃ x, ls[k2]? = some x := ⟨_, List.getElem?_eq_getElem (by have := HN.out; omega)⟩
            have HX := hid hx
            have HRW := hid ((HR.out.on HE.out.2.1).on HBr.out)
            have HG := hid (goes_any ls (some ⟨b, o, none⟩) n c k2 i x wr HRW.out HN.out hx (by omega) (by omega) (by omega) hc1)
            have HSM := hid ((run_small i HRun.out (by have := HN.out; omega)).2 k2 hki x hx)
            obtain ⟨g, rfl⟩ := HE.out.form (by omega)
            clear hx e0
            cases hg : goesP x k2 i
            · rw [hg] at HG
              have HGO := hid hg
              clear hg
              go_wp2_with fail
              refine HG.out.mono ?_
              rintro e w2 ⟨rfl, rfl⟩
              go_wp2
              go_roundw
              case rel => exact ⟨k2 + 1, now, by omega, by go_num, rfl, hnow, hid (now_skip HNow.out HX.out HGO.out), HBr⟩
              case measure => simp [intOf] <;> omega
            · rw [hg] at HG
              have HGO := hid hg
              have HAT := hid (HRW.out.rows b o rfl k2 x HX.out)
              clear hg
              go_wp2_with fail
              refine HG.out.mono ?_
              rintro e w2 ⟨rfl, rfl⟩
              go_wp2_with (first | ((with_reducible refine at_op ⟨some 48, _, _, _, _, _⟩ ?_); refine wpList_runW rfl (.agg (insA x)) (load_ia rfl rfl HAT.out) ?_) | fail)
              refine (shape_any x s _).mono ?_
              rintro e w2 ⟨rfl, hb2⟩
              have HB2 := hid (below_on HBr.out hb2)
              have HE2 := hid ((HE.out.on HBr.out).on hb2)
              have hcell := HE2.out.cell hki
              unfold shV
              have HLF := hid (show leftP x s (h.getD k2 0) = h.getD k2 0 - (shapeP x s).1 + (shapeP x s).2.1 from rfl)
              have hsl := shape_le x s
              obtain ⟨s1, s2, s3, s4⟩ := HSM.out
              obtain ⟨lf, hlf⟩ : ∃ lf, lf = leftP x s (h.getD k2 0) := ⟨_, rfl⟩
              rw [← hlf] at HLF s3 s4
              have HLE := hid hlf
              generalize (shapeP x s).1 = tk at *
              generalize (shapeP x s).2.1 = la at *
              obtain ⟨hk, hhk⟩ : ∃ hk, hk = h.getD k2 0 := ⟨_, rfl⟩
              rw [← hhk] at HLF s1 s2 hcell
              have w1 : IntKind.i64.wrap (hk - tk) = hk - tk := IntWalk.i64_in _ (by omega)
              have w2e : IntKind.i64.wrap (hk - tk + la) = lf := by rw [HLF.out]; exact IntWalk.i64_in _ (by omega)
              clear hlf hhk hsl hb2 HG HRW HSM
              by_cases hcf : 0 ≤ now ∧ now ≠ lf
              · obtain ⟨c1, c2⟩ := hcf
                have d3 : decide (0 ≤ now) = true := decide_eq_true c1
                have d4 : (now != lf) = true := by simpa using c2
                have HCF := hid (now_conf HNow.out HX.out HGO.out (by rw [← HLE.out]; exact ⟨c1, c2⟩))
                clear c2
                go_wp2
                go_ret3
                exact HtP.stop HRun.out (by have := HN.out; omega) (by have := HN.out; omega) (er := 5) (by rw [step_conf ⟨k2 + 1, by omega, HCF.out⟩]) (by decide) HE2.out
              · have HTK := hid (now_take HNow.out HX.out HGO.out (by rw [← HLE.out]; exact hcf))
                rw [← HLE.out] at HTK
                by_cases c1 : 0 ≤ now
                · have d3 : decide (0 ≤ now) = true := decide_eq_true c1
                  have hcf2 : now = lf := by omega
                  subst hcf2
                  have d4 : (now != now) = false := by simp
                  clear hcf
                  go_wp2
                  go_roundw
                  case rel => exact ⟨k2 + 1, now, by omega, by go_num, rfl, hnow, HTK, HB2⟩
                  case measure => simp [intOf] <;> omega
                · have d3 : decide (0 ≤ now) = false := decide_eq_false c1
                  clear hcf
                  go_wp2
                  go_roundw
                  case rel => exact ⟨k2 + 1, lf, by omega, by go_num, rfl, by omega, HTK, HB2⟩
                  case measure => simp [intOf] <;> omega
          · obtain rfl : k2 = i := by omega
            clear hki e0
            obtain ⟨x, hx⟩ : ∃ x, ls[k2]? = some x := ⟨_, List.getElem?_eq_getElem (by have := HN.out; omega)⟩
            have HRW := hid ((HR.out.on HE.out.2.1).on HBr.out)
            have HAT := hid (HRW.out.rows b o rfl k2 x hx)
            have STEP := hid (show stepE ls s h k2 = (badP n s k2 x now, now) by rw [stepE, HNow.out, hx, HN.out])
            unfold badP at STEP
            go_wp2_with (first | ((with_reducible refine at_op ⟨some 76, _, _, _, _, _⟩ ?_); refine wpList_runW rfl (.agg (insA x)) (load_ia rfl rfl HAT.out) ?_) | fail)
            refine (shape_any x s _).mono ?_
            rintro e w2 ⟨rfl, hb2⟩
            have HE2 := hid ((HE.out.on HBr.out).on hb2)
            have hat2 := (HRW.out.on hb2).rows b o rfl k2 x hx
            have c0 : w2.cell? ⟨b, o + k2 * 3, none⟩ = some (.int .i64 x.op) := by simpa using hat2 0 _ rfl
            have c1 : w2.cell? ⟨b, o + k2 * 3 + 1, none⟩ = some (.int .i64 x.a) := hat2 1 _ rfl
            unfold shV
            have hsl := shape_le x s
            have HLF := hid (show leftP x s now = now - (shapeP x s).1 + (shapeP x s).2.1 from rfl)
            obtain ⟨lf, hlf⟩ : ∃ lf, lf = leftP x s now := ⟨_, rfl⟩
            rw [← hlf] at HLF STEP
            generalize (shapeP x s).1 = tk at *
            generalize (shapeP x s).2.1 = la at *
            generalize (shapeP x s).2.2 = ok at *
            generalize x.op = op at *
            generalize x.a = xa at *
            have w1 : IntKind.i64.wrap (now - tk) = now - tk := IntWalk.i64_in _ (by omega)
            have w2e : IntKind.i64.wrap (now - tk + la) = lf := by rw [HLF.out]; exact IntWalk.i64_in _ (by omega)
            have w3 : IntKind.i64.wrap ((n : Int) - 1) = (n : Int) - 1 := IntWalk.i64_in _ (by omega)
            have w4 : IntKind.i64.wrap ((n : Int) - 2) = (n : Int) - 2 := IntWalk.i64_in _ (by omega)
            have w5 : IntKind.i64.wrap ((n : Int) - 2 - k2) = (n : Int) - 2 - k2 := IntWalk.i64_in _ (by omega)
            have hlfr : -3 ≤ lf ∧ lf ≤ 10 := by rw [HLF.out]; omega
            clear hx hlf hsl hb2 hat2 HRW HAT HBr HNow
            cases ok
            case false =>
              have HST := hid (show (stepE ls s h k2).1 = 5 by rw [STEP.out]; simp)
              clear STEP hlfr
              go_wp2
              go_ret3
              exact HtP.stop HRun.out (by have := HN.out; omega) (by have := HN.out; omega) (er := 5) HST.out (by decide) HE2.out
            case true =>
              by_cases b1 : now < 0
              · have d1 : decide (now < 0) = true := decide_eq_true b1
                have HST := hid (show (stepE ls s h k2).1 = 5 by rw [STEP.out]; exact if_pos (Or.inr (Or.inl b1)))
                clear STEP hlfr
                go_wp2
                go_ret3
                exact HtP.stop HRun.out (by have := HN.out; omega) (by have := HN.out; omega) (er := 5) HST.out (by decide) HE2.out
              have d1 : decide (now < 0) = false := decide_eq_false b1
              by_cases b2 : now < tk
              · have d5 : decide (now < tk) = true := decide_eq_true b2
                have HST := hid (show (stepE ls s h k2).1 = 5 by rw [STEP.out]; exact if_pos (Or.inr (Or.inr (Or.inl b2))))
                clear STEP hlfr
                go_wp2
                go_ret3
                exact HtP.stop HRun.out (by have := HN.out; omega) (by have := HN.out; omega) (er := 5) HST.out (by decide) HE2.out
              have d5 : decide (now < tk) = false := decide_eq_false b2
              by_cases b3 : op = 11
              · subst b3
                by_cases b4 : now = 1
                · have d6 : (now != 1) = false := by simp [b4]
                  have hnb : ¬ (true = false ∨ now < 0 ∨ now < tk ∨ ((11 : Int) = 11 ∧ now ≠ 1)) := by simp; omega
                  by_cases b5 : 8 < lf
                  · have d7 : decide (8 < lf) = true := decide_eq_true b5
                    have HST := hid (show (stepE ls s h k2).1 = 16 by rw [STEP.out]; exact (if_neg hnb).trans (if_pos b5))
                    clear STEP hlfr
                    clear b4
                    clear hnb
                    go_wp2
                    go_ret3
                    exact HtP.stop HRun.out (by have := HN.out; omega) (by have := HN.out; omega) (er := 16) HST.out (by decide) HE2.out
                  · have d7 : decide (8 < lf) = false := decide_eq_false b5
                    have hst : (stepE ls s h k2).1 = 0 := by rw [STEP.out]; exact (if_neg hnb).trans ((if_neg b5).trans (if_neg (by omega)))
                    have HGOO := hid (run_go HRun.out hst)
                    rw [STEP.out] at HGOO
                    obtain ⟨i0, hi0q, hz0, hz1, hz2⟩ := info_parts infoInt
                    clear STEP hlfr
                    clear b4
                    clear hnb
                    have hi' := hid hi0q
                    have hz0' := hid hz0
                    have hz1' := hid hz1
                    have hz2' := hid hz2
                    clear hi0q hz0 hz1 hz2 hst
                    go_wp2_with (at_builtin; refine wpList_append_own_at _ (o := ⟨some 154, _, _, _, _, _⟩) rfl (.tmp 151) (.tmp 153) 68 rfl w.heap.size 3 i0 (.int .i64 0) 1 8 Tryd.underlying68 hi'.out hz0'.out hz1'.out hz2'.out rfl (by decide) (.slice a k2 k) k2 _ rfl (HE2.out.1.alloc _) ⟨w2.heap.size, 0, none⟩ 1 1 (i64l [now]) rfl rfl (World.news_of_block (heap_alloc_new w2 _)) (i64l_one _) (by unfold maxLen; omega) (by omega) (by have := HE2.out.2.1.size; simp; omega) ?_; intro v5 w5 hown5 hgrow5 hnil5 hat5; have HO5 := hid hown5; have HG5 := hid hgrow5; clear hown5 hgrow5 hnil5 hat5; obtain ⟨a5, d5, rfl⟩ := own_form HO5.out)
                    have h5 : EI w w5 (.slice a5 (k2 + 1) d5) (k2 + 1) (h ++ [now]) := HE2.out.push (zs := [now]) ((Fr.refl _ w2).alloc _) HO5.out HG5.out
                    have HE5 := hid h5
                    clear h5
                    go_roundw
                    case rel => exact ⟨k2 + 1, d5, a5, h ++ [now], by omega, by go_num, rfl, HGOO, HE5⟩
                    case measure => simp [intOf] <;> omega
                · have d6 : (now != 1) = true := by simpa using b4
                  have HST := hid (show (stepE ls s h k2).1 = 5 by rw [STEP.out]; exact if_pos (Or.inr (Or.inr (Or.inr ⟨rfl, b4⟩))))
                  clear STEP hlfr
                  go_wp2
                  go_ret3
                  exact HtP.stop HRun.out (by have := HN.out; omega) (by have := HN.out; omega) (er := 5) HST.out (by decide) HE2.out
              have d6 : (op == 11) = false := by simpa using b3
              have d6n : (op != 11) = true := by simpa using b3
              have hnb : ¬ (true = false ∨ now < 0 ∨ now < tk ∨ (op = 11 ∧ now ≠ 1)) := by simp; omega
              by_cases b5 : 8 < lf
              · have d7 : decide (8 < lf) = true := decide_eq_true b5
                have HST := hid (show (stepE ls s h k2).1 = 16 by rw [STEP.out]; exact (if_neg hnb).trans (if_pos b5))
                clear STEP hlfr
                clear hnb
                clear b3
                go_wp2
                go_ret3
                exact HtP.stop HRun.out (by have := HN.out; omega) (by have := HN.out; omega) (er := 16) HST.out (by decide) HE2.out
              have d7 : decide (8 < lf) = false := decide_eq_false b5
              by_cases b6 : (k2 : Int) = n - 1
              · have d8 : ((k2 : Int) == (n : Int) - 1) = true := by simpa using b6
                have HST := hid (show (stepE ls s h k2).1 = 5 by rw [STEP.out]; exact (if_neg hnb).trans ((if_neg b5).trans (if_pos (Or.inl ⟨b3, b6⟩))))
                clear STEP hlfr
                clear hnb
                clear b3
                clear b6
                go_wp2
                go_ret3
                exact HtP.stop HRun.out (by have := HN.out; omega) (by have := HN.out; omega) (er := 5) HST.out (by decide) HE2.out
              have d8 : ((k2 : Int) == (n : Int) - 1) = false := by simpa using b6
              by_cases b7 : op = 7
              · have d9 : (op == 7) = true := by simp [b7]
                by_cases b8 : (n : Int) - 2 - k2 < xa
                · have d10 : decide ((n : Int) - 2 - k2 < xa) = true := decide_eq_true b8
                  have HST := hid (show (stepE ls s h k2).1 = 5 by rw [STEP.out]; exact (if_neg hnb).trans ((if_neg b5).trans (if_pos (Or.inr ⟨b7, b8⟩))))
                  clear STEP hlfr
                  clear hnb
                  clear b3
                  clear b6
                  clear b7
                  go_wp2
                  go_ret3
                  exact HtP.stop HRun.out (by have := HN.out; omega) (by have := HN.out; omega) (er := 5) HST.out (by decide) HE2.out
                · have d10 : decide ((n : Int) - 2 - k2 < xa) = false := decide_eq_false b8
                  have hst : (stepE ls s h k2).1 = 0 := by rw [STEP.out]; exact (if_neg hnb).trans ((if_neg b5).trans (if_neg (by omega)))
                  have HGOO := hid (run_go HRun.out hst)
                  rw [STEP.out] at HGOO
                  obtain ⟨i0, hi0q, hz0, hz1, hz2⟩ := info_parts infoInt
                  clear STEP hlfr
                  clear hnb
                  clear b3
                  clear b6
                  clear b7
                  have hi' := hid hi0q
                  have hz0' := hid hz0
                  have hz1' := hid hz1
                  have hz2' := hid hz2
                  clear hi0q hz0 hz1 hz2 hst
                  go_wp2_with (at_builtin; refine wpList_append_own_at _ (o := ⟨some 154, _, _, _, _, _⟩) rfl (.tmp 151) (.tmp 153) 68 rfl w.heap.size 3 i0 (.int .i64 0) 1 8 Tryd.underlying68 hi'.out hz0'.out hz1'.out hz2'.out rfl (by decide) (.slice a k2 k) k2 _ rfl (HE2.out.1.alloc _) ⟨w2.heap.size, 0, none⟩ 1 1 (i64l [now]) rfl rfl (World.news_of_block (heap_alloc_new w2 _)) (i64l_one _) (by unfold maxLen; omega) (by omega) (by have := HE2.out.2.1.size; simp; omega) ?_; intro v5 w5 hown5 hgrow5 hnil5 hat5; have HO5 := hid hown5; have HG5 := hid hgrow5; clear hown5 hgrow5 hnil5 hat5; obtain ⟨a5, d5, rfl⟩ := own_form HO5.out)
                  have h5 : EI w w5 (.slice a5 (k2 + 1) d5) (k2 + 1) (h ++ [now]) := HE2.out.push (zs := [now]) ((Fr.refl _ w2).alloc _) HO5.out HG5.out
                  have HE5 := hid h5
                  clear h5
                  go_roundw
                  case rel => exact ⟨k2 + 1, d5, a5, h ++ [now], by omega, by go_num, rfl, HGOO, HE5⟩
                  case measure => simp [intOf] <;> omega
              · have d9 : (op == 7) = false := by simpa using b7
                have hst : (stepE ls s h k2).1 = 0 := by rw [STEP.out]; exact (if_neg hnb).trans ((if_neg b5).trans (if_neg (by omega)))
                have HGOO := hid (run_go HRun.out hst)
                rw [STEP.out] at HGOO
                obtain ⟨i0, hi0q, hz0, hz1, hz2⟩ := info_parts infoInt
                clear STEP hlfr
                clear hnb
                clear b3
                clear b6
                clear b7
                have hi' := hid hi0q
                have hz0' := hid hz0
                have hz1' := hid hz1
                have hz2' := hid hz2
                clear hi0q hz0 hz1 hz2 hst
                go_wp2_with (at_builtin; refine wpList_append_own_at _ (o := ⟨some 154, _, _, _, _, _⟩) rfl (.tmp 151) (.tmp 153) 68 rfl w.heap.size 3 i0 (.int .i64 0) 1 8 Tryd.underlying68 hi'.out hz0'.out hz1'.out hz2'.out rfl (by decide) (.slice a k2 k) k2 _ rfl (HE2.out.1.alloc _) ⟨w2.heap.size, 0, none⟩ 1 1 (i64l [now]) rfl rfl (World.news_of_block (heap_alloc_new w2 _)) (i64l_one _) (by unfold maxLen; omega) (by omega) (by have := HE2.out.2.1.size; simp; omega) ?_; intro v5 w5 hown5 hgrow5 hnil5 hat5; have HO5 := hid hown5; have HG5 := hid hgrow5; clear hown5 hgrow5 hnil5 hat5; obtain ⟨a5, d5, rfl⟩ := own_form HO5.out)
                have h5 : EI w w5 (.slice a5 (k2 + 1) d5) (k2 + 1) (h ++ [now]) := HE2.out.push (zs := [now]) ((Fr.refl _ w2).alloc _) HO5.out HG5.out
                have HE5 := hid h5
                clear h5
                go_roundw
                case rel => exact ⟨k2 + 1, d5, a5, h ++ [now], by omega, by go_num, rfl, HGOO, HE5⟩
                case measure => simp [intOf] <;> omega
    · obtain rfl : i = n := by omega
      have HH := hid (show heightP ls s = (h, 0, 0) by rw [heightP, if_neg (by have := HN.out; omega), ← HN.out, HRun.out])
      have HL := hid (show h.length = i from HE.out.2.2.symm)
      clear hin
      go_wp2
      go_ret3
      unfold HtP
      rw [HH.out]
      simp only [HL.out]
      exact ⟨a, k, rfl, HE.out⟩
end Go.Proofs.YtgfimkeopohjaaaDoor

namespace Go.Proofs.YtgfimkeopohjaaaDoor
open Go Go.ChangeShapes Go.WideShapes Go.ChangeAt Go.RowKit

/-- The greatest height behind one of the first ones. -/
def mostP (ls : List Ins) (s : Int) (h : List Int) : Nat → Int
  | 0 => 0
  | i + 1 => match ls[i]? with
    | none => mostP ls s h i
    | some x => max (mostP ls s h i) (leftP x s (h.getD i 0))
theorem most_small {ls : List Ins} {s : Int} {h : List Int} {m : Nat} (hs : ∀ k, k < m → ∀ x, ls[k]? = some x → 0 ≤ leftP x s (h.getD k 0) ∧ leftP x s (h.getD k 0) ≤ 8) : ∀ i, i ≤ m → 0 ≤ mostP ls s h i ∧ mostP ls s h i ≤ 8 := by
  intro i hi
  induction i with
  | zero => exact ⟨Int.le_refl 0, show (0 : Int) ≤ 8 by decide⟩
  | succ i ih =>
    obtain ⟨h1, h2⟩ := ih (by omega)
    rw [mostP]
    split
    · exact ⟨h1, h2⟩
    · rename_i x hx
      obtain ⟨h3, h4⟩ := hs i (by omega) x hx
      omega
end Go.Proofs.YtgfimkeopohjaaaDoor

namespace Go.Proofs.YtgfimkeopohjaaaDoor
open Go Go.ChangeShapes Go.WideShapes Go.ChangeAt Go.RowKit

/-- The greatest height, the place, why. -/
def checkP (ls : List Ins) (s : Int) : Int × Int × Int :=
  if (heightP ls s).2.2 = 0 then (mostP ls s (heightP ls s).1 (heightP ls s).1.length, 0, 0) else (0, (heightP ls s).2.1, (heightP ls s).2.2)
theorem shape_s (x : Ins) (s t : Int) : (shapeP x s).1 = (shapeP x t).1 ∧ (shapeP x s).2.1 = (shapeP x t).2.1 := by
  unfold shapeP
  repeat' split
  all_goals exact ⟨rfl, rfl⟩
theorem left_s (x : Ins) (s t h : Int) : leftP x s h = leftP x t h := by
  unfold leftP
  rw [(shape_s x s t).1, (shape_s x s t).2]
theorem now_s (ls : List Ins) (s t : Int) (h : List Int) (i : Nat) : ∀ k, nowP ls s h i k = nowP ls t h i k
  | 0 => rfl
  | k + 1 => by
    rw [nowP, nowP, now_s ls s t h i k]
    split <;> rename_i h1
    · rfl
    · rfl
    · simp only [left_s _ s t]
theorem most_s (ls : List Ins) (s t : Int) (h : List Int) : ∀ i, mostP ls s h i = mostP ls t h i
  | 0 => rfl
  | i + 1 => by
    rw [mostP, mostP, most_s ls s t h i]
    split
    · rfl
    · rw [left_s _ s t]
/-- It comes out right. -/
def RightC (ls : List Ins) (s : Int) (h : List Int) : Prop := 1 ≤ ls.length ∧ ls.length ≤ 32 ∧ runP ls s ls.length = (h, none)
theorem right_of {ls : List Ins} {s : Int} (h : (heightP ls s).2.2 = 0) : RightC ls s (heightP ls s).1 := by
  unfold heightP at h ⊢
  split at h
  · simp at h
  · rename_i h1
    rw [if_neg h1]
    cases hr : runP ls s ls.length with
    | mk hh o =>
      rw [hr] at h
      cases o with
      | none => exact ⟨by omega, by omega, hr⟩
      | some e =>
        exfalso
        obtain ⟨i, e⟩ := e
        simp only at h
        subst h
        have key : ∀ j hj i, runP ls s j = (hj, some (i, (0 : Int))) → False := by
          intro j
          induction j with
          | zero => intro hj i hq; rw [runP] at hq; cases hq
          | succ j ih =>
            intro hj i hq
            rw [runP] at hq
            cases hp : runP ls s j with
            | mk h0 o =>
              rw [hp] at hq
              cases o with
              | some e2 => simp only at hq; cases hq; exact ih _ _ hp
              | none =>
                simp only at hq
                split at hq
                · cases hq
                · rename_i hne
                  simp only [Prod.mk.injEq, Option.some.injEq] at hq
                  exact hne hq.2.2
        exact key _ _ _ hr
theorem height_of {ls : List Ins} {s : Int} {h : List Int} (hr : RightC ls s h) : heightP ls s = (h, 0, 0) := by
  rw [heightP, if_neg (by have := hr.1; have := hr.2.1; omega), hr.2.2]
theorem run_small_len {ls : List Ins} {s : Int} : ∀ {j : Nat} {hj : List Int}, runP ls s j = (hj, none) → hj.length = j
  | 0, hj, hq => by rw [runP] at hq; cases hq; rfl
  | j + 1, hj, hq => by
    rw [runP] at hq
    cases hp : runP ls s j with
    | mk h1 o =>
      rw [hp] at hq
      cases o with
      | some e => simp only at hq; cases hq
      | none =>
        simp only at hq
        split at hq
        · cases hq; simp [run_small_len hp]
        · cases hq
/-- The heights of the first ones. -/
theorem run_take {ls : List Ins} {s : Int} : ∀ (n : Nat) {h : List Int}, runP ls s n = (h, none) → ∀ i, i ≤ n → runP ls s i = (h.take i, none) ∧ (i < n → (stepE ls s (h.take i) i).1 = 0 ∧ h[i]? = some (stepE ls s (h.take i) i).2)
  | 0, h, hr, i, hi => by
    obtain rfl : i = 0 := by omega
    rw [runP] at hr
    cases hr
    exact ⟨rfl, fun h => absurd h (by omega)⟩
  | n + 1, h, hr, i, hi => by
    rw [runP] at hr
    cases hq : runP ls s n with
    | mk h0 o =>
      rw [hq] at hr
      cases o with
      | some e => simp only at hr; cases hr
      | none =>
        simp only at hr
        split at hr
        · rename_i he
          cases hr
          by_cases hin : i ≤ n
          · obtain ⟨h1, h2⟩ := run_take n hq i hin
            have hlen : h0.length = n := run_small_len hq
            have ht : (h0 ++ [(stepE ls s h0 n).2]).take i = h0.take i := List.take_append_of_le_length (by omega)
            rw [ht]
            refine ⟨h1, fun hlt => ?_⟩
            by_cases hin2 : i < n
            · obtain ⟨h3, h4⟩ := h2 hin2
              exact ⟨h3, by rw [List.getElem?_append_left (by omega)]; exact h4⟩
            · obtain rfl : i = n := by omega
              have htt : h0.take i = h0 := List.take_of_length_le (by omega)
              rw [htt]
              refine ⟨he, ?_⟩
              rw [List.getElem?_append_right (by omega), hlen, Nat.sub_self]
              rfl
          · obtain rfl : i = n + 1 := by omega
            refine ⟨?_, fun h => absurd h (by omega)⟩
            have hall : (h0 ++ [(stepE ls s h0 n).2]).take (n + 1) = h0 ++ [(stepE ls s h0 n).2] := by
              refine List.take_of_length_le ?_
              have := (run_small_len hq)
              simp [this]
            rw [hall, runP, hq]
            simp only
            rw [if_pos he]
        · cases hr
end Go.Proofs.YtgfimkeopohjaaaDoor

namespace Go.Proofs.YtgfimkeopohjaaaDoor
open Go Go.ChangeShapes Go.WideShapes Go.ChangeAt Go.RowKit

/-- All that goes on at i leaves its height. -/
theorem now_left {ls : List Ins} {s : Int} {h : List Int} {i : Nat} : ∀ (j : Nat) {now : Int}, nowP ls s h i j = some now → (∀ k, k < j → ∀ x, ls[k]? = some x → 0 ≤ leftP x s (h.getD k 0)) →
    ∀ k, k < j → ∀ x, ls[k]? = some x → goesP x k i = true → now = leftP x s (h.getD k 0)
  | 0, now, _, _, k, hk, _, _, _ => by omega
  | j + 1, now, hn, hp, k, hk, x, hx, hg => by
    rw [nowP] at hn
    cases hq : nowP ls s h i j with
    | none => rw [hq] at hn; simp at hn
    | some m =>
      rw [hq] at hn
      cases hy : ls[j]? with
      | none =>
        rw [hy] at hn
        simp only [Option.some.injEq] at hn
        subst hn
        by_cases hkj : k = j
        · subst hkj; rw [hy] at hx; cases hx
        · exact now_left j hq (fun k hk => hp k (by omega)) k (by omega) x hx hg
      | some y =>
        rw [hy] at hn
        simp only at hn
        by_cases hkj : k = j
        · subst hkj
          rw [hy] at hx
          cases hx
          rw [hg] at hn
          simp only [if_true] at hn
          split at hn
          · cases hn
          · simpa using hn.symm
        · have h1 := now_left j hq (fun k hk => hp k (by omega)) k (by omega) x hx hg
          have h2 := hp k (by omega) x hx
          cases hgy : goesP y j i
          · rw [hgy] at hn
            simp at hn
            rw [← hn]; exact h1
          · rw [hgy] at hn
            simp only [if_true] at hn
            split at hn
            · cases hn
            · rename_i hc
              simp only [Option.some.injEq] at hn
              omega
/-- Where nothing goes on there is no height. -/
theorem now_no {ls : List Ins} {s : Int} {h : List Int} {i : Nat} : ∀ (j : Nat), (∀ k, k < j → ∀ x, ls[k]? = some x → goesP x k i = false) → nowP ls s h i j = some (if i = 0 then 0 else -1)
  | 0, _ => rfl
  | j + 1, hg => by
    rw [nowP, now_no j (fun k hk => hg k (by omega))]
    cases hy : ls[j]? with
    | none => rfl
    | some y => simp [hg j (by omega) y hy]
/-- What holds at a place of a right row. -/
structure AtC (ls : List Ins) (s : Int) (h : List Int) (i : Nat) (x : Ins) : Prop where
  ok : (shapeP x s).2.2 = true
  lo : (shapeP x s).1 ≤ h.getD i 0
  z : 0 ≤ h.getD i 0
  ret : x.op = 11 → h.getD i 0 = 1
  le : leftP x s (h.getD i 0) ≤ 8
  on : x.op ≠ 11 → i + 1 < ls.length
  skip : x.op = 7 → x.a ≤ (ls.length : Int) - 2 - i
  from_ : ∀ k, k < i → ∀ y, ls[k]? = some y → goesP y k i = true → h.getD i 0 = leftP y s (h.getD k 0)
  some_ : i ≠ 0 → ∃ k, k < i ∧ ∃ y, ls[k]? = some y ∧ goesP y k i = true
  first : i = 0 → h.getD i 0 = 0
theorem now_take_h (ls : List Ins) (s : Int) (h : List Int) (i : Nat) : ∀ k, k ≤ i → nowP ls s (h.take i) i k = nowP ls s h i k
  | 0, _ => rfl
  | k + 1, hk => by
    rw [nowP, nowP, now_take_h ls s h i k (by omega)]
    have e : (h.take i).getD k 0 = h.getD k 0 := by
      rw [List.getD_eq_getElem?_getD, List.getD_eq_getElem?_getD, List.getElem?_take, if_pos (by omega)]
    rw [e]
theorem right_at {ls : List Ins} {s : Int} {h : List Int} (hr : RightC ls s h) {i : Nat} (hi : i < ls.length) {x : Ins} (hx : ls[i]? = some x) : AtC ls s h i x := by
  obtain ⟨h1, h2, h3⟩ := hr
  obtain ⟨_, hst⟩ := run_take ls.length h3 i (by omega)
  obtain ⟨he, hv⟩ := hst hi
  have hsm := (run_small ls.length h3 (Nat.le_refl _)).2
  have hgd : h.getD i 0 = (stepE ls s (h.take i) i).2 := by rw [List.getD_eq_getElem?_getD, hv]; rfl
  unfold stepE at he hgd
  rw [now_take_h ls s h i i (Nat.le_refl _), hx] at he hgd
  cases hn : nowP ls s h i i with
  | none => rw [hn] at he; simp only at he; omega
  | some now =>
    rw [hn] at he hgd
    simp only at he hgd
    subst hgd
    unfold badP at he
    split at he
    · omega
    · rename_i b1
      split at he
      · omega
      · rename_i b2
        split at he
        · omega
        · rename_i b3
          have hl := now_left i hn (fun k hk x hx => (hsm k (by omega) x hx).2.2.1)
          refine ⟨?_, by omega, by omega, fun h => by omega, by omega, fun h => ?_, fun h => by omega, hl, fun h0 => ?_, fun h0 => ?_⟩
          · cases hb : (shapeP x s).2.2
            · exact absurd (.inl hb) b1
            · rfl
          · have : ¬ ((i : Int) = ls.length - 1) := fun e => b3 (.inl ⟨h, e⟩)
            omega
          · refine Classical.byContradiction fun hno => ?_
            have := now_no (ls := ls) (s := s) (h := h) (i := i) i (fun k hk y hy => by
              cases hg : goesP y k i
              · rfl
              · exact absurd ⟨k, hk, y, hy, hg⟩ hno)
            rw [this, if_neg h0] at hn
            simp only [Option.some.injEq] at hn
            omega
          · subst h0
            rw [nowP] at hn
            simpa using hn.symm
theorem shape_more {x : Ins} {s t : Int} (h : s ≤ t) (hs : (shapeP x s).2.2 = true) : (shapeP x t).2.2 = true := by
  unfold shapeP at hs ⊢
  split
  · rename_i h1; rw [if_pos h1] at hs; exact hs
  rename_i h1; rw [if_neg h1] at hs
  split
  · rename_i h2; rw [if_pos h2] at hs; exact hs
  rename_i h2; rw [if_neg h2] at hs
  split
  · rename_i h3; rw [if_pos h3] at hs; exact hs
  rename_i h3; rw [if_neg h3] at hs
  split
  · rename_i h4; rw [if_pos h4] at hs; exact hs
  rename_i h4; rw [if_neg h4] at hs
  split
  · rename_i h5; rw [if_pos h5] at hs; exact hs
  rename_i h5; rw [if_neg h5] at hs
  split
  · rename_i h6; rw [if_pos h6] at hs; exact hs
  rename_i h6; rw [if_neg h6] at hs
  split
  · rename_i h7
    rw [if_pos h7] at hs
    simp only [Bool.and_eq_true, decide_eq_true_eq] at hs ⊢
    omega
  rename_i h7; rw [if_neg h7] at hs
  split
  · rename_i h8
    rw [if_pos h8] at hs
    simp only [Bool.and_eq_true, decide_eq_true_eq] at hs ⊢
    exact ⟨by omega, hs.2⟩
  rename_i h8; rw [if_neg h8] at hs; exact hs
theorem bad_more {n : Nat} {s t : Int} {i : Nat} {x : Ins} {now : Int} (h : s ≤ t) (hb : badP n s i x now = 0) : badP n t i x now = 0 := by
  unfold badP at hb ⊢
  split at hb
  · omega
  · rename_i b1
    split at hb
    · omega
    · rename_i b2
      split at hb
      · omega
      · rename_i b3
        have hok : (shapeP x s).2.2 = true := by
          cases hq : (shapeP x s).2.2
          · exact absurd (.inl hq) b1
          · rfl
        have hok2 := shape_more h hok
        rw [if_neg, if_neg, if_neg b3]
        · rw [← left_s x s t]; exact b2
        · rw [hok2, ← (shape_s x s t).1]
          simp
          omega
/-- With more slots it is the same. -/
theorem run_more {ls : List Ins} {s t : Int} (h : s ≤ t) : ∀ (n : Nat) {hh : List Int}, runP ls s n = (hh, none) → runP ls t n = (hh, none)
  | 0, hh, hr => hr
  | n + 1, hh, hr => by
    rw [runP] at hr
    cases hq : runP ls s n with
    | mk h0 o =>
      rw [hq] at hr
      cases o with
      | some e => simp only at hr; cases hr
      | none =>
        simp only at hr
        split at hr
        · rename_i he
          cases hr
          have hst : stepE ls t h0 n = stepE ls s h0 n := by
            unfold stepE at he ⊢
            rw [now_s ls t s]
            cases hn : nowP ls s h0 n n with
            | none => rfl
            | some now =>
              cases hx : ls[n]? with
              | none => rfl
              | some x =>
                rw [hn, hx] at he
                simp only at he ⊢
                rw [bad_more h he, he]
          rw [runP, run_more h n hq]
          simp only
          rw [hst, if_pos he]
        · cases hr
theorem right_more {ls : List Ins} {s t : Int} {h : List Int} (hst : s ≤ t) (hr : RightC ls s h) : RightC ls t h := ⟨hr.1, hr.2.1, run_more hst _ hr.2.2⟩
theorem check_right {ls : List Ins} {s : Int} {h : List Int} (hr : RightC ls s h) : checkP ls s = (mostP ls s h h.length, 0, 0) := by
  rw [checkP, height_of hr]; rfl
/-- CodeMore, plainly. -/
theorem check_more {ls : List Ins} {s t : Int} (hst : s ≤ t) (h : (checkP ls s).2.2 = 0) : (checkP ls t).2.2 = 0 ∧ (checkP ls t).1 = (checkP ls s).1 := by
  have h0 : (heightP ls s).2.2 = 0 := by
    unfold checkP at h
    split at h
    · assumption
    · exact absurd h (by assumption)
  have hr := right_of h0
  rw [check_right hr, check_right (right_more hst hr)]
  exact ⟨rfl, most_s ls t s _ _⟩
end Go.Proofs.YtgfimkeopohjaaaDoor
