/-
  The contract of the plain Closed.
-/
import Derived.Test.YtjmhlmohennknabCyE
namespace Go.Proofs.Ytjmhlmohennknab
open Go Go.ChangeShapes Go.WideShapes Go.ChangeAt Go.RowKit

/-- While the plain closure is under way: its box, its row, all else as it was. -/
structure ClI (w W : World) (cv ev : Value) (ob n : Nat) (f : Nat → Bool) : Prop where
  gb : W.heap[w.heap.size]? = some (.cells #[cv, ev] TGr (0, 0))
  o : BF TB bv W ob n f
  bl : Below w.heap.size w W
section
variable {w W W' : World} {cv ev : Value} {ob n : Nat} {f f' : Nat → Bool}
theorem ClI.g0 (h : ClI w W cv ev ob n f) : W.cell? ⟨w.heap.size, 0, none⟩ = some cv := by rw [cell_of_row _ _ 0 _ _ _ h.gb]; rfl
theorem ClI.g1 (h : ClI w W cv ev ob n f) : W.cell? ⟨w.heap.size, 1, none⟩ = some ev := by rw [cell_of_row _ _ 1 _ _ _ h.gb]; rfl
theorem ClI.atl (h : ClI w W cv ev ob n f) : AtL W w.heap.size 0 [cv, ev] := AtL.row h.gb
theorem ClI.call (h : ClI w W cv ev ob n f) (hB : Below W.heap.size W W') : ClI w W' cv ev ob n f :=
  ⟨by rw [hB.block _ (Array.getElem?_eq_some_iff.1 h.gb).1]; exact h.gb, h.o.below hB, h.bl.trans (hB.mono h.bl.size)⟩
theorem ClI.set (h : ClI w W cv ev ob n f) (ho : w.heap.size < ob) (j : Nat) (y : Bool) : ClI w (W.setCell ⟨ob, j, none⟩ (.bool y)) cv ev ob n (upd f j y) := by
  have hfr : Fr (fun b => b = ob) W (W.setCell ⟨ob, j, none⟩ (.bool y)) := (Fr.refl _ _).setCell _ _ (fun _ => rfl)
  refine ⟨?_, h.o.set j y, h.bl.trans (hfr.below h.bl.size (fun k hk => by omega))⟩
  rw [hfr.block _ (Array.getElem?_eq_some_iff.1 h.gb).1 (by omega)]
  exact h.gb
theorem ClI.congr (h : ClI w W cv ev ob n f) (hc : ∀ i, i < n → f i = f' i) : ClI w W cv ev ob n f' := ⟨h.gb, h.o.congr hc, h.bl⟩
end
/-- Some truths, copied. -/
def cpy (F : Nat → Bool) (t i : Nat) : Bool := if i < t then F i else false
def ClosedPost (w : World) (n : Nat) (e : Nat → List Nat) (F : Nat → Bool) (en : Ending) (w' : World) : Prop :=
  ∃ b, en = .returned (.slice (some ⟨b, 0, none⟩) n n) ∧ BF TB bv w' b n (rcB n e F) ∧ Below w.heap.size w w'
set_option maxRecDepth 100000 in
set_option maxHeartbeats 8000000 in
theorem Closed_any (w : World) (cv ev fv : Value) (cs : List Int) (es : List (List Int)) (F : Nat → Bool) (n : Nat) (hn : n = cs.length) (hG : GrW w.heap.size w cv ev cs es) (hF : Tl bv w.heap.size w fv (fL n F)) (hn2 : n ≤ 1000) (hes : ∀ l ∈ es, l.length ≤ 1000000) :
    Calls Try.prog 20 #[.agg #[cv, ev], fv] w (ClosedPost w n (fun i => wi n (es.getD i [])) F) := by
  have HG := hid hG
  obtain ⟨ca, cc, rfl, hcc1, hcc2, _⟩ := hG.c.ex
  obtain ⟨ea, ec, rfl, hec1, hec2, _⟩ := hG.e
  obtain ⟨fa, fc, rfl, hfc1, hfc2, hFx⟩ := hF.ex
  rw [← hn] at hcc1 HG ⊢
  rw [fL_len] at hfc1 hFx ⊢
  have HN := hid hn
  have HES := hid hes
  have HFX := hid hFx
  obtain ⟨ob, hob⟩ : ∃ ob, ob = w.heap.size + 1 := ⟨_, rfl⟩
  have hob2 : w.heap.size < ob := by omega
  obtain ⟨W1, hW1⟩ : ∃ W1, W1 = (w.alloc (.cells #[.slice ca n cc, .slice ea es.length ec] TGr)).alloc (.cells (madeCells #[.bool false] n) TB) := ⟨_, rfl⟩
  have HW1 := hid hW1
  have hI1 : ClI w W1 (.slice ca n cc) (.slice ea es.length ec) ob n (cpy F 0) := by
    have e1 := heap_alloc_new w (.cells #[.slice ca n cc, .slice ea es.length ec] TGr)
    have hb : Below w.heap.size w W1 := by rw [hW1]; exact ((Below.refl _ _).alloc (Nat.le_refl _) _).alloc (by simp) _
    refine ⟨by rw [hW1]; exact hkeep _ e1, ?_, hb⟩
    have h2 := BF.made (f := bv) (T := TB) (w.alloc (.cells #[.slice ca n cc, .slice ea es.length ec] TGr)) n false
    rw [← hW1] at h2
    have h3 : (w.alloc (.cells #[.slice ca n cc, .slice ea es.length ec] TGr)).heap.size = ob := by simp [hob]
    rw [h3] at h2
    exact h2.congr (fun i hi => (if_neg (Nat.not_lt_zero i)).symm)
  have HI1 := hid hI1
  have HOB := hid hob2
  have HOBE := hid hob
  clear hG hF hFx hn hes hW1 hI1 hob2 hob
  go_enter Try.func20, Try.ntmps20
  go_upto_region 2 with ((with_reducible refine at_op ⟨some 15, _, _, _, _, _⟩ ?_); go_loud (refine wpList_runN rfl _ _ (exec_makeC (n := n) Try.underlying38 infoB (by omega) (by omega) rfl rfl) ?_))
  rw [← HW1.out, ← HOBE.out]
  clear HW1 HOBE
  go_wp2_with fail
  obtain ⟨e, he⟩ : ∃ e, e = fun i => wi n (es.getD i []) := ⟨_, rfl⟩
  have HE := hid he
  have HET := hid (show ∀ i, ∀ j ∈ e i, j < n from fun i j hj => by rw [he] at hj; exact wi_lt j hj)
  have HEL := hid (show ∀ i, (e i).length ≤ 1000000 from fun i => by
    rw [he]
    refine Nat.le_trans wi_len ?_
    rw [List.getD_eq_getElem?_getD]
    cases hx : es[i]? with
    | none => simp
    | some l => exact HES.out l (List.mem_of_getElem? hx))
  obtain ⟨m, hm0⟩ : ∃ m, m = es.length := ⟨_, rfl⟩
  rw [← hm0] at HG HI1 ⊢
  clear he hm0
  go_loopw [6] (fun i wr => ∃ t : Nat, t ≤ n ∧ i = .int .i64 t ∧ RowKit.Hid (ClI w wr (.slice ca n cc) (.slice ea m ec) ob n (cpy F t))) (fun i _ => n - (intOf i).toNat)
  case atStart => exact ⟨0, by omega, rfl, HI1⟩
  case round =>
    obtain ⟨t, ht, rfl, HR⟩ := hrel
    by_cases htn : t < n
    · obtain ⟨b, o, rfl, hb, hcell⟩ := HFX.out (by omega)
      have cx : wr.cell? ⟨b, o + t, none⟩ = some (.bool (F t)) := (World.cell?_of_block (w := w) (w' := wr) (a := ⟨b, o + t, none⟩) (HR.out.bl.block b hb)).trans (hcell t _ (fL_at htn))
      have d0 := HR.out.o.cell htn
      have z0 := HR.out.o.fz t
      have hset := (HR.out.set HOB.out t (F t)).congr (f' := cpy F (t + 1)) (fun i hi => by
        unfold upd cpy
        by_cases hit : i = t
        · subst hit; simp
        · by_cases hlt : i < t
          · simp [hit, hlt, Nat.lt_succ_of_lt hlt]
          · simp [hit, hlt, show ¬ i < t + 1 by omega])
      have HSET := hid hset
      clear hset hb hcell
      go_wp2_with fail
      go_roundw
      case rel => exact ⟨t + 1, by omega, by go_num, HSET⟩
      case measure => simp [intOf]; omega
    · have hnt : n = t := by omega
      subst hnt
      have HR1 := hid (HR.out.congr (f' := F) (fun i hi => if_pos hi))
      have HT1 := hid (show TuI n e F F false F 0 [] from ⟨fun _ _ h => h, fun j hj h => .from_ ⟨hj, h⟩, Nat.le_refl _, (fun h => by cases h), fun _ => ⟨fun k hk => (by omega), fun _ hx => (by cases hx)⟩⟩)
      clear htn HR HI1
      go_wp2_with fail
      go_loopw [7] (fun i wr => ∃ (t : Nat) (f : Nat → Bool), t ≤ n ∧ i = .int .i64 t ∧ RowKit.Hid (ClI w wr (.slice ca n cc) (.slice ea m ec) ob n f) ∧ RowKit.Hid (TuI n e F f false f 0 []) ∧ RowKit.Hid (t ≤ cnt n f)) (fun i _ => n - (intOf i).toNat)
      case atStart => exact ⟨0, F, by omega, rfl, HR1, HT1, hid (Nat.zero_le _)⟩
      case round =>
        obtain ⟨t, f, ht, rfl, HR, HTu, HC⟩ := hrel
        by_cases htn : t < n
        · clear HR1 HT1
          go_wp2_with fail
          go_loopw [9, 8] (fun i v wr => ∃ (k : Nat) (mb : Bool) (f2 : Nat → Bool), k ≤ n ∧ i = .int .i64 k ∧ v = .bool mb ∧ RowKit.Hid (ClI w wr (.slice ca n cc) (.slice ea m ec) ob n f2) ∧ RowKit.Hid (TuI n e F f mb f2 k [])) (fun i _ _ => n - (intOf i).toNat)
          case atStart => exact ⟨0, false, f, by omega, rfl, rfl, HR, HTu⟩
          case round =>
            obtain ⟨k, mb, f2, hk, rfl, rfl, HR2, HT2⟩ := hrel
            by_cases hkn : k < n
            · have d0 := HR2.out.o.cell hkn
              obtain ⟨y, hy⟩ : ∃ y, y = f2 k := ⟨_, rfl⟩
              rw [← hy] at d0
              have HY := hid hy
              clear hy
              cases y with
              | false =>
                have HT3 := hid (HT2.out.next (fun k => by rw [← HY.out] at k; cases k))
                go_wp2_with fail
                go_roundw
                case rel => exact ⟨k + 1, mb, f2, by omega, by go_num, rfl, HR2, HT3⟩
                case measure => simp [intOf]; omega
              | true =>
                have hat := hid HR2.out.atl
                have HED := hid (REdges_any wr _ _ cs es k ((HG.out.below HR2.out.bl).up HR2.out.bl.size) HES.out)
                go_wp2_with (first
                  | ((with_reducible refine at_op ⟨some 46, _, _, _, _, _⟩ ?_); go_loud (refine wpList_run rfl _ (load_cells Try.underlying25 (by rfl) (by kernel_rfl) rfl rfl hat.out) ?_))
                  | fail)
                refine HED.out.mono ?_
                rintro en w3 ⟨lv, rfl, hPI⟩
                have hek : wi cs.length (es.getD k []) = e k := by rw [HE.out, HN.out]
                rw [hek] at hPI
                obtain ⟨la, lc, rfl, _, _⟩ := hPI.1.form
                have HR3 := hid (HR2.out.call hPI.2)
                have HOW := hid hPI.1
                have hel := HEL.out k
                obtain ⟨N, hN⟩ : ∃ N, N = (e k).length := ⟨_, rfl⟩
                rw [← hN] at HOW hel ⊢
                have HNN := hid hN
                have HOL := hid HR2.out.o.lt
                obtain ⟨B2, hB2⟩ : ∃ B2, B2 = wr.heap.size := ⟨_, rfl⟩
                rw [← hB2] at HOW HOL
                clear hPI hek hN d0 hat HED hB2
                go_wp2_with fail
                go_loopw [11, 8] (fun i v wx => ∃ (j : Nat) (mb : Bool) (f3 : Nat → Bool), j ≤ N ∧ i = .int .i64 j ∧ v = .bool mb ∧ RowKit.Hid (ClI w wx (.slice ca n cc) (.slice ea m ec) ob n f3) ∧ RowKit.Hid (TuI n e F f mb f3 k ((e k).take j)) ∧ RowKit.Hid (Fr (fun b => b = ob) w3 wx) ∧ RowKit.Hid (f3 k = true)) (fun i _ _ => N - (intOf i).toNat)
                case atStart => exact ⟨0, mb, f2, by omega, rfl, rfl, HR3, hid (by simpa using HT2.out), hid (Fr.refl _ _), hid HY.out.symm⟩
                case round =>
                  obtain ⟨j, mb3, f3, hj, rfl, rfl, HR4, HT4, HF4, HK4⟩ := hrel
                  by_cases hjN : j < N
                  · have hlt : j < (e k).length := by rw [← HNN.out]; exact hjN
                    have hx : (e k)[j]? = some (e k)[j] := List.getElem?_eq_getElem hlt
                    have htake : (e k).take (j + 1) = (e k).take j ++ [(e k)[j]] := List.take_succ_eq_append_getElem hlt
                    generalize (e k)[j] = x at hx htake
                    have hxe := List.mem_of_getElem? hx
                    have hxn : x < n := HET.out k x hxe
                    have hO : OwI B2 wr _ (e k) := OwI.fr HOW.out HF4.out (fun b hb e => by have := (World.ownsRow.lt HOW.out b hb).1; have := HOL.out; omega)
                    obtain ⟨_, _, hv, _, _, hcell⟩ := (own_told hO).ex
                    simp only [Value.slice.injEq] at hv
                    obtain ⟨rfl, -, rfl⟩ := hv
                    obtain ⟨lb, lo, rfl, _, hcell⟩ := hcell (by omega)
                    have cx := hcell j x hx
                    have d0 := HR4.out.o.cell hxn
                    have z0 := HR4.out.o.fz x
                    obtain ⟨y, hy⟩ : ∃ y, y = f3 x := ⟨_, rfl⟩
                    rw [← hy] at d0
                    have HXY := hid hy
                    have HXE := hid hxe
                    have HTK := hid htake
                    clear hy hx hcell hO hxe htake hlt
                    cases y with
                    | true =>
                      have HT5 := hid (show TuI n e F f mb3 f3 k ((e k).take (j + 1)) by rw [HTK.out]; exact HT4.out.have_ HXY.out.symm)
                      clear z0
                      go_wp2_with fail
                      go_roundw
                      case rel => exact ⟨j + 1, mb3, f3, by omega, by go_num, rfl, HR4, HT5, HF4, HK4⟩
                      case measure => simp [intOf]; omega
                    | false =>
                      have HT5 := hid (HT4.out.take_ (l' := (e k).take (j + 1)) hkn HK4.out HXE.out hxn HXY.out.symm)
                      have HR5 := hid (HR4.out.set HOB.out x true)
                      have HF5 := hid (HF4.out.setCell ⟨ob, x, none⟩ (.bool true) (fun _ => rfl))
                      have HK5 := hid (show upd f3 x true k = true by
                        by_cases hkx : k = x
                        · rw [hkx, upd_same]
                        · rw [upd_other hkx]; exact HK4.out)
                      go_wp2_with fail
                      go_roundw
                      case rel => exact ⟨j + 1, true, upd f3 x true, by omega, by go_num, rfl, HR5, HT5, HF5, HK5⟩
                      case measure => simp [intOf]; omega
                  · have hNj : N = j := by omega
                    subst hNj
                    have ht4 := HT4.out
                    rw [List.take_of_length_le (by rw [HNN.out]; exact Nat.le_refl _)] at ht4
                    have HT5 := hid (ht4.next (fun _ => rfl))
                    clear ht4 HT4 HF4
                    go_wp2_with fail
                    go_roundw
                    case rel => exact ⟨k + 1, mb3, f3, by omega, by go_num, rfl, HR4, HT5⟩
                    case measure => simp [intOf]; omega
            · have hnk : n = k := by omega
              subst hnk
              cases mb with
              | false =>
                have HBF := hid (HR2.out.o.congr (rcB_of (fun j hj => HT2.out.done (Nat.le_refl _) HET.out hj)))
                have HBL := hid HR2.out.bl
                go_wp2_with fail
                go_ret
                rw [← HE.out]
                exact ⟨ob, rfl, HBF.out, HBL.out⟩
              | true =>
                have HC2 := hid (show t + 1 ≤ cnt n f2 by have := HT2.out.tr rfl; have := HC.out; omega)
                have HT3 := hid (show TuI n e F f2 false f2 0 [] from ⟨HT2.out.sub, HT2.out.rc, Nat.le_refl _, (fun h => by cases h), fun _ => ⟨fun k hk => (by omega), fun _ hx => (by cases hx)⟩⟩)
                clear HT2
                go_wp2_with fail
                go_roundw
                case rel => exact ⟨t + 1, f2, by omega, by go_num, HR2, HT3, HC2⟩
                case measure => simp [intOf]; omega
        · have hnt2 : n = t := by omega
          subst hnt2
          have HBF := hid (HR.out.o.congr (rcB_of (fun j hj => HTu.out.full HC.out hj)))
          have HBL := hid HR.out.bl
          go_wp2_with fail
          go_ret
          rw [← HE.out]
          exact ⟨ob, rfl, HBF.out, HBL.out⟩
end Go.Proofs.Ytjmhlmohennknab
