/-
  The contract of the plain Into.
-/
import Derived.Test.YtjmhlmohennknabCyX
namespace Go.Proofs.Ytjmhlmohennknab
open Go Go.ChangeShapes Go.WideShapes Go.ChangeAt Go.RowKit

abbrev TU64 : TypeId := 42
abbrev nU (k : Nat) : Value := .int .u64 (k : Int)
set_option maxRecDepth 100000 in
theorem infoU64 : (Try.prog.info? TU64).map (fun i => (i.zero, i.size, i.bytes)) = some (some (.int .u64 0), 1, 8) := by kernel_rfl
/-- While edges are counted: the box, the row, all else as it was. -/
structure InI (w W : World) (cv ev : Value) (ob n : Nat) (f : Nat → Nat) : Prop where
  gb : W.heap[w.heap.size]? = some (.cells #[cv, ev] TGr (0, 0))
  o : BF TU64 nU W ob n f
  bl : Below w.heap.size w W
section
variable {w W W' : World} {cv ev : Value} {ob n : Nat} {f f' : Nat → Nat}
theorem InI.atl (h : InI w W cv ev ob n f) : AtL W w.heap.size 0 [cv, ev] := AtL.row h.gb
theorem InI.g0 (h : InI w W cv ev ob n f) : W.cell? ⟨w.heap.size, 0, none⟩ = some cv := by rw [cell_of_row _ _ 0 _ _ _ h.gb]; rfl
theorem InI.call (h : InI w W cv ev ob n f) (hB : Below W.heap.size W W') : InI w W' cv ev ob n f :=
  ⟨by rw [hB.block _ (Array.getElem?_eq_some_iff.1 h.gb).1]; exact h.gb, h.o.below hB, h.bl.trans (hB.mono h.bl.size)⟩
theorem InI.set (h : InI w W cv ev ob n f) (ho : w.heap.size < ob) (j : Nat) (y : Nat) : InI w (W.setCell ⟨ob, j, none⟩ (nU y)) cv ev ob n (upd f j y) := by
  have hfr : Fr (fun b => b = ob) W (W.setCell ⟨ob, j, none⟩ (nU y)) := (Fr.refl _ _).setCell _ _ (fun _ => rfl)
  refine ⟨?_, h.o.set j y, h.bl.trans (hfr.below h.bl.size (fun k hk => by omega))⟩
  rw [hfr.block _ (Array.getElem?_eq_some_iff.1 h.gb).1 (by omega)]
  exact h.gb
theorem InI.congr (h : InI w W cv ev ob n f) (hc : ∀ i, i < n → f i = f' i) : InI w W cv ev ob n f' := ⟨h.gb, h.o.congr hc, h.bl⟩
end
def IntoPost (w : World) (n : Nat) (e : Nat → List Nat) (F : Nat → Bool) (en : Ending) (w' : World) : Prop :=
  ∃ b, en = .returned (.slice (some ⟨b, 0, none⟩) n n) ∧ BF TU64 nU w' b n (into e (fun i => F i = true) n) ∧ Below w.heap.size w w'
theorem tot_mono {e : Nat → List Nat} {a b : Nat} (h : a ≤ b) : tot e a ≤ tot e b := by
  induction b with
  | zero => rw [Nat.le_zero.1 h]; exact Nat.le_refl _
  | succ b ih =>
    by_cases hab : a = b + 1
    · rw [hab]; exact Nat.le_refl _
    · have := ih (by omega)
      show tot e a ≤ tot e b + (e b).length
      omega
set_option maxRecDepth 100000 in
set_option maxHeartbeats 8000000 in
theorem Into_any (w : World) (cv ev fv : Value) (cs : List Int) (es : List (List Int)) (F : Nat → Bool) (n : Nat) (hn : n = cs.length) (hG : GrW w.heap.size w cv ev cs es) (hF : Tl bv w.heap.size w fv (fL n F)) (hn2 : n ≤ 1000) (hes : totE es ≤ 1000000) :
    Calls Try.prog 19 #[.agg #[cv, ev], fv] w (IntoPost w n (fun i => wi n (es.getD i [])) F) := by
  have HG := hid hG
  obtain ⟨ca, cc, rfl, hcc1, hcc2, _⟩ := hG.c.ex
  obtain ⟨ea, ec, rfl, hec1, hec2, _⟩ := hG.e
  obtain ⟨fa, fc, rfl, hfc1, hfc2, hFx⟩ := hF.ex
  rw [← hn] at hcc1 HG ⊢
  rw [fL_len] at hfc1 hFx ⊢
  have HN := hid hn
  have HES := hid hes
  have HFX := hid hFx
  obtain ⟨ob, hob⟩ : ∃ ob, ob = w.heap.size + 1 := ⟨_, rfl⟩
  have hob2 : w.heap.size < ob := by omega
  obtain ⟨e, he⟩ : ∃ e, e = fun i => wi n (es.getD i []) := ⟨_, rfl⟩
  rw [← he]
  have HE := hid he
  have HET := hid (show ∀ i, ∀ j ∈ e i, j < n from fun i j hj => by rw [he] at hj; exact wi_lt j hj)
  have HTT := hid (show tot e n ≤ 1000000 from Nat.le_trans (by rw [he]; exact tot_wi n es n) (Nat.le_trans (totE_take _ _) hes))
  obtain ⟨m, hm0⟩ : ∃ m, m = es.length := ⟨_, rfl⟩
  rw [← hm0] at HG hec1 ⊢
  clear he hm0
  obtain ⟨W1, hW1⟩ : ∃ W1, W1 = (w.alloc (.cells #[.slice ca n cc, .slice ea m ec] TGr)).alloc (.cells (madeCells #[.int .u64 0] n) TU64) := ⟨_, rfl⟩
  have HW1 := hid hW1
  have hI1 : InI w W1 (.slice ca n cc) (.slice ea m ec) ob n (into e (fun i => F i = true) 0) := by
    have e1 := heap_alloc_new w (.cells #[.slice ca n cc, .slice ea m ec] TGr)
    have hb : Below w.heap.size w W1 := by rw [hW1]; exact ((Below.refl _ _).alloc (Nat.le_refl _) _).alloc (by simp) _
    refine ⟨by rw [hW1]; exact hkeep _ e1, ?_, hb⟩
    have h2 := BF.made (f := nU) (T := TU64) (w.alloc (.cells #[.slice ca n cc, .slice ea m ec] TGr)) n 0
    have h3 : (w.alloc (.cells #[.slice ca n cc, .slice ea m ec] TGr)).heap.size = ob := by simp [hob]
    rw [h3] at h2
    rw [hW1]
    exact h2
  have HI1 := hid hI1
  have HOB := hid hob2
  have HOBE := hid hob
  clear hG hF hFx hn hes hW1 hI1 hob2 hob
  go_enter Try.func19, Try.ntmps19
  go_upto_region 2 with ((with_reducible refine at_op ⟨some 12, _, _, _, _, _⟩ ?_); go_loud (refine wpList_runN rfl _ _ (exec_makeC (n := n) Try.underlying39 infoU64 (by omega) (by omega) rfl rfl) ?_))
  rw [← HW1.out, ← HOBE.out]
  clear HW1 HOBE
  go_wp2_with fail
  go_loopw [6] (fun i wr => ∃ t : Nat, t ≤ n ∧ i = .int .i64 t ∧ RowKit.Hid (InI w wr (.slice ca n cc) (.slice ea m ec) ob n (into e (fun i => F i = true) t))) (fun i _ => n - (intOf i).toNat)
  case atStart => exact ⟨0, by omega, rfl, HI1⟩
  case round =>
    obtain ⟨t, ht, rfl, HR⟩ := hrel
    by_cases htn : t < n
    · obtain ⟨b, o, rfl, hb, hcell⟩ := HFX.out (by omega)
      have cx : wr.cell? ⟨b, o + t, none⟩ = some (.bool (F t)) := (World.cell?_of_block (w := w) (w' := wr) (a := ⟨b, o + t, none⟩) (HR.out.bl.block b hb)).trans (hcell t _ (fL_at htn))
      obtain ⟨y, hy⟩ : ∃ y, y = F t := ⟨_, rfl⟩
      rw [← hy] at cx
      have HY := hid hy
      clear hy hcell hb
      cases y with
      | false =>
        have HR2 := hid (HR.out.congr (f' := into e (fun i => F i = true) (t + 1)) (fun i hi => by
          show _ = into e (fun i => F i = true) t i + _
          rw [if_neg (show ¬ F t = true by rw [← HY.out]; simp)]; rfl))
        go_wp2_with fail
        go_roundw
        case rel => exact ⟨t + 1, by omega, by go_num, HR2⟩
        case measure => simp [intOf]; omega
      | true =>
        have hat := hid HR.out.atl
        have HED := hid (REdges_any wr _ _ cs es t ((HG.out.below HR.out.bl).up HR.out.bl.size) (fun l hl => Nat.le_trans (len_totE hl) HES.out))
        go_wp2_with (first
          | ((with_reducible refine at_op ⟨some 24, _, _, _, _, _⟩ ?_); go_loud (refine wpList_run rfl _ (load_cells Try.underlying25 (by rfl) (by kernel_rfl) rfl rfl hat.out) ?_))
          | fail)
        refine HED.out.mono ?_
        rintro en w3 ⟨lv, rfl, hPI⟩
        have hek : wi cs.length (es.getD t []) = e t := by rw [HE.out, HN.out]
        rw [hek] at hPI
        obtain ⟨la, lc, rfl, _, _⟩ := hPI.1.form
        have HR3 := hid (HR.out.call hPI.2)
        have HOW := hid hPI.1
        obtain ⟨N, hN⟩ : ∃ N, N = (e t).length := ⟨_, rfl⟩
        have hel : N ≤ 1000000 := by have := len_le_tot (e := e) htn; have := HTT.out; omega
        rw [← hN] at HOW ⊢
        have HNN := hid hN
        have HOL := hid HR.out.o.lt
        obtain ⟨B2, hB2⟩ : ∃ B2, B2 = wr.heap.size := ⟨_, rfl⟩
        rw [← hB2] at HOW HOL
        clear hPI hek hN cx hat HED hB2
        go_wp2_with fail
        go_loopw [8] (fun i wx => ∃ (j : Nat), j ≤ N ∧ i = .int .i64 j ∧ RowKit.Hid (InI w wx (.slice ca n cc) (.slice ea m ec) ob n (fun x => into e (fun i => F i = true) t x + ((e t).take j).count x)) ∧ RowKit.Hid (Fr (fun b => b = ob) w3 wx)) (fun i _ => N - (intOf i).toNat)
        case atStart => exact ⟨0, by omega, rfl, hid (HR3.out.congr (fun i _ => by simp)), hid (Fr.refl _ _)⟩
        case round =>
          obtain ⟨j, hj, rfl, HR4, HF4⟩ := hrel
          by_cases hjN : j < N
          · have hlt : j < (e t).length := by rw [← HNN.out]; exact hjN
            have hx : (e t)[j]? = some (e t)[j] := List.getElem?_eq_getElem hlt
            have htake : (e t).take (j + 1) = (e t).take j ++ [(e t)[j]] := List.take_succ_eq_append_getElem hlt
            generalize (e t)[j] = x at hx htake
            have hxn : x < n := HET.out t x (List.mem_of_getElem? hx)
            have hO : OwI B2 wr _ (e t) := OwI.fr HOW.out HF4.out (fun b hb e => by have := (World.ownsRow.lt HOW.out b hb).1; have := HOL.out; omega)
            obtain ⟨_, _, hv, _, _, hcell⟩ := (own_told hO).ex
            simp only [Value.slice.injEq] at hv
            obtain ⟨rfl, -, rfl⟩ := hv
            obtain ⟨lb, lo, rfl, _, hcell⟩ := hcell (by omega)
            have cx := hcell j x hx
            have d0 := HR4.out.o.cell hxn
            have z0 := HR4.out.o.fz x
            obtain ⟨y, hy⟩ : ∃ y, y = into e (fun i => F i = true) t x + ((e t).take j).count x := ⟨_, rfl⟩
            rw [← hy] at d0
            have hyb : y ≤ 2000000 := by
              have h1 := into_le e (fun i => F i = true) t x
              have h2 := tot_mono (e := e) (show t ≤ n by omega)
              have h3 : ((e t).take j).count x ≤ ((e t).take j).length := List.count_le_length
              rw [List.length_take] at h3
              have := HTT.out
              omega
            have hset := (HR4.out.set HOB.out x (y + 1)).congr (f' := fun x => into e (fun i => F i = true) t x + ((e t).take (j + 1)).count x) (fun i hi => by
              by_cases hix : i = x
              · subst hix; rw [upd_same, htake, hy]; simp; omega
              · rw [upd_other hix, htake, List.count_append, List.count_singleton, if_neg (by simpa using fun h : x = i => hix h.symm)]; rfl)
            have HR5 := hid hset
            have HF5 := hid (HF4.out.setCell ⟨ob, x, none⟩ (nU (y + 1)) (fun _ => rfl))
            have hwy : IntKind.u64.wrap ((y : Int) + 1) = ((y + 1 : Nat) : Int) := by rw [IntWalk.u64_in _ ⟨by omega, by omega⟩]; rfl
            clear hset hy hx hcell hO htake hlt
            go_wp2_with fail
            go_roundw
            case rel => exact ⟨j + 1, by omega, by go_num, HR5, HF5⟩
            case measure => simp [intOf]; omega
          · have hNj : N = j := by omega
            subst hNj
            have HR5 := hid (HR4.out.congr (f' := into e (fun i => F i = true) (t + 1)) (fun i hi => by
              show _ = into e (fun i => F i = true) t i + _
              rw [if_pos (HY.out.symm), List.take_of_length_le (by rw [HNN.out]; exact Nat.le_refl _)]))
            clear HR4 HF4
            go_wp2_with fail
            go_roundw
            case rel => exact ⟨t + 1, by omega, by go_num, HR5⟩
            case measure => simp [intOf]; omega
    · have hnt : n = t := by omega
      subst hnt
      have HBF := hid HR.out.o
      have HBL := hid HR.out.bl
      go_wp2_with fail
      go_ret
      exact ⟨ob, rfl, HBF.out, HBL.out⟩
end Go.Proofs.Ytjmhlmohennknab
