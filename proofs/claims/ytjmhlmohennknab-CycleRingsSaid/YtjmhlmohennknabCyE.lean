/-
  The contract of the plain Edges.
-/
import Derived.Test.YtjmhlmohennknabCyK
namespace Go.Proofs.Ytjmhlmohennknab
open Go Go.ChangeShapes Go.WideShapes Go.ChangeAt Go.RowKit

set_option maxRecDepth 100000 in
set_option maxHeartbeats 4000000 in
theorem REdges_any (w : World) (cv ev : Value) (cs : List Int) (es : List (List Int)) (i : Nat) (hG : GrW w.heap.size w cv ev cs es) (hes : ∀ l ∈ es, l.length ≤ 1000000) :
    Calls Try.prog 22 #[.agg #[cv, ev], nI i] w fun e w' => ∃ v', e = .returned v' ∧ PI w w' v' (wi cs.length (es.getD i [])) := by
  obtain ⟨ca, cc, rfl, hcc1, hcc2, _⟩ := hG.c.ex
  obtain ⟨ea, ec, rfl, hec1, hec2, hE⟩ := hG.e
  obtain ⟨n, hn0⟩ : ∃ n, n = cs.length := ⟨_, rfl⟩
  obtain ⟨m, hm0⟩ : ∃ m, m = es.length := ⟨_, rfl⟩
  rw [← hn0] at hcc1 ⊢
  rw [← hm0] at hec1 ⊢
  have HM := hid hm0
  have HE := hid hE
  have HES := hid hes
  obtain ⟨W1, hW1⟩ : ∃ W1, W1 = w.alloc (.cells #[.slice ca n cc, .slice ea m ec] TGr) := ⟨_, rfl⟩
  have HW1 := hid hW1
  have hb1 : Below w.heap.size w W1 := by rw [hW1]; exact (Below.refl _ _).alloc (Nat.le_refl _) _
  have hg := heap_alloc_new w (.cells #[.slice ca n cc, .slice ea m ec] TGr)
  rw [← hW1] at hg
  have hsz1 : W1.heap.size = w.heap.size + 1 := by rw [hW1]; simp
  have g0 : W1.cell? ⟨w.heap.size, 0, none⟩ = some (.slice ca n cc) := by rw [cell_of_row _ _ 0 _ _ _ hg]; rfl
  have g1 : W1.cell? ⟨w.heap.size, 1, none⟩ = some (.slice ea m ec) := by rw [cell_of_row _ _ 1 _ _ _ hg]; rfl
  have HB1 := hid hb1
  have HG0 := hid g0
  have HG1 := hid g1
  have HSZ1 := hid hsz1
  clear hG hE hn0 hm0 hb1 hg g1 hW1 hes hsz1 g0
  by_cases him : i < m
  · have hlt : i < es.length := by rw [← HM.out]; exact him
    have hx : es[i]? = some (es.getD i []) := by rw [List.getD_eq_getElem?_getD, List.getElem?_eq_getElem hlt]; rfl
    obtain ⟨l, hl⟩ : ∃ l, l = es.getD i [] := ⟨_, rfl⟩
    rw [← hl] at hx ⊢
    obtain ⟨b, o, rfl, hb, hcell⟩ := HE.out (by rw [← HM.out]; omega)
    obtain ⟨lv, c1, hT⟩ := hcell i l hx
    have cx : W1.cell? ⟨b, o + i, none⟩ = some lv := (World.cell?_of_block (w := w) (w' := W1) (a := ⟨b, o + i, none⟩) (HB1.out.block b hb)).trans c1
    have CX := hid cx
    have hT1 := (hT.below HB1.out).up HB1.out.size
    obtain ⟨la, lc, rfl, hlc1, hlc2, hL⟩ := hT1.ex
    have hll := HES.out l (List.mem_of_getElem? hx)
    obtain ⟨N, hN⟩ : ∃ N, N = l.length := ⟨_, rfl⟩
    rw [← hN] at hL CX hlc1
    have HN := hid hN
    have HL := hid hL
    have HLL := hid hll
    have hblt : b < W1.heap.size := by have := HSZ1.out; omega
    have HBLT := hid hblt
    clear hx hb hcell c1 hT hT1 hlt hl cx hL hN hll HE hblt
    have HP0 : RowKit.Hid (PI W1 W1 (.slice none 0 0) (wi n (l.take 0))) := hid (PI.new W1)
    go_enter Try.func22, Try.ntmps22
    go_upto_region 1 with fail
    rw [← HW1.out]
    clear HW1
    have g0 := HG0.out
    have g1 := HG1.out
    go_wp2_with fail
    clear g0 g1
    rw [show decide (m ≤ i) = false from decide_eq_false (by omega)]
    go_loopw [6, 5] (fun q v wr => ∃ k : Nat, k ≤ N ∧ q = .int .i64 k ∧ RowKit.Hid (PI W1 wr v (wi n (l.take k)))) (fun q _ _ => N - (intOf q).toNat)
    case atStart => exact ⟨0, by omega, rfl, HP0⟩
    case round =>
      obtain ⟨k, hk, rfl, HR⟩ := hrel
      have HBW := hid HR.out.2
      have g0 : wr.cell? ⟨w.heap.size, 0, none⟩ = some (.slice ca n cc) := (World.cell?_of_block (w := W1) (w' := wr) (a := ⟨w.heap.size, 0, none⟩) (HBW.out.block w.heap.size (by have := HSZ1.out; omega))).trans HG0.out
      have g1 : wr.cell? ⟨w.heap.size, 1, none⟩ = some (.slice (some ⟨b, o, none⟩) m ec) := (World.cell?_of_block (w := W1) (w' := wr) (a := ⟨w.heap.size, 1, none⟩) (HBW.out.block w.heap.size (by have := HSZ1.out; omega))).trans HG1.out
      have cx : wr.cell? ⟨b, o + i, none⟩ = some (.slice la N lc) := (World.cell?_of_block (w := W1) (w' := wr) (a := ⟨b, o + i, none⟩) (HBW.out.block _ HBLT.out)).trans CX.out
      by_cases hkn : k < N
      · have hx : l[k]? = some (l[k]'(by rw [← HN.out]; exact hkn)) := List.getElem?_eq_getElem _
        generalize l[k]'(by rw [← HN.out]; exact hkn) = x at hx
        obtain ⟨lb, lo, rfl, hlb, hcell⟩ := HL.out (by omega)
        have cy : wr.cell? ⟨lb, lo + k, none⟩ = some (.int .i64 x) := (World.cell?_of_block (w := W1) (w' := wr) (a := ⟨lb, lo + k, none⟩) (HBW.out.block _ hlb)).trans (hcell k x hx)
        have HT := hid (wi_take (n := n) hx)
        have HTL := hid (show (wi n (l.take k)).length ≤ 1000000 from Nat.le_trans (wi_len_take (n := n) (l := l) k) (Nat.le_trans wi_len HLL.out))
        clear hx hcell hlb
        by_cases hx0 : 0 ≤ x
        · obtain ⟨y, rfl⟩ := Int.eq_ofNat_of_zero_le hx0
          by_cases hxn : y < n
          · go_wp2_with (first
              | (at_builtin; refine wpList_pushI (o := ⟨some 43, _, _, _, _, _⟩) rfl (.tmp 40) (.tmp 42) rfl W1.heap.size _ _ y rfl (OwI.alloc HR.out.1 _) wr.heap.size 1 rfl (by rw [cell_of_row _ _ 0 _ _ _ (heap_alloc_new wr _)]; rfl) HTL.out (by have := HR.out.2.size; simp; omega) ?_; intro v5 w5 hown5 hgrow5 hat5; have HO5 := hid hown5; have HG5 := hid hgrow5; clear hown5 hgrow5 hat5)
              | fail)
            have h5 := HR.out.push HO5.out HG5.out
            have ht := HT.out
            rw [if_pos (by omega), Int.toNat_natCast] at ht
            rw [← ht] at h5
            have HE5 := hid h5
            clear h5 ht
            go_roundw
            case rel => exact ⟨k + 1, by omega, by go_num, HE5⟩
            case measure => simp [intOf]; omega
          · go_wp2_with fail
            have ht := HT.out
            rw [if_neg (by omega), List.append_nil] at ht
            go_roundw
            case rel => exact ⟨k + 1, by omega, by go_num, hid (by rw [ht]; exact HR.out)⟩
            case measure => simp [intOf]; omega
        · go_wp2_with fail
          have ht := HT.out
          rw [if_neg (by omega), List.append_nil] at ht
          go_roundw
          case rel => exact ⟨k + 1, by omega, by go_num, hid (by rw [ht]; exact HR.out)⟩
          case measure => simp [intOf]; omega
      · obtain rfl : k = N := by omega
        have hr := HR.out
        rw [List.take_of_length_le (by rw [HN.out]; exact Nat.le_refl _)] at hr
        have HR2 := hid hr
        clear hr HR
        go_wp2
        go_ret
        exact ⟨_, rfl, HR2.out.from_ HB1.out⟩
  · have hg : es.getD i [] = [] := by rw [List.getD_eq_getElem?_getD, List.getElem?_eq_none (by rw [← HM.out]; omega)]; rfl
    rw [hg]
    clear hg
    go_enter Try.func22, Try.ntmps22
    go_upto_region 1 with fail
    rw [← HW1.out]
    clear HW1
    have g1 := HG1.out
    go_wp2_with fail
    go_ret
    exact ⟨_, rfl, World.ownsRow_nil _ _ _ _, HB1.out⟩
end Go.Proofs.Ytjmhlmohennknab
