/-
  What has a form is read as it was; the document's example.
-/
import Derived.Test.YtpnjneifolffdaaObD
import Derived.Test.YtpnjneifolffdaaObQ
namespace Go.Proofs.Ytpnjneifolffdaa
open Go Go.ChangeShapes Go.WideShapes Go.ChangeAt Go.RowKit

theorem drop_more {α : Type} {xs ys : List α} {n : Nat} (h : xs.length = n) (k : Nat) : (xs ++ ys).drop (n + k) = ys.drop k := by
  rw [← List.drop_drop, List.drop_left' h]
set_option maxRecDepth 100000 in
/-- What was laid is read. -/
theorem rdO_frm {x : Orf} (h : OrfOk x) : rdO (frmO x) = x := by
  have e : frmO x = byt 1464812877 4 ++ (byt x.fl 4 ++ (byt x.rf 4 ++ (byt 0 4 ++ (byt x.ox 8 ++ (byt x.oi 8 ++ (x.ip ++ x.ii)))))) := by simp [frmO]
  have p4 : (256 : Int) ^ 4 = 4294967296 := by decide
  have p8 : (256 : Int) ^ 8 = 18446744073709551616 := by decide
  have d4 := drop_more (ys := byt x.fl 4 ++ (byt x.rf 4 ++ (byt 0 4 ++ (byt x.ox 8 ++ (byt x.oi 8 ++ (x.ip ++ x.ii)))))) (byt_len 4 1464812877)
  have d8 := drop_more (ys := byt x.rf 4 ++ (byt 0 4 ++ (byt x.ox 8 ++ (byt x.oi 8 ++ (x.ip ++ x.ii))))) (byt_len 4 x.fl)
  have d12 := drop_more (ys := byt 0 4 ++ (byt x.ox 8 ++ (byt x.oi 8 ++ (x.ip ++ x.ii)))) (byt_len 4 x.rf)
  have d16 := drop_more (ys := byt x.ox 8 ++ (byt x.oi 8 ++ (x.ip ++ x.ii))) (byt_len 4 0)
  have d24 := drop_more (ys := byt x.oi 8 ++ (x.ip ++ x.ii)) (byt_len 8 x.ox)
  have d32 := drop_more (ys := x.ip ++ x.ii) (byt_len 8 x.oi)
  have d48 := drop_more (ys := x.ii) h.ip.len
  rw [← e] at d4
  have f4 : (frmO x).drop 4 = byt x.fl 4 ++ (byt x.rf 4 ++ (byt 0 4 ++ (byt x.ox 8 ++ (byt x.oi 8 ++ (x.ip ++ x.ii))))) := d4 0
  have f8 : (frmO x).drop 8 = byt x.rf 4 ++ (byt 0 4 ++ (byt x.ox 8 ++ (byt x.oi 8 ++ (x.ip ++ x.ii)))) := (d4 4).trans (d8 0)
  have f16 : (frmO x).drop 16 = byt x.ox 8 ++ (byt x.oi 8 ++ (x.ip ++ x.ii)) := (d4 12).trans ((d8 8).trans ((d12 4).trans (d16 0)))
  have f24 : (frmO x).drop 24 = byt x.oi 8 ++ (x.ip ++ x.ii) := (d4 20).trans ((d8 16).trans ((d12 12).trans ((d16 8).trans (d24 0))))
  have f32 : (frmO x).drop 32 = x.ip ++ x.ii := (d4 28).trans ((d8 24).trans ((d12 20).trans ((d16 16).trans ((d24 8).trans (d32 0)))))
  have f48 : (frmO x).drop 48 = x.ii := (d4 44).trans ((d8 40).trans ((d12 36).trans ((d16 32).trans ((d24 24).trans ((d32 16).trans (d48 0))))))
  unfold rdO
  rw [f4, f8, f16, f24, f32, f48, List.take_left' (byt_len 4 x.fl), List.take_left' (byt_len 4 x.rf), List.take_left' (byt_len 8 x.ox), List.take_left' (byt_len 8 x.oi), List.take_left' h.ip.len, List.take_of_length_le (by rw [h.ii.len]; exact Nat.le_refl _),
    valL_byt 4 x.fl h.fl0 (by rw [p4]; have := h.fl1; omega), valL_byt 4 x.rf h.rf0 (by rw [p4]; have := h.rf1; omega), valL_byt 8 x.ox h.ox0 (by rw [p8]; have := h.ox1; omega), valL_byt 8 x.oi h.oi0 (by rw [p8]; have := h.oi1; omega)]
theorem decO_frm {x : Orf} (h : OrfOk x) (hr : rightO x = true) : decO (frmO x) = (x, 0) := by
  unfold decO
  rw [rdO_frm h, frmO_len h, if_neg (by omega), if_neg (by omega), if_pos ⟨hr, rfl⟩]

/-- The document's example. -/
def exO : Orf := ⟨0, 5, 1, 2, List.replicate 16 0, List.replicate 16 0⟩
theorem exO_ok : OrfOk exO := ⟨by decide, by decide, by decide, by decide, by decide, by decide, by decide, by decide, orZ_ok.ip, orZ_ok.ii⟩
set_option maxRecDepth 100000 in
theorem exec_ex {o : Oper} {f : Operand → Value} {W : World} {p1 p2 p3 : Operand} (ho : o.op = .build 27 #[(1, p1), (2, p2), (3, p3)])
    (h1 : f p1 = .int .u32 5) (h2 : f p2 = .int .u64 1) (h3 : f p3 = .int .u64 2) :
    (execOp f o).run Try.prog W = .ok (.value (.agg (orA exO))) W := by
  unfold execOp
  simp only [ho]
  simp only [List.map_toArray, List.map_cons, List.map_nil, h1, h2, h3]
  go_simp
  rfl
set_option maxRecDepth 100000 in
set_option maxHeartbeats 1000000 in
theorem awake_any (w : World) : Calls Try.prog 11 #[] w fun e w' => e = .returned (.bool true) ∧ Below w.heap.size w w' := by
  have HEN := hid (Encode_any exO exO_ok w)
  go_enter Try.func11, Try.ntmps11
  go_wp2_with (first | ((with_reducible refine at_op ⟨some 6, _, _, _, _, _⟩ ?_); refine wpList_run rfl (.agg (orA exO)) (exec_ex rfl rfl rfl rfl) ?_) | fail)
  refine HEN.out.mono ?_
  rintro e w1 (⟨_, ⟨g, rfl, hg, hgl⟩, hb1⟩ | ⟨h0, _⟩)
  · have hlt := lt_of_heap hg
    have hbs : Bs w1 w1.heap.size (some ⟨g, 0, none⟩) (frmO exO) := ⟨fun _ => ⟨_, _, rfl, hlt⟩, fun b o he => by cases he; exact AtL.row (cs := u8l (frmO exO)) hg⟩
    have HD := hid (Decode_any w1 (some ⟨g, 0, none⟩) 64 64 (frmO exO) hbs (frmO_len exO_ok).symm (frmO_byt exO_ok) (by omega))
    have HG := hid hg
    have HB1 := hid hb1
    clear hbs hg hb1 HEN
    go_wp2_with fail
    refine HD.out.mono ?_
    rintro e w2 ⟨rfl, hb2⟩
    rw [decO_frm exO_ok rfl]
    have hg2 : w2.heap[g]? = some (.cells (u8s (frmO exO)) 60 (0, 0)) := by rw [hb2.block g (lt_of_heap HG.out)]; exact HG.out
    have hB2 : Below w.heap.size w w2 := HB1.out.trans (hb2.mono HB1.out.size)
    obtain ⟨w3, hw3⟩ : ∃ w3, w3 = (w2.alloc (.cells (orA orZ) 27)).setRow w2.heap.size (orA exO) := ⟨_, rfl⟩
    have hn := heap_alloc_new w2 (.cells (orA orZ) 27)
    have hlt2 := lt_of_heap hg2
    have hg3 : w3.heap[g]? = some (.cells (u8s (frmO exO)) 60 (0, 0)) := by rw [hw3, setRow_other _ _ _ _ (by omega), heap_alloc_old _ _ hlt2]; exact hg2
    have ho3 : InO w3 w2.heap.size exO := by rw [hw3]; exact setRow_heap _ _ _ _ _ _ hn
    have hB3 : Below w.heap.size w w3 := by rw [hw3]; exact below_setRow (hB2.alloc hB2.size _) _ _ hB2.size
    have HN := hid hn
    have HW3 := hid hw3
    have b0 : w3.cell? ⟨g, 0, none⟩ = some (.int .u8 77) := by rw [cell_of_row w3 g 0 _ _ _ hg3]; rfl
    have b8 : w3.cell? ⟨g, 8, none⟩ = some (.int .u8 5) := by rw [cell_of_row w3 g 8 _ _ _ hg3]; rfl
    have b24 : w3.cell? ⟨g, 24, none⟩ = some (.int .u8 2) := by rw [cell_of_row w3 g 24 _ _ _ hg3]; rfl
    have c1 : w3.cell? ⟨w2.heap.size, 1, none⟩ = some (.int .u32 5) := ho3.c1
    have HIX := hid (infoO exO_ok)
    have HB3 := hid hB3
    clear hg2 hB2 hn hg3 ho3 hB3 hw3 hb2 HD HG HB1
    go_upto_region 3 with (first | ((with_reducible refine at_op ⟨none, .store 27 (.tmp 3) (.tmp 13), _, _, _, _⟩ ?_); refine wpList_store_row rfl 27 _ _ rfl w2.heap.size (orA exO) rfl rfl 27 (orA orZ) HN.out HIX.out rfl (orA_one _) ?_))
    change Code.wp _ _ _ _ ((w2.alloc (.cells (orA orZ) 27)).setRow w2.heap.size (orA exO))
    rw [← HW3.out]
    clear HN HW3 HIX
    go_wp2
    go_ret
    exact ⟨rfl, HB3.out⟩
  · exact absurd h0 (by decide)
end Go.Proofs.Ytpnjneifolffdaa
