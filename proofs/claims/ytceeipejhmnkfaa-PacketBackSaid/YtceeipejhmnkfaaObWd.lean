/-
  What has a form is read as it was.
-/
import Derived.Test.YtceeipejhmnkfaaObD
import Derived.Test.YtceeipejhmnkfaaObQ
namespace Go.Proofs.Ytceeipejhmnkfaa
open Go Go.ChangeShapes Go.WideShapes Go.ChangeAt Go.RowKit

theorem drop_more {α : Type} {xs ys : List α} {n : Nat} (h : xs.length = n) (k : Nat) : (xs ++ ys).drop (n + k) = ys.drop k := by
  rw [← List.drop_drop, List.drop_left' h]
set_option maxRecDepth 100000 in
/-- What was laid is read. -/
theorem rdO_frm {x : Orf} (h : OrfOk x) : rdO (frmO x) = x := by
  have e : frmO x = byt 1464812877 4 ++ (byt x.fl 4 ++ (byt x.rf 4 ++ (byt 0 4 ++ (byt x.ox 8 ++ (byt x.oi 8 ++ (x.ip ++ x.ii)))))) := by simp [frmO]
  have p4 : (256 : Int) ^ 4 = 4294967296 := by decide
  have p8 : (256 : Int) ^ 8 = 18446744073709551616 := by decide
  have d4 := drop_more (ys := byt x.fl 4 ++ (byt x.rf 4 ++ (byt 0 4 ++ (byt x.ox 8 ++ (byt x.oi 8 ++ (x.ip ++ x.ii)))))) (byt_len 4 1464812877)
  have d8 := drop_more (ys := byt x.rf 4 ++ (byt 0 4 ++ (byt x.ox 8 ++ (byt x.oi 8 ++ (x.ip ++ x.ii))))) (byt_len 4 x.fl)
  have d12 := drop_more (ys := byt 0 4 ++ (byt x.ox 8 ++ (byt x.oi 8 ++ (x.ip ++ x.ii)))) (byt_len 4 x.rf)
  have d16 := drop_more (ys := byt x.ox 8 ++ (byt x.oi 8 ++ (x.ip ++ x.ii))) (byt_len 4 0)
  have d24 := drop_more (ys := byt x.oi 8 ++ (x.ip ++ x.ii)) (byt_len 8 x.ox)
  have d32 := drop_more (ys := x.ip ++ x.ii) (byt_len 8 x.oi)
  have d48 := drop_more (ys := x.ii) h.ip.len
  rw [← e] at d4
  have f4 : (frmO x).drop 4 = byt x.fl 4 ++ (byt x.rf 4 ++ (byt 0 4 ++ (byt x.ox 8 ++ (byt x.oi 8 ++ (x.ip ++ x.ii))))) := d4 0
  have f8 : (frmO x).drop 8 = byt x.rf 4 ++ (byt 0 4 ++ (byt x.ox 8 ++ (byt x.oi 8 ++ (x.ip ++ x.ii)))) := (d4 4).trans (d8 0)
  have f16 : (frmO x).drop 16 = byt x.ox 8 ++ (byt x.oi 8 ++ (x.ip ++ x.ii)) := (d4 12).trans ((d8 8).trans ((d12 4).trans (d16 0)))
  have f24 : (frmO x).drop 24 = byt x.oi 8 ++ (x.ip ++ x.ii) := (d4 20).trans ((d8 16).trans ((d12 12).trans ((d16 8).trans (d24 0))))
  have f32 : (frmO x).drop 32 = x.ip ++ x.ii := (d4 28).trans ((d8 24).trans ((d12 20).trans ((d16 16).trans ((d24 8).trans (d32 0)))))
  have f48 : (frmO x).drop 48 = x.ii := (d4 44).trans ((d8 40).trans ((d12 36).trans ((d16 32).trans ((d24 24).trans ((d32 16).trans (d48 0))))))
  unfold rdO
  rw [f4, f8, f16, f24, f32, f48, List.take_left' (byt_len 4 x.fl), List.take_left' (byt_len 4 x.rf), List.take_left' (byt_len 8 x.ox), List.take_left' (byt_len 8 x.oi), List.take_left' h.ip.len, List.take_of_length_le (by rw [h.ii.len]; exact Nat.le_refl _),
    valL_byt 4 x.fl h.fl0 (by rw [p4]; have := h.fl1; omega), valL_byt 4 x.rf h.rf0 (by rw [p4]; have := h.rf1; omega), valL_byt 8 x.ox h.ox0 (by rw [p8]; have := h.ox1; omega), valL_byt 8 x.oi h.oi0 (by rw [p8]; have := h.oi1; omega)]
theorem decO_frm {x : Orf} (h : OrfOk x) (hr : rightO x = true) : decO (frmO x) = (x, 0) := by
  unfold decO
  rw [rdO_frm h, frmO_len h, if_neg (by omega), if_neg (by omega), if_pos ⟨hr, rfl⟩]


end Go.Proofs.Ytceeipejhmnkfaa
