/- PpJ PpW in one -/
import Derived.Test.YtceeipejhmnkfaaPpI
import Derived.Test.YtceeipejhmnkfaaPpV
import Derived.Test.YtceeipejhmnkfaaPkS
import Derived.Test.YtceeipejhmnkfaaWrSame
namespace Go.Proofs.Ytceeipejhmnkfaa
open Go Go.ChangeShapes Go.WideShapes Go.ChangeAt Go.RowKit

/-- What Encode answers. -/
def PEncP (w : World) (p : Pk) (e : Ending) (w' : World) : Prop :=
  (rightP p = true ∧ (∃ a c, e = .returned (.tuple #[.slice a (formP p).length c, .int .i64 0]) ∧ w'.ownsRow w.heap.size 5 1 (.slice a (formP p).length c) (formP p).length (u8l (formP p))) ∧ Below w.heap.size w w') ∨
  (rightP p = false ∧ e = .returned (.tuple #[.slice none 0 0, .int .i64 5]) ∧ Below w.heap.size w w')
theorem lay8_le (xs : List Int) (z : Int) : (lay xs z 8).length ≤ xs.length + 16 := by
  rw [lay_len]; have := gap_lt (n := xs.length) (k := 8) (.inr (.inr (.inr rfl))); omega
theorem ESt.gc {w W : World} {q n g : Nat} {p : Pk} {ad : Option Addr} {c : Nat} {R : List Bool} {xs : List Int} (h : ESt w q n g p ad c R xs W) (k : Nat) (b : Bool) (hk : R[k]? = some b) : W.cell? ⟨g, k, none⟩ = some (.bool b) := by
  have hl : k < R.length := (List.getElem?_eq_some_iff.1 hk).1
  rw [bools_cell h.hg hl]
  simp [hk]
set_option maxRecDepth 100000 in
theorem szF1 (w : World) : (sizeOf 1).run Try.prog w = .ok 1 w := by kernel_rfl
set_option maxRecDepth 100000 in
theorem agF1 (w : World) : (isAgg 1).run Try.prog w = .ok false w := by kernel_rfl
set_option maxRecDepth 100000 in
set_option maxHeartbeats 4000000 in
theorem encode_any (p : Pk) (hp : PkOk p) (ad : Option Addr) (c : Nat) (w : World) (hrw : RwO w w.heap.size ad p.rs) (hc : p.rs.length ≤ c ∧ c ≤ 9223372036854775807) :
    Calls Try.prog 8 #[.agg (pkA p ad c)] w (PEncP w p) := by
  obtain ⟨w1, hw1⟩ : ∃ w1, w1 = w.alloc (.cells (pkA p ad c) 28) := ⟨_, rfl⟩
  have ho : InP w1 w.heap.size p ad c := by rw [hw1]; exact heap_alloc_new _ _
  have hB1 : Below w.heap.size w w1 := by rw [hw1]; exact (Below.refl _ _).alloc (Nat.le_refl _) _
  have h16 := hp.ip.len
  have HO := hid ho
  have HB1 := hid hB1
  have HW := hid hw1
  have HRW := hid hrw
  have HCC := hid hc
  have HP := hid hp
  have HCK := hid (pkCheck_any p hp ad c w1 (hrw.on hB1) hc)
  have HE : RowKit.Hid (errP p = if rightP p then 0 else 5) := rfl
  unfold ChkP at HCK
  clear hw1 ho hB1 hrw hc hp
  cases hr : rightP p with
  | false =>
    rw [hr] at HE
    have he : errP p = 5 := HE.out
    rw [he] at HCK
    have HR := hid hr
    clear he hr HE
    go_enter Try.func8, Try.ntmps8
    go_upto_region 1 with (fail)
    rw [← HW.out]
    go_wp2_with (first | ((with_reducible refine at_op ⟨some 9, _, _, _, _, _⟩ ?_); refine wpList_runW rfl (.agg (pkA p ad c)) (load_p rfl rfl HO.out h16) ?_) | fail)
    refine HCK.out.mono ?_
    rintro e w2 ⟨rfl, hb2⟩
    have HB2 := hid (HB1.out.trans (hb2.mono HB1.out.size))
    clear hb2
    go_wp2_with fail
    go_ret2
    exact .inr ⟨HR.out, rfl, HB2.out⟩
  | true =>
    rw [hr] at HE
    have he : errP p = 0 := HE.out
    rw [he] at HCK
    have HR := hid hr
    have HRO := hid (fun w => rowOf_any p.ki w)
    unfold RowP at HRO
    have HRL := hid (rowL_len p.ki)
    obtain ⟨R, hR⟩ : ∃ R, R = rowL p.ki := ⟨_, rfl⟩
    rw [← hR] at HRO HRL
    have HRR := hid hR
    clear he hr HE hR
    go_enter Try.func8, Try.ntmps8
    go_upto_region 1 with (fail)
    rw [← HW.out]
    go_wp2_with (first | ((with_reducible refine at_op ⟨some 9, _, _, _, _, _⟩ ?_); refine wpList_runW rfl (.agg (pkA p ad c)) (load_p rfl rfl HO.out h16) ?_) | fail)
    refine HCK.out.mono ?_
    rintro e w2 ⟨rfl, hb2⟩
    have HB2 := hid (HB1.out.trans (hb2.mono HB1.out.size))
    have HO2 := hid (HO.out.below hb2)
    clear hb2 HB1 HO HCK HW
    go_wp2_with fail
    refine (NewWriter_any w2).mono ?_
    rintro e w3 ⟨rfl, hw3⟩
    have h3 : WrW w3 w2.heap.size (.slice none 0 0) [] := by rw [hw3]; exact (WrOwn.new w2).wr
    have HO3 := hid (show InP w3 w.heap.size p ad c by rw [hw3]; unfold InP; rw [heap_alloc_old _ _ HO2.out.lt]; exact HO2.out)
    have HB3 := hid (show Below w.heap.size w w3 by rw [hw3]; exact HB2.out.alloc HB2.out.size _)
    have hs3 : w3.heap.size = w2.heap.size + 1 := by rw [hw3]; simp
    have HQ := hid (show w.heap.size < w2.heap.size from HO2.out.lt)
    obtain ⟨q, hq⟩ : ∃ q, q = w2.heap.size := ⟨_, rfl⟩
    rw [← hq] at h3 hs3 HQ ⊢
    have HLH := hid (layHead_any p HP.out HR.out ad c w3 q _ h3)
    have HS3 := hid hs3
    clear hw3 hs3 h3 HB2 HO2 hq
    go_wp2_with (first | ((with_reducible refine at_op ⟨some 16, _, _, _, _, _⟩ ?_); refine wpList_runW rfl (.agg (pkA p ad c)) (load_p rfl rfl HO3.out h16) ?_) | fail)
    refine HLH.out.mono ?_
    rintro e w4 ⟨rfl, v4, h4⟩
    have hs4 := h4.fr.size
    have H4 := hid h4.wr
    have HV4 := hid (show ∀ j, v4.ownBlock = some j → w3.heap.size ≤ j ∧ j < w4.heap.size from fun j hj => ⟨by
      rcases h4.own j hj with e | e
      · simp [Value.ownBlock] at e
      · exact e, (h4.wr.row.lt j hj).2⟩)
    have HO4 := hid (HO3.out.fr' h4.fr (fun e => by
      have := HQ.out
      rcases e with e | e
      · omega
      · simp [Value.ownBlock] at e))
    have HB4 := hid (HB3.out.trans (h4.fr.below (B := w.heap.size) HB3.out.size (fun k hk => by
      have := HQ.out
      rcases hk with rfl | hk
      · omega
      · simp [Value.ownBlock] at hk)))
    have c0 := HO4.out.c0
    have HS4 := hid hs4
    clear h4 hs4 HLH HO3 HB3
    go_wp2_with fail
    refine (HRO.out w4).mono ?_
    rintro e w5 ⟨rfl, hb5⟩
    have HB45 := hid hb5
    obtain ⟨w6, hw6⟩ : ∃ w6, w6 = w5.alloc (.cells (bools row0) 50) := ⟨_, rfl⟩
    have hn6 : w6.heap[w5.heap.size]? = some (.cells (bools row0) 50 (0, 0)) := by rw [hw6]; exact heap_alloc_new _ _
    have hb6 : Below w5.heap.size w5 w6 := by rw [hw6]; exact (Below.refl _ _).alloc (Nat.le_refl _) _
    obtain ⟨w7, hw7⟩ : ∃ w7, w7 = w6.setRow w5.heap.size (bools R) := ⟨_, rfl⟩
    have hn7 : w7.heap[w5.heap.size]? = some (.cells (bools R) 50 (0, 0)) := by rw [hw7]; exact setRow_heap _ _ _ _ _ _ hn6
    have hb7 : Below w5.heap.size w5 w7 := by rw [hw7]; exact below_setRow hb6 _ _ (Nat.le_refl _)
    have HN6 := hid hn6
    rw [hw6] at HN6
    have HN7 := hid hn7
    have HB47 := hid (hb5.trans (hb7.mono hb5.size))
    have HO7 := hid (HO4.out.below (hb5.trans (hb7.mono hb5.size)))
    have HW7 := hid (show w7 = (w5.alloc (.cells (bools row0) 50)).setRow w5.heap.size (bools R) by rw [hw7, hw6])
    have HSR := hid (show (Try.prog.info? 50).map (·.size) = some (bools R).size by rw [bools_size, HRL.out]; exact szRow)
    have HSE := hid (show (bools row0).size = (bools R).size by rw [bools_size, bools_size, HRL.out]; rfl)
    clear hb5 hw6 hn6 hb6 hw7 hn7 hb7 c0
    go_upto_region 7 with (first | ((with_reducible refine at_op ⟨none, .store 50 (.tmp 6) (.tmp 20), _, _, _, _⟩ ?_); refine wpList_store_row rfl 50 _ _ rfl w5.heap.size (bools R) rfl rfl 50 (bools row0) HN6.out HSR.out HSE.out (bools_one _) ?_) | fail)
    change Code.wp _ _ _ _ ((w5.alloc (.cells (bools row0) 50)).setRow w5.heap.size (bools R))
    rw [← HW7.out]
    go_wp2_with (first | ((with_reducible refine at_op ⟨some 22, _, _, _, _, _⟩ ?_); refine wpList_runW rfl (.agg (pkA p ad c)) (load_p rfl rfl HO7.out h16) ?_) | fail)
    refine (layers_any q p ad c w7).mono ?_
    rintro e w8 ⟨rfl, hw8, hp8, hb8⟩
    have hb48 := HB47.out.trans (hb8.mono HB47.out.size)
    have hE : ESt w q w7.heap.size w5.heap.size p ad c R (hdP p) w8 := by
      have s4 := HB45.out.size
      have s7 := lt_of_heap HN7.out
      have s3 := HS3.out
      have s34 := HS4.out
      have sq := HQ.out
      refine ⟨⟨v4, H4.out.fr (Fr.of_below (fp := fun _ => False) hb48) (fun h => h) (fun _ _ h => h), fun j hj => ?_⟩, hw8, hp8, ?_, HB4.out.trans (hb48.mono HB4.out.size), by omega, by omega, by omega, by omega⟩
      · obtain ⟨j1, j2⟩ := HV4.out j hj
        exact ⟨by omega, by omega, by omega, by omega⟩
      · rw [hb8.block _ (lt_of_heap HN7.out)]; exact HN7.out
    obtain ⟨n, hn⟩ : ∃ n, n = w7.heap.size := ⟨_, rfl⟩
    obtain ⟨g, hg⟩ : ∃ g, g = w5.heap.size := ⟨_, rfl⟩
    have E0 := hid hE
    rw [← hn, ← hg] at E0
    simp only [← hn, ← hg]
    clear hw8 hp8 hb8 hb48 hE HN6 HN7 HB47 HB45 HO7 HW7 HSR HSE H4 HV4 HO4 HB4 HS3 HS4 hn hg HQ HRO HRL
    have hix0 : ∀ w, (Instr.index 52 (.agg (lyA n)) (.int .i64 0)).run Try.prog w = .ok (cloF 39 n) w := fun w => run_index_cs w 52 1 6 (lyA n) 0 _ Try.underlying52 szF1 agF1 (by decide) rfl
    have hix1 : ∀ w, (Instr.index 52 (.agg (lyA n)) (.int .i64 1)).run Try.prog w = .ok (cloF 40 n) w := fun w => run_index_cs w 52 1 6 (lyA n) 1 _ Try.underlying52 szF1 agF1 (by decide) rfl
    have hix2 : ∀ w, (Instr.index 52 (.agg (lyA n)) (.int .i64 2)).run Try.prog w = .ok (cloF 42 n) w := fun w => run_index_cs w 52 1 6 (lyA n) 2 _ Try.underlying52 szF1 agF1 (by decide) rfl
    have hix3 : ∀ w, (Instr.index 52 (.agg (lyA n)) (.int .i64 3)).run Try.prog w = .ok (cloF 43 n) w := fun w => run_index_cs w 52 1 6 (lyA n) 3 _ Try.underlying52 szF1 agF1 (by decide) rfl
    have hix4 : ∀ w, (Instr.index 52 (.agg (lyA n)) (.int .i64 4)).run Try.prog w = .ok (cloF 44 n) w := fun w => run_index_cs w 52 1 6 (lyA n) 4 _ Try.underlying52 szF1 agF1 (by decide) rfl
    have hix5 : ∀ w, (Instr.index 52 (.agg (lyA n)) (.int .i64 5)).run Try.prog w = .ok (cloF 45 n) w := fun w => run_index_cs w 52 1 6 (lyA n) 5 _ Try.underlying52 szF1 agF1 (by decide) rfl
    unfold cloF at hix0 hix1 hix2 hix3 hix4 hix5
    have hkk := (rightP_hd HR.out).2.2
    have HLN := hid (show (hdP p).length ≤ 16 from Nat.le_of_eq (hdP_len p))
    by_cases hk : p.ki = 1
    · have hR2 : R = [true, true, true, false, true, true] := by rw [HRR.out, rowL, if_pos hk]
      subst hR2
      have HF := hid (show formP p = _ by rw [formP, if_pos hk])
      have HM := hid (rightP_1 HR.out hk)
      clear hk hkk
      clear HRR
      have g0 := E0.out.gc 0 _ rfl
      have g1 := E0.out.gc 1 _ rfl
      have g2 := E0.out.gc 2 _ rfl
      have g3 := E0.out.gc 3 _ rfl
      have g4 := E0.out.gc 4 _ rfl
      have g5 := E0.out.gc 5 _ rfl
      go_wp2_with fail
      refine wp_loop_rounds 7 ?_
      rw [rounds_succ]
      go_wp2_with fail
      refine (clo1 HP.out E0.out (Nat.le_trans HLN.out (by decide))).mono ?_
      rintro e w9 ⟨rfl, h9⟩
      replace HLN := hid (show (lay (hdP p) p.ca 8).length ≤ 32 from Nat.le_trans (lay8_le (hdP p) p.ca) (Nat.add_le_add_right HLN.out 16))
      have E9 := hid h9
      clear h9 E0 g0 hix0
      replace g1 := E9.out.gc 1 _ rfl
      replace g2 := E9.out.gc 2 _ rfl
      replace g3 := E9.out.gc 3 _ rfl
      replace g4 := E9.out.gc 4 _ rfl
      replace g5 := E9.out.gc 5 _ rfl
      go_wp2_with fail
      rw [rounds_succ]
      go_wp2_with fail
      refine (clo2 HP.out.ip E9.out (Nat.le_trans HLN.out (by decide))).mono ?_
      rintro e w10 ⟨rfl, h10⟩
      replace HLN := hid (show (lay (hdP p) p.ca 8 ++ p.ip).length ≤ 48 by rw [List.length_append, h16]; exact Nat.add_le_add_right HLN.out 16)
      have E10 := hid h10
      clear h10 E9 g1 hix1
      replace g2 := E10.out.gc 2 _ rfl
      replace g3 := E10.out.gc 3 _ rfl
      replace g4 := E10.out.gc 4 _ rfl
      replace g5 := E10.out.gc 5 _ rfl
      go_wp2_with fail
      rw [rounds_succ]
      go_wp2_with fail
      refine (clo3 HM.out.2.1 h16 E10.out (Nat.le_trans HLN.out (by decide))).mono ?_
      rintro e w11 ⟨rfl, h11⟩
      replace HLN := hid (show (lay (hdP p) p.ca 8 ++ p.ip ++ [p.me]).length ≤ 49 by rw [List.length_append]; exact Nat.add_le_add_right HLN.out 1)
      have E11 := hid h11
      clear h11 E10 g2 hix2
      replace g3 := E11.out.gc 3 _ rfl
      replace g4 := E11.out.gc 4 _ rfl
      replace g5 := E11.out.gc 5 _ rfl
      go_wp2_with fail
      rw [rounds_succ]
      go_wp2_with fail
      rw [rounds_succ]
      go_wp2_with fail
      refine (clo5 h16 E11.out (Nat.le_trans HLN.out (by decide))).mono ?_
      rintro e w12 ⟨rfl, h12⟩
      replace HLN := hid (show (lay (lay (hdP p) p.ca 8 ++ p.ip ++ [p.me]) (un p.n) 8).length ≤ 65 from Nat.le_trans (lay8_le (lay (hdP p) p.ca 8 ++ p.ip ++ [p.me]) (un p.n)) (Nat.add_le_add_right HLN.out 16))
      have E12 := hid h12
      clear h12 E11 g4 hix4 g3 hix3
      replace g5 := E12.out.gc 5 _ rfl
      go_wp2_with fail
      rw [rounds_succ]
      go_wp2_with fail
      refine (clo6 HP.out HM.out.2.2.2 HM.out.1 HCC.out.1 HRW.out E12.out (Nat.le_trans HLN.out (by decide))).mono ?_
      rintro e w13 ⟨rfl, h13⟩
      have E13 := hid h13
      clear h13 E12 g5 hix5
      go_wp2_with fail
      rw [rounds_succ]
      go_wp2_with fail
      obtain ⟨vE, hvE, _⟩ := E13.out.wr
      have HBE := hid E13.out.b
      obtain ⟨ys, hys⟩ : ∃ ys, ys = formP p := ⟨_, rfl⟩
      have hvY : WrW w13 q vE ys := by rw [hys, HF.out]; exact hvE
      have hly : ys.length ≤ 1000 := by
        rw [hys, form_len HP.out HR.out]
        split
        · have := (rightP_1 HR.out (by assumption)).1; omega
        · split <;> omega
      have HYS := hid hys
      have HBY := hid (Bytes_any w13 q vE ys hvY (by omega))
      clear E13 hvE hvY hly hys HLN
      go_wp2_with fail
      refine HBY.out.mono ?_
      rintro e wz ⟨vz, rfl, hz, hbz⟩
      obtain ⟨az, cz, rfl⟩ := own_form hz
      have HZ := hid (owns_low hz HBE.out.size)
      have HBZ := hid (HBE.out.trans (hbz.mono HBE.out.size))
      clear hz hbz HBY
      go_wp2_with fail
      go_ret2
      unfold PEncP
      rw [← HYS.out]
      exact .inl ⟨HR.out, ⟨az, cz, rfl, HZ.out⟩, HBZ.out⟩
    have hk0 := hk
    clear hk
    by_cases hk : p.ki = 2
    · have hR2 : R = [true, false, false, true, true, false] := by rw [HRR.out, rowL, if_neg (by omega), if_pos hk]
      subst hR2
      have HF := hid (show formP p = _ by rw [formP, if_neg (by omega), if_pos hk])
      have HM := hid (rightP_2 HR.out hk).2.2.2
      clear hk hkk
      clear HRR
      have g0 := E0.out.gc 0 _ rfl
      have g1 := E0.out.gc 1 _ rfl
      have g2 := E0.out.gc 2 _ rfl
      have g3 := E0.out.gc 3 _ rfl
      have g4 := E0.out.gc 4 _ rfl
      have g5 := E0.out.gc 5 _ rfl
      go_wp2_with fail
      refine wp_loop_rounds 7 ?_
      rw [rounds_succ]
      go_wp2_with fail
      refine (clo1 HP.out E0.out (Nat.le_trans HLN.out (by decide))).mono ?_
      rintro e w9 ⟨rfl, h9⟩
      replace HLN := hid (show (lay (hdP p) p.ca 8).length ≤ 32 from Nat.le_trans (lay8_le (hdP p) p.ca) (Nat.add_le_add_right HLN.out 16))
      have E9 := hid h9
      clear h9 E0 g0 hix0
      replace g1 := E9.out.gc 1 _ rfl
      replace g2 := E9.out.gc 2 _ rfl
      replace g3 := E9.out.gc 3 _ rfl
      replace g4 := E9.out.gc 4 _ rfl
      replace g5 := E9.out.gc 5 _ rfl
      go_wp2_with fail
      rw [rounds_succ]
      go_wp2_with fail
      rw [rounds_succ]
      go_wp2_with fail
      rw [rounds_succ]
      go_wp2_with fail
      refine (clo4 HM.out h16 E9.out (Nat.le_trans HLN.out (by decide))).mono ?_
      rintro e w10 ⟨rfl, h10⟩
      replace HLN := hid (show (lay (hdP p) p.ca 8 ++ [p.co]).length ≤ 33 by rw [List.length_append]; exact Nat.add_le_add_right HLN.out 1)
      have E10 := hid h10
      clear h10 E9 g3 hix3 g2 hix2 g1 hix1
      replace g4 := E10.out.gc 4 _ rfl
      replace g5 := E10.out.gc 5 _ rfl
      go_wp2_with fail
      rw [rounds_succ]
      go_wp2_with fail
      refine (clo5 h16 E10.out (Nat.le_trans HLN.out (by decide))).mono ?_
      rintro e w11 ⟨rfl, h11⟩
      replace HLN := hid (show (lay (lay (hdP p) p.ca 8 ++ [p.co]) (un p.n) 8).length ≤ 49 from Nat.le_trans (lay8_le (lay (hdP p) p.ca 8 ++ [p.co]) (un p.n)) (Nat.add_le_add_right HLN.out 16))
      have E11 := hid h11
      clear h11 E10 g4 hix4
      replace g5 := E11.out.gc 5 _ rfl
      go_wp2_with fail
      rw [rounds_succ]
      go_wp2_with fail
      rw [rounds_succ]
      go_wp2_with fail
      obtain ⟨vE, hvE, _⟩ := E11.out.wr
      have HBE := hid E11.out.b
      obtain ⟨ys, hys⟩ : ∃ ys, ys = formP p := ⟨_, rfl⟩
      have hvY : WrW w11 q vE ys := by rw [hys, HF.out]; exact hvE
      have hly : ys.length ≤ 1000 := by
        rw [hys, form_len HP.out HR.out]
        split
        · have := (rightP_1 HR.out (by assumption)).1; omega
        · split <;> omega
      have HYS := hid hys
      have HBY := hid (Bytes_any w11 q vE ys hvY (by omega))
      clear E11 hvE hvY hly hys HLN
      go_wp2_with fail
      refine HBY.out.mono ?_
      rintro e wz ⟨vz, rfl, hz, hbz⟩
      obtain ⟨az, cz, rfl⟩ := own_form hz
      have HZ := hid (owns_low hz HBE.out.size)
      have HBZ := hid (HBE.out.trans (hbz.mono HBE.out.size))
      clear hz hbz HBY
      go_wp2_with fail
      go_ret2
      unfold PEncP
      rw [← HYS.out]
      exact .inl ⟨HR.out, ⟨az, cz, rfl, HZ.out⟩, HBZ.out⟩
    have hk1 := hk
    clear hk
    by_cases hk : p.ki = 3 ∨ p.ki = 4
    · have hR2 : R = [false, true, false, false, true, false] := by rw [HRR.out, rowL, if_neg (by omega), if_neg (by omega), if_pos hk]
      subst hR2
      have HF := hid (show formP p = _ by rw [formP, if_neg (by omega), if_neg (by omega), if_pos hk])
      clear hk hkk
      clear HRR
      have g0 := E0.out.gc 0 _ rfl
      have g1 := E0.out.gc 1 _ rfl
      have g2 := E0.out.gc 2 _ rfl
      have g3 := E0.out.gc 3 _ rfl
      have g4 := E0.out.gc 4 _ rfl
      have g5 := E0.out.gc 5 _ rfl
      go_wp2_with fail
      refine wp_loop_rounds 7 ?_
      rw [rounds_succ]
      go_wp2_with fail
      rw [rounds_succ]
      go_wp2_with fail
      refine (clo2 HP.out.ip E0.out (Nat.le_trans HLN.out (by decide))).mono ?_
      rintro e w9 ⟨rfl, h9⟩
      replace HLN := hid (show (hdP p ++ p.ip).length ≤ 32 by rw [List.length_append, h16]; exact Nat.add_le_add_right HLN.out 16)
      have E9 := hid h9
      clear h9 E0 g1 hix1 g0 hix0
      replace g2 := E9.out.gc 2 _ rfl
      replace g3 := E9.out.gc 3 _ rfl
      replace g4 := E9.out.gc 4 _ rfl
      replace g5 := E9.out.gc 5 _ rfl
      go_wp2_with fail
      rw [rounds_succ]
      go_wp2_with fail
      rw [rounds_succ]
      go_wp2_with fail
      rw [rounds_succ]
      go_wp2_with fail
      refine (clo5 h16 E9.out (Nat.le_trans HLN.out (by decide))).mono ?_
      rintro e w10 ⟨rfl, h10⟩
      replace HLN := hid (show (lay (hdP p ++ p.ip) (un p.n) 8).length ≤ 48 from Nat.le_trans (lay8_le (hdP p ++ p.ip) (un p.n)) (Nat.add_le_add_right HLN.out 16))
      have E10 := hid h10
      clear h10 E9 g4 hix4 g3 hix3 g2 hix2
      replace g5 := E10.out.gc 5 _ rfl
      go_wp2_with fail
      rw [rounds_succ]
      go_wp2_with fail
      rw [rounds_succ]
      go_wp2_with fail
      obtain ⟨vE, hvE, _⟩ := E10.out.wr
      have HBE := hid E10.out.b
      obtain ⟨ys, hys⟩ : ∃ ys, ys = formP p := ⟨_, rfl⟩
      have hvY : WrW w10 q vE ys := by rw [hys, HF.out]; exact hvE
      have hly : ys.length ≤ 1000 := by
        rw [hys, form_len HP.out HR.out]
        split
        · have := (rightP_1 HR.out (by assumption)).1; omega
        · split <;> omega
      have HYS := hid hys
      have HBY := hid (Bytes_any w10 q vE ys hvY (by omega))
      clear E10 hvE hvY hly hys HLN
      go_wp2_with fail
      refine HBY.out.mono ?_
      rintro e wz ⟨vz, rfl, hz, hbz⟩
      obtain ⟨az, cz, rfl⟩ := own_form hz
      have HZ := hid (owns_low hz HBE.out.size)
      have HBZ := hid (HBE.out.trans (hbz.mono HBE.out.size))
      clear hz hbz HBY
      go_wp2_with fail
      go_ret2
      unfold PEncP
      rw [← HYS.out]
      exact .inl ⟨HR.out, ⟨az, cz, rfl, HZ.out⟩, HBZ.out⟩
    have hk2 := hk
    clear hk
    have hk : p.ki = 5 := by omega
    clear hk0 hk1 hk2
    have hR2 : R = [false, false, false, false, false, false] := by rw [HRR.out, rowL, if_neg (by omega), if_neg (by omega), if_neg (by omega)]
    subst hR2
    have HF := hid (show formP p = _ by rw [formP, if_neg (by omega), if_neg (by omega), if_neg (by omega)])
    clear hk hkk
    clear HRR
    have g0 := E0.out.gc 0 _ rfl
    have g1 := E0.out.gc 1 _ rfl
    have g2 := E0.out.gc 2 _ rfl
    have g3 := E0.out.gc 3 _ rfl
    have g4 := E0.out.gc 4 _ rfl
    have g5 := E0.out.gc 5 _ rfl
    go_wp2_with fail
    refine wp_loop_rounds 7 ?_
    rw [rounds_succ]
    go_wp2_with fail
    rw [rounds_succ]
    go_wp2_with fail
    rw [rounds_succ]
    go_wp2_with fail
    rw [rounds_succ]
    go_wp2_with fail
    rw [rounds_succ]
    go_wp2_with fail
    rw [rounds_succ]
    go_wp2_with fail
    rw [rounds_succ]
    go_wp2_with fail
    obtain ⟨vE, hvE, _⟩ := E0.out.wr
    have HBE := hid E0.out.b
    obtain ⟨ys, hys⟩ : ∃ ys, ys = formP p := ⟨_, rfl⟩
    have hvY : WrW w8 q vE ys := by rw [hys, HF.out]; exact hvE
    have hly : ys.length ≤ 1000 := by
      rw [hys, form_len HP.out HR.out]
      split
      · have := (rightP_1 HR.out (by assumption)).1; omega
      · split <;> omega
    have HYS := hid hys
    have HBY := hid (Bytes_any w8 q vE ys hvY (by omega))
    clear E0 hvE hvY hly hys HLN
    go_wp2_with fail
    refine HBY.out.mono ?_
    rintro e wz ⟨vz, rfl, hz, hbz⟩
    obtain ⟨az, cz, rfl⟩ := own_form hz
    have HZ := hid (owns_low hz HBE.out.size)
    have HBZ := hid (HBE.out.trans (hbz.mono HBE.out.size))
    clear hz hbz HBY
    go_wp2_with fail
    go_ret2
    unfold PEncP
    rw [← HYS.out]
    exact .inl ⟨HR.out, ⟨az, cz, rfl, HZ.out⟩, HBZ.out⟩
end Go.Proofs.Ytceeipejhmnkfaa

namespace Go.Proofs.Ytceeipejhmnkfaa
open Go Go.ChangeShapes Go.WideShapes Go.ChangeAt Go.RowKit

def exP : Pk := ⟨5, 0, 1, 2, 0, g0, 0, 0, 0, []⟩
def exB : List Int := [5, 0, 1, 0, 0, 0, 0, 0, 2, 0, 0, 0, 0, 0, 0, 0]
theorem exP_ok : PkOk exP := ⟨⟨by decide, by decide⟩, ⟨by decide, by decide⟩, ⟨by decide, by decide⟩, ⟨by decide, by decide⟩, ⟨by decide, by decide⟩, pkZ_ok.ip, ⟨by decide, by decide⟩, ⟨by decide, by decide⟩, ⟨by decide, by decide⟩, fun x hx => by cases hx⟩
theorem exP_right : rightP exP = true := by decide
set_option maxRecDepth 100000 in
theorem exP_form : formP exP = exB := by decide
theorem exB_byt : Byt exB := by rw [← exP_form]; exact form_byt exP_ok exP_right
theorem exB_dec : decP exB = (exP, true) := by rw [← exP_form]; exact dec_form exP_ok exP_right
set_option maxRecDepth 100000 in
set_option maxHeartbeats 2000000 in
theorem pawake_any (w : World) : Calls Try.prog 7 #[] w fun e w' => e = .returned (.bool true) ∧ Below w.heap.size w w' := by
  obtain ⟨w1, hw1⟩ : ∃ w1, w1 = w.alloc (.cells (pkA pkZ none 0) 28) := ⟨_, rfl⟩
  have hz : InP w1 w.heap.size pkZ none 0 := by rw [hw1]; exact heap_alloc_new _ _
  have hB : Below w.heap.size w w1 := by rw [hw1]; exact (Below.refl _ _).alloc (Nat.le_refl _) _
  obtain ⟨w2, hw2⟩ : ∃ w2, w2 = w1.setRow w.heap.size (pkA exP none 0) := ⟨_, rfl⟩
  have ho2 : InP w2 w.heap.size exP none 0 := by rw [hw2]; exact setRow_heap _ _ _ _ _ _ hz
  have hB2 : Below w.heap.size w w2 := by rw [hw2]; exact below_setRow hB _ _ (Nat.le_refl _)
  have HZ := hid hz
  rw [hw1] at HZ
  have HO2 := hid ho2
  have HB2 := hid hB2
  have HW2 := hid (show w2 = (w.alloc (.cells (pkA pkZ none 0) 28)).setRow w.heap.size (pkA exP none 0) by rw [hw2, hw1])
  have HSZ := hid (szPk (q := exP) rfl none 0)
  have HEN := hid (encode_any exP exP_ok none 0 w2 (RwO.nil _ _) ⟨Nat.le_refl _, by decide⟩)
  clear hw1 hz hB hw2 ho2 hB2
  go_enter Try.func7, Try.ntmps7
  go_upto_region 2 with (first | ((with_reducible refine at_op ⟨none, .store 28 (.tmp 1) (.tmp 6), _, _, _, _⟩ ?_); refine wpList_store_row rfl 28 _ _ rfl w.heap.size (pkA exP none 0) rfl rfl 28 (pkA pkZ none 0) HZ.out HSZ.out rfl (pkA_one _ _ _) ?_) | fail)
  change Code.wp _ _ _ _ ((w.alloc (.cells (pkA pkZ none 0) 28)).setRow w.heap.size (pkA exP none 0))
  rw [← HW2.out]
  go_wp2_with (first | ((with_reducible refine at_op ⟨some 8, _, _, _, _, _⟩ ?_); refine wpList_runW rfl (.agg (pkA exP none 0)) (load_p rfl rfl HO2.out rfl) ?_) | fail)
  refine HEN.out.mono ?_
  rintro e w3 hen
  rcases hen with ⟨_, ⟨a, c, rfl, hown⟩, hb3⟩ | ⟨h0, _⟩
  case inr => exact absurd (exP_right.symm.trans h0) (by decide)
  rw [exP_form] at hown ⊢
  change w3.ownsRow _ _ _ (.slice a 16 c) 16 _ at hown
  have hbs : Bs w3 w3.heap.size a exB := own_bs hown
  have h00 : a = none → c = 0 ∧ 16 = 0 := fun ha => by
    obtain ⟨a', k', hv, hz⟩ := own_form0 hown
    cases hv; exact hz ha
  have HD := hid (pkDecode_any w3 a c 16 exB hbs rfl exB_byt h00 (by decide))
  unfold PDecP at HD
  rw [exB_dec] at HD
  have HBS := hid hbs
  have HB3 := hid (HB2.out.trans (hb3.mono HB2.out.size))
  have HO3 := hid (HO2.out.below hb3)
  clear hbs hown hb3 h00 HEN HW2 HZ HB2 HO2
  rw [show exB.length = 16 from rfl]
  go_wp2_with fail
  refine HD.out.mono ?_
  rintro e w4 ⟨a2, c2, rfl, hro, hcl, hb4⟩
  obtain ⟨w5, hw5⟩ : ∃ w5, w5 = w4.alloc (.cells (pkA pkZ none 0) 28) := ⟨_, rfl⟩
  have hz5 : InP w5 w4.heap.size pkZ none 0 := by rw [hw5]; exact heap_alloc_new _ _
  have hb5 : Below w4.heap.size w4 w5 := by rw [hw5]; exact (Below.refl _ _).alloc (Nat.le_refl _) _
  obtain ⟨w6, hw6⟩ : ∃ w6, w6 = w5.setRow w4.heap.size (pkA exP a2 c2) := ⟨_, rfl⟩
  have ho6 : InP w6 w4.heap.size exP a2 c2 := by rw [hw6]; exact setRow_heap _ _ _ _ _ _ hz5
  have hb6 : Below w4.heap.size w4 w6 := by rw [hw6]; exact below_setRow hb5 _ _ (Nat.le_refl _)
  have hb46 := hb4.trans (hb6.mono hb4.size)
  have HZ5 := hid hz5
  rw [hw5] at HZ5
  have HW6 := hid (show w6 = (w4.alloc (.cells (pkA pkZ none 0) 28)).setRow w4.heap.size (pkA exP a2 c2) by rw [hw6, hw5])
  have HSP := hid (szPk (q := exP) rfl a2 c2)
  obtain ⟨w7, hw7⟩ : ∃ w7, w7 = w6.alloc (.cells (u8s exB) 5) := ⟨_, rfl⟩
  have hr7 : w7.heap[w6.heap.size]? = some (.cells (u8s exB) 5 (0, 0)) := by rw [hw7]; exact heap_alloc_new _ _
  have hb7 : Below w6.heap.size w6 w7 := by rw [hw7]; exact (Below.refl _ _).alloc (Nat.le_refl _) _
  have HSB := hid (SameBytes_any w7 a (some ⟨w6.heap.size, 0, none⟩) c 16 16 16 exB exB rfl rfl (((HBS.out.below hb46).mono hb46.size |>.below hb7).mono hb7.size) ⟨fun _ => ⟨_, _, rfl, lt_of_heap hr7⟩, fun b o he => by cases he; exact AtL.row (cs := u8l exB) hr7⟩ (by decide) (by decide))
  rw [show (exB == exB) = true by simp] at HSB
  have HO7 := hid (HO3.out.below (hb46.trans (hb7.mono hb46.size)))
  have HP7 := hid (ho6.below hb7)
  have HB7 := hid ((HB3.out.trans (hb46.mono HB3.out.size)).trans (hb7.mono (by have := HB3.out.size; have := hb46.size; omega)))
  have HR7 := hid ((hro.on hb6).on hb7)
  have HCL := hid hcl
  have HW7 := hid hw7
  clear hro hcl hb4 hw5 hz5 hb5 hw6 ho6 hb6 hb46 hw7 hr7 hb7 HD HBS HB3 HO3
  go_upto_region 4 with (first | ((with_reducible refine at_op ⟨none, .store 28 (.tmp 4) (.tmp 15), _, _, _, _⟩ ?_); refine wpList_store_row rfl 28 _ _ rfl w4.heap.size (pkA exP a2 c2) rfl rfl 28 (pkA pkZ none 0) HZ5.out HSP.out rfl (pkA_one _ _ _) ?_) | fail)
  change Code.wp _ _ _ _ ((w4.alloc (.cells (pkA pkZ none 0) 28)).setRow w4.heap.size (pkA exP a2 c2))
  rw [← HW6.out]
  go_wp2_with (first
    | ((with_reducible refine at_op ⟨some 25, _, _, _, _, _⟩ ?_); refine wpList_runN rfl (.slice (some ⟨w6.heap.size, 0, none⟩) 16 16) w7 (by rw [HW7.out]; go_simp; rfl) ?_)
    | fail)
  refine HSB.out.mono ?_
  rintro e w8 ⟨rfl, hb8⟩
  have HO8 := hid (HO7.out.below hb8)
  have HP8 := hid (HP7.out.below hb8)
  have HB8 := hid (HB7.out.trans (hb8.mono HB7.out.size))
  have HPS := hid (pkSame_any exP exP exP_ok exP_ok none a2 0 c2 w8 (RwO.nil _ _) (HR7.out.on hb8) ⟨by decide, by decide, by decide, HCL.out.1, by decide, HCL.out.2⟩)
  rw [eqP_self] at HPS
  clear hb8 HSB HO7 HP7 HB7 HR7 HW7 HW6 HZ5
  go_wp2_with (first
    | ((with_reducible refine at_op ⟨some 29, _, _, _, _, _⟩ ?_); refine wpList_runW rfl (.agg (pkA exP none 0)) (load_p rfl rfl HO8.out rfl) ?_)
    | ((with_reducible refine at_op ⟨some 30, _, _, _, _, _⟩ ?_); refine wpList_runW rfl (.agg (pkA exP a2 c2)) (load_p rfl rfl HP8.out rfl) ?_)
    | fail)
  refine HPS.out.mono ?_
  rintro e w9 ⟨rfl, hb9⟩
  have HB9 := hid (HB8.out.trans (hb9.mono HB8.out.size))
  clear hb9 HB8 HPS HO8 HP8
  go_wp2
  go_ret
  exact ⟨rfl, HB9.out⟩
end Go.Proofs.Ytceeipejhmnkfaa
