/-
  The contract of variant.Decode.
-/
import Derived.Test.YtplckmoeaeabgaaVpD
import Derived.Test.YtplckmoeaeabgaaWrE
namespace Go.Proofs.Ytplckmoeaeabgaa
open Go Go.ChangeShapes Go.WideShapes Go.ChangeAt Go.RowKit

/-- The value whose form bytes are, and the error. -/
def decV (b : List Int) : Vr × Int :=
  if (rdVr 8 b 0).2.2 ≠ 0 then (none0, (rdVr 8 b 0).2.2) else if (rdVr 8 b 0).2.1 ≠ b.length then (none0, 5) else ((rdVr 8 b 0).1, 0)
set_option maxRecDepth 100000 in
theorem dec_ret {Q : Ending → World → Prop} {tmps : Array Value} {W : World} {b : Nat} {c0 c1 c2 c3 u : Value} {fz : Nat × Nat} (h6 : tmps.getD 2 undef = .pointer (some ⟨b, 0, none⟩)) (h7 : tmps.getD 3 undef = u)
    (h : W.heap[b]? = some (.cells #[c0, c1, c2, c3] 24 fz)) (hq : Q (.returned (.tuple #[.agg #[c0, c1, c2, c3], u])) W) : bodyPost Try.prog Try.f16 Q Exit.ret { tmps := tmps, defers := [] } W := by
  refine bodyPost_ret (a := { tmps := tmps, defers := [] }) (v := .tuple #[.agg #[c0, c1, c2, c3], u]) ?_ rfl hq
  rw [results_cell_tmp1 (fn := Try.f16) rfl, h6, h7]
  have := load_var W b c0 c1 c2 c3 fz h
  simp [asAddr, this, Result.andThen]
def PDecPost (w : World) (r : Vr × Int) (e : Ending) (w' : World) : Prop :=
  ∃ ck cn cb ca cl cc, e = .returned (.tuple #[.agg #[.int .i64 ck, .int .i64 cn, .string cb, .slice ca cl cc], .int .i64 r.2]) ∧ VS w' (fun b => w.heap.size ≤ b ∧ b < w'.heap.size) r.1 [.int .i64 ck, .int .i64 cn, .string cb, .slice ca cl cc] ∧ Below w.heap.size w w'
set_option maxHeartbeats 4000000 in
set_option maxRecDepth 100000 in
theorem PDecode_any (w : World) (ad : Option Addr) (ka n : Nat) (xs : List Int) (hn : n = xs.length) (ha : Bs w w.heap.size ad xs) (h0 : ad = none → ka = 0 ∧ n = 0) (hby : Byt xs) (hl : xs.length ≤ 140737488351232) :
    Calls Try.prog 16 #[.slice ad n ka] w (PDecPost w (decV xs)) := by
  have hb1 : Below w.heap.size w (w.alloc (.cells #[.int .i64 0, .int .i64 0, .string ⟨#[]⟩, .slice none 0 0] 24)) := (Below.refl _ w).alloc (Nat.le_refl _) _
  have HN := hid (NewReader_any (w.alloc (.cells #[.int .i64 0, .int .i64 0, .string ⟨#[]⟩, .slice none 0 0] 24)) ad ka n xs hn ((ha.below hb1).mono hb1.size) h0 (by omega))
  have HB1 := hid hb1
  have HR1 := hid (heap_alloc_new w (.cells #[.int .i64 0, .int .i64 0, .string ⟨#[]⟩, .slice none 0 0] 24))
  have HRD := hid (fun W p v (hW : RdW W p v 0 xs) => PRead_any 8 W p 0 v xs (Nat.le_refl _) hW hby hl)
  rw [show (9 - ((8 : Nat) : Int)) = 1 by omega] at HRD
  have HEND := hid (fun W p a v (hW : RdW W p v a xs) => End_any W p a v xs hW (by omega))
  obtain ⟨r, hr⟩ : ∃ r, r = decV xs := ⟨_, rfl⟩
  rw [← hr]
  unfold decV at hr
  generalize rdVr 8 xs 0 = q at *
  obtain ⟨x, j, e⟩ := q
  simp only at hr
  have HR := hid hr
  clear hb1 ha h0 hn hby hr
  go_enter Try.func16, Try.ntmps16
  go_wp2_with fail
  refine HN.out.mono ?_
  rintro e1 w2 ⟨p, v, rfl, hrd2, hb2, hpl, hvl⟩
  have HR2 := hid ((hb2.block _ (lt_of_heap HR1.out)).trans HR1.out)
  have HB2 := hid (HB1.out.trans (hb2.mono HB1.out.size))
  have HRD2 := hid hrd2
  have hpl2 : w.heap.size < p := by have := HB1.out.size; simp at hpl; omega
  clear hrd2 hb2 hpl hvl HN
  go_wp2_with fail
  refine (HRD.out w2 p v HRD2.out).mono ?_
  rintro e1 w3 ⟨ck, cn, cb, ca, cl, cc, rfl, hf3, ⟨j3, hrd3, hj3⟩, hx3⟩
  simp only at hj3 hx3 ⊢
  have hb3 : Below w.heap.size w2 w3 := hf3.below HB2.out.size (fun k hk => by omega)
  have hR3 := HRD2.out.heap hf3 HR2.out (by decide)
  have hs23 := hf3.size
  have hs2 := HB2.out.size
  obtain ⟨pR, hpR⟩ : ∃ pR, pR = w.heap.size := ⟨_, rfl⟩
  rw [← hpR] at hR3 ⊢
  have hbb : Below w.heap.size w (w3.alloc (.cells #[.int .i64 ck, .int .i64 cn, .string cb, .slice ca cl cc] 24)) := (HB2.out.trans hb3).alloc (by omega) _
  have hx4 : e = 0 → VS (w3.alloc (.cells #[.int .i64 ck, .int .i64 cn, .string cb, .slice ca cl cc] 24)) (fun b => w.heap.size < b ∧ b < (w3.alloc (.cells #[.int .i64 ck, .int .i64 cn, .string cb, .slice ca cl cc] 24)).heap.size) x [.int .i64 ck, .int .i64 cn, .string cb, .slice ca cl cc] := fun he =>
    VS.weak (fun b hb => ⟨by have := HRD2.out.lt; omega, by simp; omega⟩) (VS.of_blocks (fun b hb => Below.heap_alloc w3 _ b hb.2) (hx3 he))
  have hr4 := heap_keep (.cells #[.int .i64 ck, .int .i64 cn, .string cb, .slice ca cl cc] 24) hR3
  have hv4 := heap_alloc_new w3 (.cells #[.int .i64 ck, .int .i64 cn, .string cb, .slice ca cl cc] 24)
  have hrd4 := hrd3.alloc (.cells #[.int .i64 ck, .int .i64 cn, .string cb, .slice ca cl cc] 24)
  have hlw : w.heap.size < w3.heap.size := by have := HRD2.out.lt; omega
  obtain ⟨w4, hw4⟩ : ∃ w4, w4 = w3.alloc (.cells #[.int .i64 ck, .int .i64 cn, .string cb, .slice ca cl cc] 24) := ⟨_, rfl⟩
  obtain ⟨pV, hpV⟩ : ∃ pV, pV = w3.heap.size := ⟨_, rfl⟩
  rw [← hw4] at hbb hx4 hr4 hv4 hrd4
  rw [← hpV] at hv4
  have hneV : pV ≠ pR := by omega
  have HBB := hid hbb
  have HX4 := hid hx4
  have HR4 := hid hr4
  have HV4 := hid hv4
  have HRD4 := hid hrd4
  have HJ3 := hid hj3
  have HPR := hid hpR
  have HW4 := hid hw4
  have HPV := hid hpV
  clear hbb hx4 hr4 hv4 hrd4 hj3 hx3 hf3 hrd3 hb3 hR3 hs23 hs2 hlw hw4 hpV hpR HR2 HB2 HRD2 HR1 HB1
  rename_i K3 h3 K2 h2
  have H3 := hid h3
  clear h3
  go_wp2
  rw [← HW4.out, ← HPV.out]
  clear HW4 HPV HRD
  refine H3.out _ _ ?_
  clear H3
  by_cases he : e = 0
  · subst he
    have hr := HR.out
    rw [if_neg (by simp)] at hr
    obtain rfl := HJ3.out rfl
    have HX4' := hid (HX4.out rfl)
    have HR0 := hid hr
    clear HR HX4 HJ3 hr
    go_wp2_with fail
    refine (HEND.out w4 p j3 v HRD4.out).mono ?_
    rintro e1 w5 ⟨rfl, hb5⟩
    have HR5 := hid ((hb5.block pR (lt_of_heap HR4.out)).trans HR4.out)
    have HV5 := hid ((hb5.block pV (lt_of_heap HV4.out)).trans HV4.out)
    have HB5 := hid (HBB.out.trans (hb5.mono HBB.out.size))
    have HX5 := hid (VS.weak (S' := fun b => w.heap.size < b ∧ b < w5.heap.size) (fun b hb => ⟨hb.1, Nat.lt_of_lt_of_le hb.2 hb5.size⟩) (VS.of_blocks (fun b hb => hb5.block b hb.2) HX4'.out))
    obtain ⟨v0, v1, v2, v3⟩ := box_cells HV5.out
    clear hb5
    have hr := HR0.out
    clear HR0
    by_cases hjl : j3 = xs.length
    · rw [if_neg (by simpa using hjl)] at hr
      have HR := hid hr
      have hec : endC j3 xs.length = 0 := if_pos hjl
      rw [hec]
      clear hr hjl hec HX4' HR4 HV4 HBB HRD4
      obtain ⟨r0, r1, r2, r3⟩ := box_cells HR5.out
      have zR := fun k => frozen_of_row _ pR k _ _ HR5.out
      have hbF : Below w.heap.size w (put4 w5 pR (.int .i64 ck) (.int .i64 cn) (.string cb) (.slice ca cl cc)) := HB5.out.trans ((put4_fr w5 pR (.int .i64 ck) (.int .i64 cn) (.string cb) (.slice ca cl cc)).below HB5.out.size (fun k hk => by have := HPR.out; omega))
      have hhF := put4_heap (c0 := (.int .i64 ck)) (c1 := (.int .i64 cn)) (c2 := (.string cb)) (c3 := (.slice ca cl cc)) HR5.out
      have HBF := hid hbF
      have HHF := hid hhF
      clear hbF hhF
      go_wp2
      refine dec_ret rfl rfl HHF.out ?_
      obtain rfl := HR.out
      refine ⟨_, _, _, _, _, _, rfl, ?_, HBF.out⟩
      exact VS.weak (fun b hb => ⟨Nat.le_of_lt hb.1, Nat.lt_of_lt_of_le hb.2 (put4_fr w5 pR _ _ _ _).size⟩) (VS.of_blocks (fun b hb => (put4_fr w5 pR _ _ _ _).block b hb.2 (fun e => by have := HPR.out; have := hb.1; omega)) HX5.out)
    · rw [if_pos (by simpa using hjl)] at hr
      have HR := hid hr
      have hec : endC j3 xs.length = 5 := if_neg hjl
      rw [hec]
      clear hr hjl hec HX4' HR4 HV4 HBB HRD4
      obtain ⟨r0, r1, r2, r3⟩ := box_cells HR5.out
      have zR := fun k => frozen_of_row _ pR k _ _ HR5.out
      have hbF : Below w.heap.size w (put4 w5 pR (.int .i64 0) (.int .i64 0) (.string ⟨#[]⟩) (.slice none 0 0)) := HB5.out.trans ((put4_fr w5 pR (.int .i64 0) (.int .i64 0) (.string ⟨#[]⟩) (.slice none 0 0)).below HB5.out.size (fun k hk => by have := HPR.out; omega))
      have hhF := put4_heap (c0 := (.int .i64 0)) (c1 := (.int .i64 0)) (c2 := (.string ⟨#[]⟩)) (c3 := (.slice none 0 0)) HR5.out
      have HBF := hid hbF
      have HHF := hid hhF
      clear hbF hhF
      go_wp2
      refine dec_ret rfl rfl HHF.out ?_
      obtain rfl := HR.out
      exact ⟨_, _, _, _, _, _, rfl, none_in _ _, HBF.out⟩
  · have hr := HR.out
    rw [if_pos he] at hr
    clear HR
    have HR := hid hr
    have d1 : (e == 0) = false := by simpa using he
    have d2 : (e != 0) = true := by simpa using he
    clear hr he
    obtain ⟨v0, v1, v2, v3⟩ := box_cells HV4.out
    obtain ⟨r0, r1, r2, r3⟩ := box_cells HR4.out
    have zR := fun k => frozen_of_row _ pR k _ _ HR4.out
    have hbF : Below w.heap.size w (put4 w4 pR (.int .i64 0) (.int .i64 0) (.string ⟨#[]⟩) (.slice none 0 0)) := HBB.out.trans ((put4_fr w4 pR (.int .i64 0) (.int .i64 0) (.string ⟨#[]⟩) (.slice none 0 0)).below HBB.out.size (fun k hk => by have := HPR.out; omega))
    have hhF := put4_heap (c0 := (.int .i64 0)) (c1 := (.int .i64 0)) (c2 := (.string ⟨#[]⟩)) (c3 := (.slice none 0 0)) HR4.out
    have HBF := hid hbF
    have HHF := hid hhF
    clear hbF hhF
    go_wp2
    refine dec_ret rfl rfl HHF.out ?_
    obtain rfl := HR.out
    exact ⟨_, _, _, _, _, _, rfl, none_in _ _, HBF.out⟩
end Go.Proofs.Ytplckmoeaeabgaa
