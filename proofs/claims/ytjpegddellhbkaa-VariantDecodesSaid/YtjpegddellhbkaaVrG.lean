/-
  The contract of the plain twin's Decode (layer 6).
-/
import Derived.Test.YtjpegddellhbkaaVrR
import Derived.Test.YtjpegddellhbkaaVpF
namespace Go.Proofs.Ytjpegddellhbkaa
open Go Go.ChangeShapes Go.WideShapes Go.ChangeAt Go.RowKit

set_option maxRecDepth 100000 in
theorem rdec_ret {Q : Ending → World → Prop} {tmps : Array Value} {W : World} {b : Nat} {c0 c1 c2 c3 u : Value} {fz : Nat × Nat} (h6 : tmps.getD 2 undef = .pointer (some ⟨b, 0, none⟩)) (h7 : tmps.getD 3 undef = u)
    (h : W.heap[b]? = some (.cells #[c0, c1, c2, c3] 24 fz)) (hq : Q (.returned (.tuple #[.agg #[c0, c1, c2, c3], u])) W) : bodyPost Try.prog Try.f17 Q Exit.ret { tmps := tmps, defers := [] } W := by
  refine bodyPost_ret (a := { tmps := tmps, defers := [] }) (v := .tuple #[.agg #[c0, c1, c2, c3], u]) ?_ rfl hq
  rw [results_cell_tmp1 (fn := Try.f17) rfl, h6, h7]
  have := load_var W b c0 c1 c2 c3 fz h
  simp [asAddr, this, Result.andThen]
set_option maxHeartbeats 4000000 in
set_option maxRecDepth 100000 in
theorem RDecode_any (w : World) (ad : Option Addr) (cap L : Nat) (xs : List Int) (hL : L = xs.length) (hbs : Bs w w.heap.size ad xs) (hby : Byt xs) (hl : xs.length ≤ 140737488351232) (hc : L ≤ cap) (hc2 : cap ≤ 9223372036854775807) :
    Calls Try.prog 17 #[.slice ad L cap] w (PDecPost w (decV xs)) := by
  have hb1 : Below w.heap.size w (w.alloc (.cells #[.int .i64 0, .int .i64 0, .string ⟨#[]⟩, .slice none 0 0] 24)) := (Below.refl _ w).alloc (Nat.le_refl _) _
  have HRD := hid (Read_any6 8 (w.alloc (.cells #[.int .i64 0, .int .i64 0, .string ⟨#[]⟩, .slice none 0 0] 24)) ad cap L 0 xs (Nat.le_refl _) ((hbs.below hb1).mono hb1.size) hL hby (by omega) (Nat.zero_le _) hc hc2)
  rw [show (9 - ((8 : Nat) : Int)) = 1 by omega] at HRD
  have HB1 := hid hb1
  have HR1 := hid (heap_alloc_new w (.cells #[.int .i64 0, .int .i64 0, .string ⟨#[]⟩, .slice none 0 0] 24))
  have hinv := fun v k h => rdVr_inv 8 xs hby 0 v k (Nat.zero_le _) h
  obtain ⟨r, hr⟩ : ∃ r, r = decV xs := ⟨_, rfl⟩
  rw [← hr]
  unfold decV at hr
  generalize rdVr 8 xs 0 = q at *
  obtain ⟨x, j, e⟩ := q
  simp only at hr
  have hjl : e = 0 → j ≤ xs.length := fun he => by subst he; exact (hinv x j rfl).2.2.2.1
  have HJL := hid hjl
  have HR := hid hr
  have HL := hid hL
  clear hb1 hbs hL hby hr hinv hjl
  go_enter Try.func17, Try.ntmps17
  go_wp2_with fail
  refine HRD.out.mono ?_
  rintro e1 w3 ⟨cs, rfl, hx3, hb3⟩
  simp only at hx3
  obtain ⟨ck, cn, cb, ca, cl, cc, rfl⟩ := VS.cells' hx3
  have hR3 := (hb3.block _ (lt_of_heap HR1.out)).trans HR1.out
  have hbb := HB1.out.trans (hb3.mono HB1.out.size)
  have hx4 : VS (w3.alloc (.cells #[.int .i64 ck, .int .i64 cn, .string cb, .slice ca cl cc] 24)) (fun b => w.heap.size < b ∧ b < (w3.alloc (.cells #[.int .i64 ck, .int .i64 cn, .string cb, .slice ca cl cc] 24)).heap.size) x [.int .i64 ck, .int .i64 cn, .string cb, .slice ca cl cc] :=
    VS.weak (fun b hb => ⟨by have := hb.1; simp at this; omega, by have := hb.2; simp; omega⟩) (VS.of_blocks (fun b hb => Below.heap_alloc w3 _ b hb.2) hx3)
  have hr4 := heap_keep (.cells #[.int .i64 ck, .int .i64 cn, .string cb, .slice ca cl cc] 24) hR3
  have hv4 := heap_alloc_new w3 (.cells #[.int .i64 ck, .int .i64 cn, .string cb, .slice ca cl cc] 24)
  have hb4 := hbb.alloc hbb.size (.cells #[.int .i64 ck, .int .i64 cn, .string cb, .slice ca cl cc] 24)
  obtain ⟨pR, hpR⟩ : ∃ pR, pR = w.heap.size := ⟨_, rfl⟩
  obtain ⟨w4, hw4⟩ : ∃ w4, w4 = w3.alloc (.cells #[.int .i64 ck, .int .i64 cn, .string cb, .slice ca cl cc] 24) := ⟨_, rfl⟩
  obtain ⟨pV, hpV⟩ : ∃ pV, pV = w3.heap.size := ⟨_, rfl⟩
  rw [← hpR] at hr4 ⊢
  rw [← hw4] at hx4 hr4 hv4 hb4
  rw [← hpV] at hv4
  have HX4 := hid hx4
  have HR4 := hid hr4
  have HV4 := hid hv4
  have HB4 := hid hb4
  have HPR := hid hpR
  have HW4 := hid hw4
  have HPV := hid hpV
  clear hx3 hb3 hR3 hbb hx4 hr4 hv4 hb4 hpR hw4 hpV HR1 HB1
  rename_i K3 h3 K2 h2
  have H3 := hid h3
  clear h3
  go_wp2
  rw [← HW4.out, ← HPV.out]
  refine H3.out _ _ ?_
  clear H3 HW4 HPV HRD
  obtain ⟨v0, v1, v2, v3⟩ := box_cells HV4.out
  obtain ⟨r0, r1, r2, r3⟩ := box_cells HR4.out
  have zR := fun k => frozen_of_row _ pR k _ _ HR4.out
  have HFR := hid (fun c0 c1 c2 c3 => show Below w.heap.size w (put4 w4 pR c0 c1 c2 c3) from HB4.out.trans ((put4_fr w4 pR c0 c1 c2 c3).below HB4.out.size (fun k hk => by have := HPR.out; omega)))
  have HHF := hid (fun c0 c1 c2 c3 => put4_heap (c0 := c0) (c1 := c1) (c2 := c2) (c3 := c3) HR4.out)
  by_cases he : e = 0
  · subst he
    have hjl := HJL.out rfl
    have hr := HR.out
    rw [if_neg (by simp)] at hr
    clear HR HJL
    by_cases hj : j = xs.length
    · rw [if_neg (by simpa using hj)] at hr
      have HR := hid hr
      have dj : decide ((j : Int) < (L : Int)) = false := by have := HL.out; simp; omega
      have dj2 : decide (j < L) = false := by have := HL.out; simp; omega
      clear hr hj hjl
      go_wp2
      refine rdec_ret rfl rfl (HHF.out _ _ _ _) ?_
      obtain rfl := HR.out
      refine ⟨_, _, _, _, _, _, rfl, ?_, HFR.out _ _ _ _⟩
      exact VS.weak (fun b hb => ⟨Nat.le_of_lt hb.1, Nat.lt_of_lt_of_le hb.2 (put4_fr w4 pR _ _ _ _).size⟩) (VS.of_blocks (fun b hb => (put4_fr w4 pR _ _ _ _).block b hb.2 (fun e => by have := HPR.out; have := hb.1; omega)) HX4.out)
    · rw [if_pos (by simpa using hj)] at hr
      have HR := hid hr
      have dj : decide ((j : Int) < (L : Int)) = true := by have := HL.out; simp; omega
      have dj2 : decide (j < L) = true := by have := HL.out; simp; omega
      clear hr hj hjl
      go_wp2
      refine rdec_ret rfl rfl (HHF.out _ _ _ _) ?_
      obtain rfl := HR.out
      exact ⟨_, _, _, _, _, _, rfl, none_in _ _, HFR.out _ _ _ _⟩
  · have hr := HR.out
    rw [if_pos he] at hr
    clear HR HJL
    have HR := hid hr
    have d1 : (e == 0) = false := by simpa using he
    have d2 : (e != 0) = true := by simpa using he
    clear hr he
    go_wp2
    refine rdec_ret rfl rfl (HHF.out _ _ _ _) ?_
    obtain rfl := HR.out
    exact ⟨_, _, _, _, _, _, rfl, none_in _ _, HFR.out _ _ _ _⟩
end Go.Proofs.Ytjpegddellhbkaa
