/-
  The contracts of the program's small readers (layer 6).
-/
import Derived.Test.YtplckmoeaeabgaaVrQ
import Derived.Test.YtplckmoeaeabgaaVpC
import Derived.Test.YtplckmoeaeabgaaWrX
import Derived.Test.YtplckmoeaeabgaaWrRT
namespace Go.Proofs.Ytplckmoeaeabgaa
open Go Go.ChangeShapes Go.WideShapes Go.ChangeAt Go.RowKit

set_option maxRecDepth 100000 in
/-- 'string(b)' of a row of one's own. -/
theorem conv_row (w : World) (B T tk : Nat) (ta : Option Addr) (t : List Int) (hrow : w.ownsRow B 5 1 (.slice ta T tk) T (u8l t)) (hT : T = t.length) (ht : Byt t) : (convert 30 9 (.slice ta T tk)).run Try.prog w = .ok (.string (strI t)) w := by
  obtain ⟨ta', tk', e, h0⟩ := own_form0 hrow
  cases e
  cases ta with
  | none =>
    obtain ⟨rfl, rfl⟩ := h0 rfl
    have : t = [] := List.eq_nil_of_length_eq_zero hT.symm
    subst this
    exact conv_nil w
  | some ta =>
    rw [hT]
    exact run_str_of_row w _ _ _ ta tk t Try.underlying30 Try.underlying5 Try.underlying9 ht (fun j hj => by
      have hbs := own_bs (by rw [hT] at hrow; exact hrow)
      obtain ⟨b, o, he, _⟩ := hbs.some (by omega)
      cases he
      exact hbs.news j _ (u8l_at hj))
set_option maxRecDepth 100000 in
set_option maxHeartbeats 1000000 in
theorem readText_any (w : World) (p a : Nat) (v : Value) (xs : List Int) (h : RdW w p v a xs) (hb : Byt xs) (hl : xs.length ≤ 140737488351232) :
    Calls Try.prog 57 #[.pointer (some ⟨p, 0, none⟩)] w fun e w' => e = .returned (.tuple #[.string (strI (rdT xs a 256).1), .int .i64 (rdT xs a 256).2.2]) ∧ RdW w' p v (rdT xs a 256).2.1 xs ∧ Fr (fun j => j = p) w w' := by
  have HT := hid (RdText_any w p a v xs 256 h hb hl (by omega))
  have htx := rdT_text (a := a) (m := 256) hb
  generalize rdT xs a 256 = r at *
  obtain ⟨t, k, e⟩ := r
  simp only at htx ⊢
  have HTX := hid htx
  obtain ⟨bs, hbs⟩ : ∃ bs, bs = strI t := ⟨_, rfl⟩
  rw [← hbs]
  have HBS := hid hbs
  clear htx h hb hbs
  go_enter Try.func57, Try.ntmps57
  go_wp2_with fail
  refine HT.out.mono ?_
  rintro e w2 ⟨tv, rfl, hrow, hrd, hfr⟩
  simp only at hrow hrd ⊢
  obtain ⟨T, hT⟩ : ∃ T, T = t.length := ⟨_, rfl⟩
  rw [← hT] at hrow
  obtain ⟨ta, tk, rfl⟩ := own_form hrow
  have hcv := conv_row w2 _ T tk ta t hrow hT HTX.out
  rw [← HBS.out] at hcv
  have HRD := hid hrd
  have HFR := hid hfr
  clear hrow hrd hfr hT HTX HT
  go_wp2
  go_ret2
  exact ⟨rfl, HRD.out, HFR.out⟩
def rdC (xs : List Int) (a : Nat) : Int × Nat × Int := if (rd xs a 4).2.2 ≠ 0 then (0, (rd xs a 4).2.1, (rd xs a 4).2.2) else if 64 < (rd xs a 4).1 then (0, (rd xs a 4).2.1, 20) else rd xs a 4
def NPost (w : World) (p : Nat) (v : Value) (xs : List Int) (kd : IntKind) (r : Int × Nat × Int) (e : Ending) (w' : World) : Prop :=
  e = .returned (.tuple #[.int kd r.1, .int .i64 r.2.2]) ∧ RdW w' p v r.2.1 xs ∧ Fr (fun j => j = p) w w'
set_option maxRecDepth 100000 in
set_option maxHeartbeats 1000000 in
theorem readCount_any (w : World) (p a : Nat) (v : Value) (xs : List Int) (h : RdW w p v a xs) (hb : Byt xs) (hl : xs.length ≤ 140737488351232) :
    Calls Try.prog 58 #[.pointer (some ⟨p, 0, none⟩)] w (NPost w p v xs .u64 (rdC xs a)) := by
  have HT := hid (RdNum_any w p a v xs 4 h hb hl)
  obtain ⟨r, hr⟩ : ∃ r, r = rdC xs a := ⟨_, rfl⟩
  rw [← hr]
  unfold rdC at hr
  generalize rd xs a 4 = q at *
  obtain ⟨n, k, e⟩ := q
  simp only at hr HT
  clear h hb
  by_cases he : e = 0
  · subst he
    rw [if_neg (by simp)] at hr
    by_cases h64 : 64 < n
    · rw [if_pos h64] at hr
      have HR := hid hr
      have d1 : decide (64 < n) = true := by simpa using h64
      clear hr h64
      go_enter Try.func58, Try.ntmps58
      go_wp2_with fail
      refine HT.out.mono ?_
      rintro e w2 ⟨rfl, hrd, hfr⟩
      have HRD := hid hrd
      have HFR := hid hfr
      clear hrd hfr HT
      go_wp2
      go_ret2
      obtain rfl := HR.out
      exact ⟨rfl, HRD.out, HFR.out⟩
    · rw [if_neg h64] at hr
      have HR := hid hr
      have d1 : decide (64 < n) = false := by simpa using h64
      clear hr h64
      go_enter Try.func58, Try.ntmps58
      go_wp2_with fail
      refine HT.out.mono ?_
      rintro e w2 ⟨rfl, hrd, hfr⟩
      have HRD := hid hrd
      have HFR := hid hfr
      clear hrd hfr HT
      go_wp2
      go_ret2
      obtain rfl := HR.out
      exact ⟨rfl, HRD.out, HFR.out⟩
  · rw [if_pos he] at hr
    have HR := hid hr
    have d1 : (e != 0) = true := by simpa using he
    clear hr he
    go_enter Try.func58, Try.ntmps58
    go_wp2_with fail
    refine HT.out.mono ?_
    rintro e w2 ⟨rfl, hrd, hfr⟩
    have HRD := hid hrd
    have HFR := hid hfr
    clear hrd hfr HT
    go_wp2
    go_ret2
    obtain rfl := HR.out
    exact ⟨rfl, HRD.out, HFR.out⟩
def rdN (k : Int) (xs : List Int) (a : Nat) : Int × Nat × Int :=
  if k = 1 ∨ k = 2 ∨ k = 3 ∨ k = 5 then
    (if (rd xs a (sizK k)).2.2 ≠ 0 then (0, (rd xs a (sizK k)).2.1, (rd xs a (sizK k)).2.2)
    else if k = 1 ∧ 1 < (rd xs a (sizK k)).1 then (0, (rd xs a (sizK k)).2.1, 5)
    else (numK k (rd xs a (sizK k)).1, (rd xs a (sizK k)).2.1, 0))
  else (0, a, 5)
theorem nmb_bit (n : Int) : nmb 1 n = (decide (n = 0) || decide (n = 1)) := by simp [nmb]
theorem nmb_int {n : Int} (h0 : 0 ≤ n) (h1 : n < 4294967296) : nmb 2 (if 2147483647 < n then n - 4294967296 else n) = true := by
  simp only [nmb]
  rw [if_neg (by omega), if_neg (by omega), if_pos trivial]
  split <;> simp <;> omega
theorem nmb_long {k n : Int} (h : k = 3 ∨ k = 5) : nmb k n = true := by rcases h with rfl | rfl <;> simp [nmb]
theorem wrap32_big {n : Int} (h0 : 0 ≤ n) (h1 : n < 4294967296) : IntKind.i32.wrap n = if 2147483647 < n then n - 4294967296 else n := by
  simp [IntKind.wrap, IntKind.bits, IntKind.signed]
  split <;> split <;> omega
theorem wrap_back {n : Int} (h : -9223372036854775808 ≤ n ∧ n ≤ 9223372036854775807) : IntKind.i64.wrap (IntKind.u64.wrap n) = n := by
  simp [IntKind.wrap, IntKind.bits, IntKind.signed]
  split <;> omega
set_option maxRecDepth 100000 in
set_option maxHeartbeats 4000000 in
theorem readNumber_any (w : World) (p a : Nat) (v : Value) (xs : List Int) (k : Int) (h : RdW w p v a xs) (hb : Byt xs) (hl : xs.length ≤ 140737488351232) :
    Calls Try.prog 59 #[.pointer (some ⟨p, 0, none⟩), .int .i64 k] w (NPost w p v xs .i64 (rdN k xs a)) := by
  have H := hid h
  obtain ⟨r, hr⟩ : ∃ r, r = rdN k xs a := ⟨_, rfl⟩
  rw [← hr]
  unfold rdN at hr
  by_cases k1 : k = 1
  · subst k1
    rw [if_pos (by decide)] at hr
    have HT := hid (RdNum_any w p a v xs 1 h hb hl)
    have hps := rd_pos (a := a) (s := 1) hb
    have hle4 := rd_le4 (a := a) hb
    have her := rd_err (xs := xs) (a := a) (s := 1)
    rw [show sizK 1 = 1 from rfl] at hr
    generalize rd xs a 1 = q at *
    obtain ⟨n, j, e⟩ := q
    simp only at hr HT hps her
    obtain ⟨hn0, hn1⟩ := hps
    clear h hb
    by_cases he : e = 0
    · subst he
      rw [if_neg (by simp)] at hr
      have hw : ∀ m : Int, n = m → m ≤ 1 → IntKind.i64.wrap n = n := fun m e h => IntWalk.i64_in _ (by omega)
      by_cases hbig : 1 < n
      · rw [if_pos (by simpa using hbig)] at hr
        have HR := hid hr
        obtain ⟨z, hz⟩ : ∃ z, z = IntKind.i64.wrap n := ⟨_, rfl⟩
        have hz1 : z ≠ 0 ∧ z ≠ 1 := by rw [hz, wrap_i64_big hn0 hn1]; split <;> omega
        have HNM := hid (fun W => numberMayBe_any W 1 z)
        rw [nmb_bit, show (decide (z = 0) || decide (z = 1)) = false by simp [hz1.1, hz1.2]] at HNM
        have hw2 : IntKind.i64.wrap n = z := hz.symm
        clear hr hbig hz hz1 hw hle4 her
        go_enter Try.func59, Try.ntmps59
        go_wp2_with fail
        refine HT.out.mono ?_
        rintro e w2 ⟨rfl, hrd, hfr⟩
        have HRD := hid hrd
        have HFR := hid hfr
        clear hrd hfr HT
        go_wp2_with fail
        refine (HNM.out _).mono ?_
        rintro e w3 ⟨rfl, rfl⟩
        go_wp2
        go_ret2
        obtain rfl := HR.out
        exact ⟨rfl, HRD.out, HFR.out⟩
      · rw [if_neg (by omega)] at hr
        have HR := hid hr
        have hw2 := hw n rfl (by omega)
        have HNM := hid (fun W => numberMayBe_any W 1 n)
        rw [nmb_bit, show (decide (n = 0) || decide (n = 1)) = true by simp; omega] at HNM
        clear hr hbig hw hle4 her
        go_enter Try.func59, Try.ntmps59
        go_wp2_with fail
        refine HT.out.mono ?_
        rintro e w2 ⟨rfl, hrd, hfr⟩
        have HRD := hid hrd
        have HFR := hid hfr
        clear hrd hfr HT
        go_wp2_with fail
        refine (HNM.out _).mono ?_
        rintro e w3 ⟨rfl, rfl⟩
        go_wp2
        go_ret2
        obtain rfl := HR.out
        exact ⟨rfl, HRD.out, HFR.out⟩
    · rw [if_pos he] at hr
      have HR := hid hr
      have d1 : (e != 0) = true := by simpa using he
      obtain ⟨rfl, _⟩ := her he
      clear hr he hle4 hn0 hn1
      go_enter Try.func59, Try.ntmps59
      go_wp2_with fail
      refine HT.out.mono ?_
      rintro e w2 ⟨rfl, hrd, hfr⟩
      have HRD := hid hrd
      have HFR := hid hfr
      clear hrd hfr HT
      go_wp2
      go_ret2
      obtain rfl := HR.out
      exact ⟨rfl, HRD.out, HFR.out⟩
  by_cases k2 : k = 2
  · subst k2
    rw [if_pos (by decide)] at hr
    have HT := hid (RdNum_any w p a v xs 4 h hb hl)
    have hps := rd_pos (a := a) (s := 4) hb
    have hle4 := rd_le4 (a := a) hb
    have her := rd_err (xs := xs) (a := a) (s := 4)
    rw [show sizK 2 = 4 from rfl] at hr
    generalize rd xs a 4 = q at *
    obtain ⟨n, j, e⟩ := q
    simp only at hr HT hps her
    obtain ⟨hn0, hn1⟩ := hps
    clear h hb
    by_cases he : e = 0
    · subst he
      rw [if_neg (by simp)] at hr
      rw [if_neg (by simp)] at hr
      have hw1 := wrap32_big hn0 hle4
      have hnm := nmb_int hn0 hle4
      rw [show numK 2 n = (if 2147483647 < n then n - 4294967296 else n) from rfl] at hr
      obtain ⟨z, hz⟩ : ∃ z, z = (if 2147483647 < n then n - 4294967296 else n) := ⟨_, rfl⟩
      rw [← hz] at hw1 hnm hr
      have hzr : -9223372036854775808 ≤ z ∧ z ≤ 9223372036854775807 := by rw [hz]; split <;> omega
      obtain ⟨u, hu⟩ : ∃ u, u = IntKind.u64.wrap z := ⟨_, rfl⟩
      have hw3 : IntKind.i64.wrap u = z := by rw [hu]; exact wrap_back hzr
      have hw2 : IntKind.u64.wrap z = u := hu.symm
      have HR := hid hr
      have HNM := hid (fun W => numberMayBe_any W 2 z)
      rw [hnm] at HNM
      clear hr hnm hz hzr hu hle4 her hn0 hn1
      go_enter Try.func59, Try.ntmps59
      go_wp2_with fail
      refine HT.out.mono ?_
      rintro e w2 ⟨rfl, hrd, hfr⟩
      have HRD := hid hrd
      have HFR := hid hfr
      clear hrd hfr HT
      go_wp2_with fail
      refine (HNM.out _).mono ?_
      rintro e w3 ⟨rfl, rfl⟩
      go_wp2
      go_ret2
      obtain rfl := HR.out
      exact ⟨rfl, HRD.out, HFR.out⟩
    · rw [if_pos he] at hr
      have HR := hid hr
      have d1 : (e != 0) = true := by simpa using he
      obtain ⟨rfl, _⟩ := her he
      clear hr he hle4 hn0 hn1
      go_enter Try.func59, Try.ntmps59
      go_wp2_with fail
      refine HT.out.mono ?_
      rintro e w2 ⟨rfl, hrd, hfr⟩
      have HRD := hid hrd
      have HFR := hid hfr
      clear hrd hfr HT
      go_wp2
      go_ret2
      obtain rfl := HR.out
      exact ⟨rfl, HRD.out, HFR.out⟩
  by_cases k3 : k = 3
  · subst k3
    rw [if_pos (by decide)] at hr
    have HT := hid (RdNum_any w p a v xs 8 h hb hl)
    have hps := rd_pos (a := a) (s := 8) hb
    have hle4 := rd_le4 (a := a) hb
    have her := rd_err (xs := xs) (a := a) (s := 8)
    rw [show sizK 3 = 8 from rfl] at hr
    generalize rd xs a 8 = q at *
    obtain ⟨n, j, e⟩ := q
    simp only at hr HT hps her
    obtain ⟨hn0, hn1⟩ := hps
    clear h hb
    by_cases he : e = 0
    · subst he
      rw [if_neg (by simp)] at hr
      rw [if_neg (by simp)] at hr
      have hw2 := wrap_i64_big hn0 hn1
      rw [show numK 3 n = (if n < 9223372036854775808 then n else n - 18446744073709551616) from rfl, ← hw2] at hr
      obtain ⟨z, hz⟩ : ∃ z, z = IntKind.i64.wrap n := ⟨_, rfl⟩
      rw [← hz] at hr
      have hw3 : IntKind.i64.wrap n = z := hz.symm
      have HR := hid hr
      have HNM := hid (fun W => numberMayBe_any W 3 z)
      rw [nmb_long (by decide)] at HNM
      clear hr hw2 hz hle4 her hn0 hn1
      go_enter Try.func59, Try.ntmps59
      go_wp2_with fail
      refine HT.out.mono ?_
      rintro e w2 ⟨rfl, hrd, hfr⟩
      have HRD := hid hrd
      have HFR := hid hfr
      clear hrd hfr HT
      go_wp2_with fail
      refine (HNM.out _).mono ?_
      rintro e w3 ⟨rfl, rfl⟩
      go_wp2
      go_ret2
      obtain rfl := HR.out
      exact ⟨rfl, HRD.out, HFR.out⟩
    · rw [if_pos he] at hr
      have HR := hid hr
      have d1 : (e != 0) = true := by simpa using he
      obtain ⟨rfl, _⟩ := her he
      clear hr he hle4 hn0 hn1
      go_enter Try.func59, Try.ntmps59
      go_wp2_with fail
      refine HT.out.mono ?_
      rintro e w2 ⟨rfl, hrd, hfr⟩
      have HRD := hid hrd
      have HFR := hid hfr
      clear hrd hfr HT
      go_wp2
      go_ret2
      obtain rfl := HR.out
      exact ⟨rfl, HRD.out, HFR.out⟩
  by_cases k5 : k = 5
  · subst k5
    rw [if_pos (by decide)] at hr
    have HT := hid (RdNum_any w p a v xs 8 h hb hl)
    have hps := rd_pos (a := a) (s := 8) hb
    have hle4 := rd_le4 (a := a) hb
    have her := rd_err (xs := xs) (a := a) (s := 8)
    rw [show sizK 5 = 8 from rfl] at hr
    generalize rd xs a 8 = q at *
    obtain ⟨n, j, e⟩ := q
    simp only at hr HT hps her
    obtain ⟨hn0, hn1⟩ := hps
    clear h hb
    by_cases he : e = 0
    · subst he
      rw [if_neg (by simp)] at hr
      rw [if_neg (by simp)] at hr
      have hw2 := wrap_i64_big hn0 hn1
      rw [show numK 5 n = (if n < 9223372036854775808 then n else n - 18446744073709551616) from rfl, ← hw2] at hr
      obtain ⟨z, hz⟩ : ∃ z, z = IntKind.i64.wrap n := ⟨_, rfl⟩
      rw [← hz] at hr
      have hw3 : IntKind.i64.wrap n = z := hz.symm
      have HR := hid hr
      have HNM := hid (fun W => numberMayBe_any W 5 z)
      rw [nmb_long (by decide)] at HNM
      clear hr hw2 hz hle4 her hn0 hn1
      go_enter Try.func59, Try.ntmps59
      go_wp2_with fail
      refine HT.out.mono ?_
      rintro e w2 ⟨rfl, hrd, hfr⟩
      have HRD := hid hrd
      have HFR := hid hfr
      clear hrd hfr HT
      go_wp2_with fail
      refine (HNM.out _).mono ?_
      rintro e w3 ⟨rfl, rfl⟩
      go_wp2
      go_ret2
      obtain rfl := HR.out
      exact ⟨rfl, HRD.out, HFR.out⟩
    · rw [if_pos he] at hr
      have HR := hid hr
      have d1 : (e != 0) = true := by simpa using he
      obtain ⟨rfl, _⟩ := her he
      clear hr he hle4 hn0 hn1
      go_enter Try.func59, Try.ntmps59
      go_wp2_with fail
      refine HT.out.mono ?_
      rintro e w2 ⟨rfl, hrd, hfr⟩
      have HRD := hid hrd
      have HFR := hid hfr
      clear hrd hfr HT
      go_wp2
      go_ret2
      obtain rfl := HR.out
      exact ⟨rfl, HRD.out, HFR.out⟩
  rw [if_neg (by omega)] at hr
  have HR := hid hr
  have b1 : (k == 1) = false := by simpa using k1
  have b2 : (k == 2) = false := by simpa using k2
  have b3 : (k == 3) = false := by simpa using k3
  have b5 : (k == 5) = false := by simpa using k5
  clear hr k1 k2 k3 k5 h hb
  go_enter Try.func59, Try.ntmps59
  go_wp2
  go_ret2
  obtain rfl := HR.out
  exact ⟨rfl, H.out, Fr.refl _ _⟩
end Go.Proofs.Ytplckmoeaeabgaa
