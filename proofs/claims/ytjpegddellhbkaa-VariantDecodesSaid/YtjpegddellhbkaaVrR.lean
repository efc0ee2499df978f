/-
  The contract of the plain twin's Read (layer 6).
-/
import Derived.Test.YtjpegddellhbkaaVrL
namespace Go.Proofs.Ytjpegddellhbkaa
open Go Go.ChangeShapes Go.WideShapes Go.ChangeAt Go.RowKit

def ReadAll (m : Nat) : Prop := ∀ (w : World) (ad : Option Addr) (cap L a : Nat) (xs : List Int), m ≤ 8 → Bs w w.heap.size ad xs → L = xs.length → Byt xs → L ≤ 140737488351232 → a ≤ L → L ≤ cap → cap ≤ 9223372036854775807 →
    Calls Try.prog 38 #[.slice ad L cap, .int .i64 a, .int .i64 (9 - (m : Int))] w (ReadPost w (rdVr m xs a))
set_option maxHeartbeats 4000000 in
set_option maxRecDepth 100000 in
theorem Read_step (m : Nat) (ih : ReadAll m) (w : World) (ad : Option Addr) (cap L a : Nat) (xs : List Int) (hm : m + 1 ≤ 8) (hbs : Bs w w.heap.size ad xs) (hL : L = xs.length) (hby : Byt xs) (hl : L ≤ 140737488351232) (ha : a ≤ L) (hc : L ≤ cap) (hc2 : cap ≤ 9223372036854775807) :
    Calls Try.prog 38 #[.slice ad L cap, .int .i64 a, .int .i64 (9 - ((m + 1 : Nat) : Int))] w (ReadPost w (rdVr (m + 1) xs a)) := by
  have H1 := hid (fun W (hW : Below w.heap.size w W) => Read_any W ad cap L a xs 1 ((hbs.below hW).mono hW.size) hL hby hl ha)
  have HBS := hid hbs
  have HL := hid hL
  have HBY := hid hby
  obtain ⟨d, hd⟩ : ∃ d : Int, d = 9 - ((m + 1 : Nat) : Int) := ⟨_, rfl⟩
  rw [← hd]
  have hd8 : d ≤ 8 := by omega
  have hd1 : 0 ≤ d := by omega
  have hdd : decide (8 < d) = false := by simp; omega
  have HD := hid (show d + 1 = 9 - (m : Int) by omega)
  unfold rdV at H1
  have hpl := rd_place (b := xs) (a := a) (s := 1) (by omega)
  have hps := rd_pos (a := a) (s := 1) hby
  obtain ⟨r, hr⟩ : ∃ r, r = rdVr (m + 1) xs a := ⟨_, rfl⟩
  rw [← hr]
  unfold rdVr at hr
  generalize rd xs a 1 = q at *
  obtain ⟨K, j, e⟩ := q
  simp only at H1 hpl hps hr
  clear hbs hL hby hd
  by_cases he : e = 0
  · subst he
    rw [if_neg (by simp)] at hr
    have HB2 := hid (fun o o' => ((Below.refl w.heap.size w).alloc (Nat.le_refl _) o).alloc (show w.heap.size ≤ (w.alloc o).heap.size by simp) o')
    have HB3 := hid (fun o o' o'' => (((Below.refl w.heap.size w).alloc (Nat.le_refl _) o).alloc (show w.heap.size ≤ (w.alloc o).heap.size by simp) o').alloc (show w.heap.size ≤ ((w.alloc o).alloc o').heap.size by simp; omega) o'')
    by_cases k0 : K = 0
    · rw [if_pos k0] at hr
      subst k0
      have HR := hid hr
      clear hr
      go_enter Try.func38, Try.ntmps38
      go_wp2_with fail
      refine (H1.out _ (HB2.out _ _)).mono ?_
      rintro e w' ⟨rfl, rfl⟩
      go_wp2
      exact read_ret rfl rfl rfl (heap_alloc3_old _ _ _ _) ⟨_, by rw [HR.out]; rfl, by rw [HR.out]; exact none_in _ _, HB3.out _ _ _⟩
    · rw [if_neg k0] at hr
      have b0 : (K == 0) = false := by simpa using k0
      by_cases kn : K = 1 ∨ K = 2 ∨ K = 3 ∨ K = 5
      · rw [if_pos kn] at hr
        have H2 := hid (fun W (hW : Below w.heap.size w W) => Read_any W ad cap L j xs (sizK K) ((HBS.out.below hW).mono hW.size) HL.out HBY.out hl (by rw [HL.out]; exact hpl))
        unfold rdV at H2
        have hpl2 := rd_place (b := xs) (a := j) (s := sizK K) hpl
        have hps2 := rd_pos (a := j) (s := sizK K) HBY.out
        obtain ⟨q2, hq2⟩ : ∃ q2, q2 = rd xs j (sizK K) := ⟨_, rfl⟩
        rw [← hq2] at H2 hpl2 hps2 hr
        obtain ⟨n, i, e2⟩ := q2
        simp only at H2 hpl2 hps2 hr
        by_cases he2 : e2 = 0
        · subst he2
          rw [if_neg (by simp)] at hr
          by_cases hbad : K = 1 ∧ 1 < n
          · rw [if_pos hbad] at hr
            have HR := hid hr
            obtain ⟨rfl, hn1⟩ := hbad
            have hdn : decide ((1 : Int) < n) = true := by simpa using hn1
            clear hr hq2 hps2 hpl2 hps hpl hl hn1
            go_enter Try.func38, Try.ntmps38
            go_wp2_with fail
            refine (H1.out _ (HB2.out _ _)).mono ?_
            rintro e w' ⟨rfl, rfl⟩
            go_wp2_with fail
            refine (H2.out _ (HB3.out _ _ _)).mono ?_
            rintro e w' ⟨rfl, rfl⟩
            go_wp2
            exact read_ret rfl rfl rfl (heap_alloc3_old _ _ _ _) ⟨_, by rw [HR.out]; rfl, by rw [HR.out]; exact none_in _ _, HB3.out _ _ _⟩
          · rw [if_neg hbad] at hr
            obtain ⟨z, hz⟩ : ∃ z, z = numK K n := ⟨_, rfl⟩
            rw [← hz] at hr
            have HR := hid hr
            clear hr
            rcases kn with rfl | rfl | rfl | rfl
            · have hzn : z = n := hz
              subst hzn
              have hn1 : z ≤ 1 := by omega
              have hdn : decide ((1 : Int) < z) = false := by simp; omega
              have hw : IntKind.i64.wrap z = z := IntWalk.i64_in _ (by omega)
              have HZR := hid (show -9223372036854775808 ≤ z ∧ z ≤ 9223372036854775807 by omega)
              clear hz hbad hq2 hps2 hpl2 hps hpl hl hn1
              go_enter Try.func38, Try.ntmps38
              go_wp2_with fail
              refine (H1.out _ (HB2.out _ _)).mono ?_
              rintro e w' ⟨rfl, rfl⟩
              go_wp2_with fail
              refine (H2.out _ (HB3.out _ _ _)).mono ?_
              rintro e w' ⟨rfl, rfl⟩
              go_wp2
              exact read_ret rfl rfl rfl (heap_alloc3_old _ _ _ _) ⟨_, by rw [HR.out]; rfl, by rw [HR.out]; exact num_in _ _ _ _ (by omega) HZR.out, HB3.out _ _ _⟩
            · have hn4 : n < 4294967296 := by
                have := rd_le4 (b := xs) (a := j) HBY.out
                have e4 : sizK 2 = 4 := rfl
                rw [e4] at hq2
                rw [← hq2] at this; exact this
              have hw : IntKind.i64.wrap n = n := IntWalk.i64_in _ (by omega)
              have hw2 : IntKind.i64.wrap (n - 4294967296) = n - 4294967296 := IntWalk.i64_in _ (by omega)
              clear hbad hq2
              by_cases hbig : 2147483647 < n
              · have hdn : decide ((2147483647 : Int) < n) = true := by simpa using hbig
                have hzn : z = n - 4294967296 := by rw [hz]; unfold numK; rw [if_pos rfl, if_pos hbig]
                have hzr : -9223372036854775808 ≤ z ∧ z ≤ 9223372036854775807 := by omega
                have HZR := hid hzr
                subst hzn
                clear hz hbig hzr hn4 hps2 hpl2 hps hpl hl
                go_enter Try.func38, Try.ntmps38
                go_wp2_with fail
                refine (H1.out _ (HB2.out _ _)).mono ?_
                rintro e w' ⟨rfl, rfl⟩
                go_wp2_with fail
                refine (H2.out _ (HB3.out _ _ _)).mono ?_
                rintro e w' ⟨rfl, rfl⟩
                go_wp2
                exact read_ret rfl rfl rfl (heap_alloc3_old _ _ _ _) ⟨_, by rw [HR.out]; rfl, by rw [HR.out]; exact num_in _ _ _ _ (by omega) HZR.out, HB3.out _ _ _⟩
              · have hdn : decide ((2147483647 : Int) < n) = false := by simp; omega
                have hzn : z = n := by rw [hz]; unfold numK; rw [if_pos rfl, if_neg hbig]
                have hzr : -9223372036854775808 ≤ z ∧ z ≤ 9223372036854775807 := by omega
                have HZR := hid hzr
                subst hzn
                clear hz hbig hzr hn4 hps2 hpl2 hps hpl hl
                go_enter Try.func38, Try.ntmps38
                go_wp2_with fail
                refine (H1.out _ (HB2.out _ _)).mono ?_
                rintro e w' ⟨rfl, rfl⟩
                go_wp2_with fail
                refine (H2.out _ (HB3.out _ _ _)).mono ?_
                rintro e w' ⟨rfl, rfl⟩
                go_wp2
                exact read_ret rfl rfl rfl (heap_alloc3_old _ _ _ _) ⟨_, by rw [HR.out]; rfl, by rw [HR.out]; exact num_in _ _ _ _ (by omega) HZR.out, HB3.out _ _ _⟩
            · have hw : IntKind.i64.wrap n = z := by rw [wrap_i64_big hps2.1 hps2.2, hz]; rfl
              have hzr : -9223372036854775808 ≤ z ∧ z ≤ 9223372036854775807 := by rw [hz]; unfold numK; rw [if_neg (by decide), if_neg (by decide)]; split <;> omega
              have HZR := hid hzr
              clear hz hbad hq2 hzr hps2 hpl2 hps hpl hl
              go_enter Try.func38, Try.ntmps38
              go_wp2_with fail
              refine (H1.out _ (HB2.out _ _)).mono ?_
              rintro e w' ⟨rfl, rfl⟩
              go_wp2_with fail
              refine (H2.out _ (HB3.out _ _ _)).mono ?_
              rintro e w' ⟨rfl, rfl⟩
              go_wp2
              exact read_ret rfl rfl rfl (heap_alloc3_old _ _ _ _) ⟨_, by rw [HR.out]; rfl, by rw [HR.out]; exact num_in _ _ _ _ (by omega) HZR.out, HB3.out _ _ _⟩
            · have hw : IntKind.i64.wrap n = z := by rw [wrap_i64_big hps2.1 hps2.2, hz]; rfl
              have hzr : -9223372036854775808 ≤ z ∧ z ≤ 9223372036854775807 := by rw [hz]; unfold numK; rw [if_neg (by decide), if_neg (by decide)]; split <;> omega
              have HZR := hid hzr
              clear hz hbad hq2 hzr hps2 hpl2 hps hpl hl
              go_enter Try.func38, Try.ntmps38
              go_wp2_with fail
              refine (H1.out _ (HB2.out _ _)).mono ?_
              rintro e w' ⟨rfl, rfl⟩
              go_wp2_with fail
              refine (H2.out _ (HB3.out _ _ _)).mono ?_
              rintro e w' ⟨rfl, rfl⟩
              go_wp2
              exact read_ret rfl rfl rfl (heap_alloc3_old _ _ _ _) ⟨_, by rw [HR.out]; rfl, by rw [HR.out]; exact num_in _ _ _ _ (by omega) HZR.out, HB3.out _ _ _⟩
        · rw [if_pos he2] at hr
          have HR := hid hr
          have hde : (e2 != 0) = true := by simpa using he2
          clear hr he2 hq2 hps2 hpl2 hps hpl hl
          rcases kn with rfl | rfl | rfl | rfl
          all_goals
            go_enter Try.func38, Try.ntmps38
            go_wp2_with fail
            refine (H1.out _ (HB2.out _ _)).mono ?_
            rintro e w' ⟨rfl, rfl⟩
            go_wp2_with fail
            refine (H2.out _ (HB3.out _ _ _)).mono ?_
            rintro e w' ⟨rfl, rfl⟩
            go_wp2
            exact read_ret rfl rfl rfl (heap_alloc3_old _ _ _ _) ⟨_, by rw [HR.out]; rfl, by rw [HR.out]; exact none_in _ _, HB3.out _ _ _⟩
      · rw [if_neg kn] at hr
        have b1 : (K == 1) = false := by simp; omega
        have b2 : (K == 2) = false := by simp; omega
        have b3 : (K == 3) = false := by simp; omega
        have b5 : (K == 5) = false := by simp; omega
        by_cases k4 : K = 4
        · rw [if_pos k4] at hr
          subst k4
          have H2 := hid (fun W (hW : Below w.heap.size w W) => ReadText_any W ad cap L j xs 256 ((HBS.out.below hW).mono hW.size) HL.out HBY.out hl (by rw [HL.out]; exact hpl) hc hc2 (by decide))
          have htl := rdT_text (b := xs) (a := j) (m := 256) HBY.out
          generalize rdT xs j 256 = q at *
          obtain ⟨t, i, e2⟩ := q
          simp only at hr htl
          by_cases he2 : e2 = 0
          · subst he2
            rw [if_neg (by simp)] at hr
            have HR := hid hr
            clear hr b0 b1 b2 b3 b5 k0 kn
            go_enter Try.func38, Try.ntmps38
            go_wp2_with fail
            refine (H1.out _ (HB2.out _ _)).mono ?_
            rintro e w' ⟨rfl, rfl⟩
            go_wp2_with fail
            have h3 := HB3.out (.cells #[.int .i64 0, .int .i64 0, .string ⟨#[]⟩, .slice none 0 0] 24) (.cells #[.int .i64 0, .int .i64 0, .string ⟨#[]⟩, .slice none 0 0] 24) (.cells #[.int .i64 4, .int .i64 0, .string ⟨#[]⟩, .slice none 0 0] 24)
            have hR3 := heap_alloc3_old w (.cells #[.int .i64 0, .int .i64 0, .string ⟨#[]⟩, .slice none 0 0] 24) (.cells #[.int .i64 0, .int .i64 0, .string ⟨#[]⟩, .slice none 0 0] 24) (.cells #[.int .i64 4, .int .i64 0, .string ⟨#[]⟩, .slice none 0 0] 24)
            have hN3 := heap_alloc3_mid w (.cells #[.int .i64 0, .int .i64 0, .string ⟨#[]⟩, .slice none 0 0] 24) (.cells #[.int .i64 0, .int .i64 0, .string ⟨#[]⟩, .slice none 0 0] 24) (.cells #[.int .i64 4, .int .i64 0, .string ⟨#[]⟩, .slice none 0 0] 24)
            have hV3 := heap_alloc_new ((w.alloc (.cells #[.int .i64 0, .int .i64 0, .string ⟨#[]⟩, .slice none 0 0] 24)).alloc (.cells #[.int .i64 0, .int .i64 0, .string ⟨#[]⟩, .slice none 0 0] 24)) (.cells #[.int .i64 4, .int .i64 0, .string ⟨#[]⟩, .slice none 0 0] 24)
            rw [show ((w.alloc (.cells #[.int .i64 0, .int .i64 0, .string ⟨#[]⟩, .slice none 0 0] 24)).alloc (.cells #[.int .i64 0, .int .i64 0, .string ⟨#[]⟩, .slice none 0 0] 24)).heap.size = w.heap.size + 1 + 1 by simp] at hV3
            obtain ⟨w3, hw3⟩ : ∃ w3, w3 = ((w.alloc (.cells #[.int .i64 0, .int .i64 0, .string ⟨#[]⟩, .slice none 0 0] 24)).alloc (.cells #[.int .i64 0, .int .i64 0, .string ⟨#[]⟩, .slice none 0 0] 24)).alloc (.cells #[.int .i64 4, .int .i64 0, .string ⟨#[]⟩, .slice none 0 0] 24) := ⟨_, rfl⟩
            obtain ⟨pR, hpR⟩ : ∃ pR, pR = w.heap.size := ⟨_, rfl⟩
            obtain ⟨pN, hpN⟩ : ∃ pN, pN = w.heap.size + 1 := ⟨_, rfl⟩
            obtain ⟨pV, hpV⟩ : ∃ pV, pV = w.heap.size + 1 + 1 := ⟨_, rfl⟩
            rw [← hw3] at h3 hR3 hN3 hV3 ⊢
            rw [← hpV] at hV3 ⊢
            rw [← hpN] at hN3 ⊢
            rw [← hpR] at hR3 ⊢
            have hne : pV ≠ pR := by omega
            have hneN : pN ≠ pR := by omega
            have hneV : pN ≠ pV := by omega
            have hloR : w.heap.size ≤ pR := by omega
            have hloN : w.heap.size ≤ pN := by omega
            have hloV : w.heap.size ≤ pV := by omega
            clear hw3 hpR hpN hpV
            refine (H2.out _ h3).mono ?_
            rintro e w4 ⟨tv, rfl, hrow4, hb4⟩
            simp only at hrow4
            have hR4 := (hb4.block pR (lt_of_heap hR3)).trans hR3
            have hV4 := (hb4.block pV (lt_of_heap hV3)).trans hV3
            have HB4 := hid (h3.trans (hb4.mono h3.size))
            obtain ⟨T, hT⟩ : ∃ T, T = t.length := ⟨_, rfl⟩
            rw [← hT] at hrow4
            obtain ⟨ta, tk, rfl, ht0⟩ := own_form0 hrow4
            have hcv : (convert 30 9 (.slice ta T tk)).run Try.prog w4 = .ok (.string (strI t)) w4 := by
              cases ta with
              | none =>
                obtain ⟨rfl, rfl⟩ := ht0 rfl
                have : t = [] := List.eq_nil_of_length_eq_zero hT.symm
                subst this
                exact conv_nil w4
              | some ta =>
                rw [hT]
                exact run_str_of_row w4 _ _ _ ta tk t Try.underlying30 Try.underlying5 Try.underlying9 htl (fun j hj => by
                  obtain ⟨b, o, he, _⟩ := (own_bs hrow4).some (by omega)
                  cases he
                  exact (own_bs hrow4).news j _ (u8l_at hj))
            obtain ⟨v0, v1, v2, v3⟩ := box_cells hV4
            obtain ⟨r0, r1, r2, r3⟩ := box_cells hR4
            have zV := fun k => frozen_of_row w4 pV k _ _ hV4
            have zR := fun k => frozen_of_row w4 pR k _ _ hR4
            obtain ⟨bs, hbs⟩ : ∃ bs, bs = strI t := ⟨_, rfl⟩
            rw [← hbs] at hcv
            have HBSS := hid hbs
            have HR4 := hid hR4
            have HV4 := hid hV4
            have hsV : Fr (fun b => b = pV) w4 (w4.setCell ⟨pV, 2, none⟩ (.string bs)) := (Fr.refl _ w4).setCell _ _ (fun _ => rfl)
            have hbF : Below w.heap.size w (put4 (w4.setCell ⟨pV, 2, none⟩ (.string bs)) pR (.int .i64 4) (.int .i64 0) (.string bs) (.slice none 0 0)) :=
              (HB4.out.trans ((hsV.below HB4.out.size (fun k hk => by rw [hk]; exact hloV)))).trans ((put4_fr _ pR _ _ _ _).below (by simp; exact HB4.out.size) (fun k hk => by rw [hk]; exact hloR))
            have hhF := put4_heap (c0 := .int .i64 4) (c1 := .int .i64 0) (c2 := .string bs) (c3 := .slice none 0 0) ((hsV.block pR (lt_of_heap hR4) (fun e => hne e.symm)).trans hR4)
            have HBF := hid hbF
            have HHF := hid hhF
            clear hrow4 hb4 hT ht0 hbs hR3 hN3 hV3 h3 hR4 hV4 hsV hbF hhF
            go_wp2
            exact read_ret rfl rfl rfl HHF.out ⟨_, by rw [HR.out]; rfl, by rw [HR.out, HBSS.out]; exact text_in _ _ t htl, HBF.out⟩
          · rw [if_pos he2] at hr
            have HR := hid hr
            have hde : (e2 != 0) = true := by simpa using he2
            clear hr b0 b1 b2 b3 b5 k0 kn he2
            go_enter Try.func38, Try.ntmps38
            go_wp2_with fail
            refine (H1.out _ (HB2.out _ _)).mono ?_
            rintro e w' ⟨rfl, rfl⟩
            go_wp2_with fail
            have h3 := HB3.out (.cells #[.int .i64 0, .int .i64 0, .string ⟨#[]⟩, .slice none 0 0] 24) (.cells #[.int .i64 0, .int .i64 0, .string ⟨#[]⟩, .slice none 0 0] 24) (.cells #[.int .i64 4, .int .i64 0, .string ⟨#[]⟩, .slice none 0 0] 24)
            have hR3 := heap_alloc3_old w (.cells #[.int .i64 0, .int .i64 0, .string ⟨#[]⟩, .slice none 0 0] 24) (.cells #[.int .i64 0, .int .i64 0, .string ⟨#[]⟩, .slice none 0 0] 24) (.cells #[.int .i64 4, .int .i64 0, .string ⟨#[]⟩, .slice none 0 0] 24)
            have hN3 := heap_alloc3_mid w (.cells #[.int .i64 0, .int .i64 0, .string ⟨#[]⟩, .slice none 0 0] 24) (.cells #[.int .i64 0, .int .i64 0, .string ⟨#[]⟩, .slice none 0 0] 24) (.cells #[.int .i64 4, .int .i64 0, .string ⟨#[]⟩, .slice none 0 0] 24)
            have hV3 := heap_alloc_new ((w.alloc (.cells #[.int .i64 0, .int .i64 0, .string ⟨#[]⟩, .slice none 0 0] 24)).alloc (.cells #[.int .i64 0, .int .i64 0, .string ⟨#[]⟩, .slice none 0 0] 24)) (.cells #[.int .i64 4, .int .i64 0, .string ⟨#[]⟩, .slice none 0 0] 24)
            rw [show ((w.alloc (.cells #[.int .i64 0, .int .i64 0, .string ⟨#[]⟩, .slice none 0 0] 24)).alloc (.cells #[.int .i64 0, .int .i64 0, .string ⟨#[]⟩, .slice none 0 0] 24)).heap.size = w.heap.size + 1 + 1 by simp] at hV3
            obtain ⟨w3, hw3⟩ : ∃ w3, w3 = ((w.alloc (.cells #[.int .i64 0, .int .i64 0, .string ⟨#[]⟩, .slice none 0 0] 24)).alloc (.cells #[.int .i64 0, .int .i64 0, .string ⟨#[]⟩, .slice none 0 0] 24)).alloc (.cells #[.int .i64 4, .int .i64 0, .string ⟨#[]⟩, .slice none 0 0] 24) := ⟨_, rfl⟩
            obtain ⟨pR, hpR⟩ : ∃ pR, pR = w.heap.size := ⟨_, rfl⟩
            obtain ⟨pN, hpN⟩ : ∃ pN, pN = w.heap.size + 1 := ⟨_, rfl⟩
            obtain ⟨pV, hpV⟩ : ∃ pV, pV = w.heap.size + 1 + 1 := ⟨_, rfl⟩
            rw [← hw3] at h3 hR3 hN3 hV3 ⊢
            rw [← hpV] at hV3 ⊢
            rw [← hpN] at hN3 ⊢
            rw [← hpR] at hR3 ⊢
            have hne : pV ≠ pR := by omega
            have hneN : pN ≠ pR := by omega
            have hneV : pN ≠ pV := by omega
            have hloR : w.heap.size ≤ pR := by omega
            have hloN : w.heap.size ≤ pN := by omega
            have hloV : w.heap.size ≤ pV := by omega
            clear hw3 hpR hpN hpV
            refine (H2.out _ h3).mono ?_
            rintro e w4 ⟨tv, rfl, hrow4, hb4⟩
            simp only at hrow4
            obtain ⟨ta, tk, rfl⟩ := own_form hrow4
            have hN4 := (hb4.block pN (lt_of_heap hN3)).trans hN3
            have hR4 := (hb4.block pR (lt_of_heap hR3)).trans hR3
            have HB4 := hid (h3.trans (hb4.mono h3.size))
            obtain ⟨n0, n1, n2, n3⟩ := box_cells hN4
            obtain ⟨r0, r1, r2, r3⟩ := box_cells hR4
            have zR := fun k => frozen_of_row w4 pR k _ _ hR4
            have hbF : Below w.heap.size w (put4 w4 pR (.int .i64 0) (.int .i64 0) (.string ⟨#[]⟩) (.slice none 0 0)) := HB4.out.trans ((put4_fr _ pR _ _ _ _).below HB4.out.size (fun k hk => by rw [hk]; exact hloR))
            have hhF := put4_heap (c0 := .int .i64 0) (c1 := .int .i64 0) (c2 := .string ⟨#[]⟩) (c3 := .slice none 0 0) hR4
            have HBF := hid hbF
            have HHF := hid hhF
            clear hrow4 hb4 hR3 hN3 hV3 h3 hR4 hN4 hbF hhF
            go_wp2
            exact read_ret rfl rfl rfl HHF.out ⟨_, by rw [HR.out]; rfl, by rw [HR.out]; exact none_in _ _, HBF.out⟩
        · rw [if_neg k4] at hr
          have b4 : (K == 4) = false := by simpa using k4
          by_cases k6 : K = 6
          · skip
            rw [if_pos k6] at hr
            subst k6
            have H2 := hid (fun W (hW : Below w.heap.size w W) => Read_any W ad cap L j xs 4 ((HBS.out.below hW).mono hW.size) HL.out HBY.out hl (by rw [HL.out]; exact hpl))
            unfold rdV at H2
            have hpl2 := rd_place (b := xs) (a := j) (s := 4) hpl
            have hps2 := rd_pos (a := j) (s := 4) HBY.out
            generalize rd xs j 4 = q at *
            obtain ⟨n, i, e2⟩ := q
            simp only at H2 hpl2 hps2 hr
            by_cases he2 : e2 = 0
            · subst he2
              rw [if_neg (by simp)] at hr
              by_cases hbig : 64 < n
              · rw [if_pos hbig] at hr
                have HR := hid hr
                have hdn : decide ((64 : Int) < n) = true := by simpa using hbig
                clear hr b0 b1 b2 b3 b4 b5 k0 kn k4 hbig
                go_enter Try.func38, Try.ntmps38
                go_wp2_with fail
                refine (H1.out _ (HB2.out _ _)).mono ?_
                rintro e w' ⟨rfl, rfl⟩
                go_wp2_with fail
                refine (H2.out _ (HB3.out _ _ _)).mono ?_
                rintro e w' ⟨rfl, rfl⟩
                go_wp2
                exact read_ret rfl rfl rfl (heap_alloc3_old _ _ _ _) ⟨_, by rw [HR.out]; rfl, by rw [HR.out]; exact none_in _ _, HB3.out _ _ _⟩
              · rw [if_neg hbig] at hr
                obtain ⟨N, rfl⟩ := Int.eq_ofNat_of_zero_le hps2.1
                rw [Int.toNat_natCast] at hr
                exact Read_list m w ad cap L a N i j xs d r HBS.out HL.out HBY.out hd8 hd1 H1.out H2.out (by omega) hpl2 (fun W jq hW hj => by rw [HD.out]; exact ih W ad cap L jq xs (by omega) hW HL.out HBY.out hl hj hc hc2) hr
            · rw [if_pos he2] at hr
              have HR := hid hr
              have hde : (e2 != 0) = true := by simpa using he2
              clear hr b0 b1 b2 b3 b4 b5 k0 kn k4 he2
              go_enter Try.func38, Try.ntmps38
              go_wp2_with fail
              refine (H1.out _ (HB2.out _ _)).mono ?_
              rintro e w' ⟨rfl, rfl⟩
              go_wp2_with fail
              refine (H2.out _ (HB3.out _ _ _)).mono ?_
              rintro e w' ⟨rfl, rfl⟩
              go_wp2
              exact read_ret rfl rfl rfl (heap_alloc3_old _ _ _ _) ⟨_, by rw [HR.out]; rfl, by rw [HR.out]; exact none_in _ _, HB3.out _ _ _⟩
          · rw [if_neg k6] at hr
            have b6 : (K == 6) = false := by simpa using k6
            have HR := hid hr
            clear hr k0 kn k4 k6
            go_enter Try.func38, Try.ntmps38
            go_wp2_with fail
            refine (H1.out _ (HB2.out _ _)).mono ?_
            rintro e w' ⟨rfl, rfl⟩
            go_wp2
            exact read_ret rfl rfl rfl (heap_alloc3_old _ _ _ _) ⟨_, by rw [HR.out]; rfl, by rw [HR.out]; exact none_in _ _, HB3.out _ _ _⟩
  · rw [if_pos he] at hr
    have HR := hid hr
    have hde : (e != 0) = true := by simpa using he
    clear hr he
    go_enter Try.func38, Try.ntmps38
    go_wp2_with fail
    refine (H1.out _ ?_).mono ?_
    · exact ((Below.refl w.heap.size w).alloc (Nat.le_refl _) _).alloc (by simp) _
    rintro e w' ⟨rfl, rfl⟩
    go_wp2
    exact read_ret rfl rfl rfl (heap_alloc2_old _ _ _) ⟨_, by rw [HR.out]; rfl, by rw [HR.out]; exact none_in _ _, ((Below.refl w.heap.size w).alloc (Nat.le_refl _) _).alloc (by simp) _⟩
theorem Read_any6 : ∀ m, ReadAll m := by
  intro m
  induction m with
  | zero =>
    intro w ad cap L a xs _ _ _ _ _ _ _ _
    refine (Read_deep w (.slice ad L cap) a).mono ?_
    rintro e w' ⟨rfl, hb⟩
    exact ⟨_, rfl, none_in _ _, hb⟩
  | succ m ih =>
    intro w ad cap L a xs hm hbs hL hby hl ha hc hc2
    exact Read_step m ih w ad cap L a xs hm hbs hL hby hl ha hc hc2
end Go.Proofs.Ytjpegddellhbkaa
