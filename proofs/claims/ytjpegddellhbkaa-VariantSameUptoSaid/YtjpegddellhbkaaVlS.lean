/-
  The walk through VariantSame.
-/
import Derived.Test.YtjpegddellhbkaaVlE
import Derived.Test.YtjpegddellhbkaaVpS
namespace Go.Proofs.Ytjpegddellhbkaa
open Go Go.ChangeShapes Go.WideShapes Go.ChangeAt Go.RowKit

theorem VS.okV {w : World} {S : Nat → Prop} {v : Vr} {cs : List Value} (h : VS w S v cs) : ∀ m, okV m v := by
  induction h with
  | mk k n s l a c cs hk hn hs hc h0 ha hl hp ih =>
    intro m
    cases m with
    | zero => trivial
    | succ m =>
      refine ⟨hn, hs, fun x hx => ?_⟩
      obtain ⟨i, hi⟩ := List.mem_iff_getElem?.1 hx
      exact ih i x hi m
set_option maxHeartbeats 4000000 in
set_option maxRecDepth 100000 in
theorem VariantSame_any (w : World) (v u : Vr) (cs ds : List Value) (h : VIn w w.heap.size v cs) (hu : VIn w w.heap.size u ds) (hN : cntV v ≤ 1048576) (hM : cntV u ≤ 1048576) :
    Calls Try.prog 8 #[.agg cs.toArray, .agg ds.toArray] w fun e w' => e = .returned (.bool true) ∧ Below w.heap.size w w' := by
  have HLEN := hid (fun hc => enc_len h hc)
  have HLEM := hid (fun hc => enc_len hu hc)
  have HINJ := hid (fun h1 h2 e => enc_inj (m := 8) (a := v) (b := u) h1 h2 (h.okV 8) (hu.okV 8) e)
  obtain ⟨a, c, rfl, _⟩ := h.open
  obtain ⟨a', c', rfl, _⟩ := hu.open
  obtain ⟨B1, hB1⟩ : ∃ B1, B1 = Obj.cells #[.int .i64 v.k, .int .i64 v.n, .string (strI v.s), .slice a v.l.length c] 24 := ⟨_, rfl⟩
  obtain ⟨B2, hB2⟩ : ∃ B2, B2 = Obj.cells #[.int .i64 u.k, .int .i64 u.n, .string (strI u.s), .slice a' u.l.length c'] 24 := ⟨_, rfl⟩
  have hb1 : Below w.heap.size w ((w.alloc B1).alloc B2) := ((Below.refl w.heap.size w).alloc (Nat.le_refl _) B1).alloc (show w.heap.size ≤ (w.alloc B1).heap.size by simp) B2
  obtain ⟨hx1, hy1⟩ := two_alloc w B1 B2
  replace hx1 := hx1.trans (congrArg some hB1)
  replace hy1 := hy1.trans (congrArg some hB2)
  have HSM := hid (fun W (hW : Below w.heap.size w W) => PSame_any v u _ _ W (VIn.on h hW) (VIn.on hu hW))
  have HSR := hid (fun W (hW : Below w.heap.size w W) => Same_any v u _ _ W (VIn.on h hW) (VIn.on hu hW))
  have HSS := hid (fun W (hW : Below w.heap.size w W) => PSame_any v v _ _ W (VIn.on h hW) (VIn.on h hW))
  have HE := hid (fun W (hW : Below w.heap.size w W) => PEncode_any W v _ (VIn.on h hW) (fun _ => by omega))
  have HG := hid (fun W (hW : Below w.heap.size w W) => PEncode_any W u _ (VIn.on hu hW) (fun _ => by omega))
  have HB1 := hid hb1
  have HX1 := hid hx1
  have HY1 := hid hy1
  have H12 := hid (show w.heap.size ≠ w.heap.size + 1 by omega)
  obtain ⟨z, hz⟩ : ∃ z, z = chk 8 v := ⟨_, rfl⟩
  obtain ⟨y, hy⟩ : ∃ y, y = chk 8 u := ⟨_, rfl⟩
  unfold PEncPost at HE HG
  rw [← hz] at HE HLEN HINJ
  rw [← hy] at HG HLEM HINJ
  obtain ⟨xs, hxs⟩ : ∃ xs, xs = encV 8 [] v := ⟨_, rfl⟩
  obtain ⟨ys, hys⟩ : ∃ ys, ys = encV 8 [] u := ⟨_, rfl⟩
  rw [← hxs] at HE HLEN HINJ
  rw [← hys] at HG HLEM HINJ
  have HXS := hid hxs
  have HYS := hid hys
  unfold SamePost at HSM HSR HSS
  obtain ⟨nv, hnv⟩ : ∃ nv, nv = cntV v := ⟨_, rfl⟩
  rw [← hnv] at HLEN hN
  obtain ⟨nu, hnu⟩ : ∃ nu, nu = cntV u := ⟨_, rfl⟩
  rw [← hnu] at HLEM hM
  have HBq1 := hid hB1
  have HBq2 := hid hB2
  clear h hu hb1 hx1 hy1 hz hy hxs hys hnv hnu hB1 hB2
  generalize v.k = k at *
  generalize v.n = n at *
  generalize strI v.s = s at *
  generalize v.l.length = L at *
  generalize u.k = k' at *
  generalize u.n = n' at *
  generalize strI u.s = t at *
  generalize u.l.length = M at *
  go_enter Try.func8, Try.ntmps8
  go_wp2_with fail
  rw [← HBq1.out, ← HBq2.out]
  obtain ⟨w1, hw1⟩ : ∃ w1, w1 = (w.alloc B1).alloc B2 := ⟨_, rfl⟩
  obtain ⟨bx, hbx⟩ : ∃ bx, bx = w.heap.size := ⟨_, rfl⟩
  obtain ⟨by', hby⟩ : ∃ by', by' = w.heap.size + 1 := ⟨_, rfl⟩
  rw [← hw1] at HB1 HX1 HY1 ⊢
  rw [← hby] at HY1 ⊢
  rw [← hbx] at HX1 ⊢
  clear hw1 hby hbx HBq1 HBq2
  refine (HSM.out w1 HB1.out).mono ?_
  rintro e w2 ⟨⟨r, rfl, hr⟩, hb2⟩
  have HX2 := hid ((hb2.block bx (lt_of_heap HX1.out)).trans HX1.out)
  have HY2 := hid ((hb2.block by' (lt_of_heap HY1.out)).trans HY1.out)
  have HB2 := hid (HB1.out.trans (hb2.mono HB1.out.size))
  have HR := hid hr
  obtain ⟨c0, c1, c2, c3⟩ := box_cells HX2.out
  obtain ⟨d0, d1, d2, d3⟩ := box_cells HY2.out
  clear hb2 hr
  go_wp2_with fail
  refine (HSR.out w2 HB2.out).mono ?_
  rintro e w3 ⟨⟨r', rfl, hr'⟩, hb3⟩
  have hrr : r' = r := by
    rw [Bool.eq_iff_iff, hr', HR.out]
  subst hrr
  have HX3 := hid ((hb3.block bx (lt_of_heap HX2.out)).trans HX2.out)
  have HY3 := hid ((hb3.block by' (lt_of_heap HY2.out)).trans HY2.out)
  have HB3 := hid (HB2.out.trans (hb3.mono HB2.out.size))
  have hne : (r' != r') = false := by simp
  clear hb3 hr' c0 c1 c2 c3 d0 d1 d2 d3
  obtain ⟨c0, c1, c2, c3⟩ := box_cells HX3.out
  obtain ⟨d0, d1, d2, d3⟩ := box_cells HY3.out
  go_wp2_with fail
  refine (HSS.out w3 HB3.out).mono ?_
  rintro e w4 ⟨⟨r2, rfl, hr2⟩, hb4⟩
  obtain rfl : r2 = true := hr2.2 (by trivial)
  have HX4 := hid ((hb4.block bx (lt_of_heap HX3.out)).trans HX3.out)
  have HY4 := hid ((hb4.block by' (lt_of_heap HY3.out)).trans HY3.out)
  have HB4 := hid (HB3.out.trans (hb4.mono HB3.out.size))
  clear hb4 hr2 c0 c1 c2 c3 d0 d1 d2 d3
  obtain ⟨c0, c1, c2, c3⟩ := box_cells HX4.out
  go_wp2_with fail
  refine (HE.out w4 HB4.out).mono ?_
  rintro e w5 ⟨hb5, he⟩
  rcases he with ⟨hz, rfl⟩ | ⟨hz, bv, rfl, hrow⟩
  · have dz : (z != 0) = true := by simpa using hz
    clear hz
    have HY5 := hid ((hb5.block by' (lt_of_heap HY4.out)).trans HY4.out)
    have HB5 := hid (HB4.out.trans (hb5.mono HB4.out.size))
    clear c0 c1 c2 c3
    obtain ⟨d0, d1, d2, d3⟩ := box_cells HY5.out
    go_wp2_with fail
    refine (HG.out w5 HB5.out).mono ?_
    rintro e w6 ⟨hb6, hf⟩
    have HB6 := hid (HB5.out.trans (hb6.mono HB5.out.size))
    clear d0 d1 d2 d3
    rcases hf with ⟨hy, rfl⟩ | ⟨hy, bw, rfl, hrow6⟩
    · clear hb5 hb6 hy
      go_wp2_with fail
      refine (awake_any w6).mono ?_
      rintro e w7 ⟨rfl, hb7⟩
      have HB7 := hid (HB6.out.trans (hb7.mono HB6.out.size))
      clear hb7
      go_wp2
      go_ret
      exact ⟨rfl, HB7.out⟩
    · clear hb5 hb6 hy hrow6
      go_wp2_with fail
      refine (awake_any w6).mono ?_
      rintro e w7 ⟨rfl, hb7⟩
      have HB7 := hid (HB6.out.trans (hb7.mono HB6.out.size))
      clear hb7
      go_wp2
      go_ret
      exact ⟨rfl, HB7.out⟩
  · subst hz
    have hlx := HLEN.out rfl
    have HLX := hid hlx
    obtain ⟨ba, bc, rfl, h0⟩ := own_form0 hrow
    have hbs := own_bs hrow
    obtain ⟨nx, hnx⟩ : ∃ nx, nx = xs.length := ⟨_, rfl⟩
    rw [← hnx] at hlx ⊢
    have HNX := hid hnx
    have HI1 := hid (HINJ.out rfl)
    have HBS := hid hbs
    have hb5' := hb5
    have HBB5 := hid hb5
    clear HLEN HINJ hrow h0 hnx hbs HLX hb5'
    have HY5 := hid ((hb5.block by' (lt_of_heap HY4.out)).trans HY4.out)
    have HB5 := hid (HB4.out.trans (hb5.mono HB4.out.size))
    clear c0 c1 c2 c3
    obtain ⟨d0, d1, d2, d3⟩ := box_cells HY5.out
    go_wp2_with fail
    refine (HG.out w5 HB5.out).mono ?_
    rintro e w6 ⟨hb6, hf⟩
    have HB6 := hid (HB5.out.trans (hb6.mono HB5.out.size))
    clear d0 d1 d2 d3
    have HBS6 := hid ((HBS.out.below hb6).mono hb6.size)
    clear hb5 HBS HBB5
    rcases hf with ⟨hy, rfl⟩ | ⟨hy, bw, rfl, hrow6⟩
    · have dy : (y != 0) = true := by simpa using hy
      clear hb6 hy
      go_wp2_with fail
      refine (awake_any w6).mono ?_
      rintro e w7 ⟨rfl, hb7⟩
      have HB7 := hid (HB6.out.trans (hb7.mono HB6.out.size))
      clear hb7
      go_wp2
      go_ret
      exact ⟨rfl, HB7.out⟩
    · subst hy
      have hly := HLEM.out rfl
      obtain ⟨ca, cc, rfl, h0⟩ := own_form0 hrow6
      have HBC6 := hid (own_bs hrow6)
      obtain ⟨ny, hny⟩ : ∃ ny, ny = ys.length := ⟨_, rfl⟩
      rw [← hny] at hly ⊢
      have HNY := hid hny
      have HI2 := hid (HI1.out rfl)
      clear HLEM HI1 hrow6 h0 hny hb6
      go_wp2_with fail
      refine (SameBytes_any w6 ba ca bc cc nx ny xs ys HNX.out HNY.out HBS6.out HBC6.out (by omega) (by omega)).mono ?_
      rintro e w7 ⟨rfl, hb7⟩
      have HB7 := hid (HB6.out.trans (hb7.mono HB6.out.size))
      have hsame : (r' == (xs == ys)) = true := by
        have h1 := HR.out
        by_cases hvu : v = u
        · have e1 : r' = true := h1.2 hvu
          have e2 : xs = ys := by rw [HXS.out, HYS.out, hvu]
          rw [e1, e2]; simp
        · have e1 : r' = false := by
            cases hr : r' with
            | false => rfl
            | true => exact absurd (h1.1 hr) hvu
          have e2 : (xs == ys) = false := by
            rw [beq_eq_false_iff_ne]
            exact fun e => hvu (HI2.out e)
          rw [e1, e2]; rfl
      generalize (xs == ys) = q at *
      clear hb7
      go_wp2_with fail
      refine (awake_any w7).mono ?_
      rintro e w8 ⟨rfl, hb8⟩
      have HB8 := hid (HB7.out.trans (hb8.mono HB7.out.size))
      clear hb8
      go_wp2
      go_ret
      exact ⟨rfl, HB8.out⟩
end Go.Proofs.Ytjpegddellhbkaa
