/-
  The walk through VariantEncodes.
-/
import Derived.Test.YtjpegddellhbkaaVlC
import Derived.Test.YtjpegddellhbkaaWrSame
namespace Go.Proofs.Ytjpegddellhbkaa
open Go Go.ChangeShapes Go.WideShapes Go.ChangeAt Go.RowKit

theorem enc_len {w : World} {B : Nat} {v : Vr} {cs : List Value} (h : VIn w B v cs) (hc : chk 8 v = 0) : (encV 8 [] v).length ≤ 300 * cntV v := by
  obtain ⟨m, rfl, _, _⟩ := VS.tree h
  have hz : ∀ x ∈ walkM m 0, ckW x = 0 := fz_all ((fz_chk 8 m (Nat.le_refl _)).trans hc)
  have h1 := encL_len (pre := walkM m 0) (fun y hy => (ck_zero (hz y hy)).2.1) []
  rw [enc_walk 8 m [] 0 hc, walk_cnt] at h1
  simpa using h1
theorem ref_enc (w : World) (v : Vr) (cs : List Value) (h : VIn w w.heap.size v cs) (hc : chk 8 v = 0) (hN : cntV v ≤ 1048576) : Calls Try.prog 14 #[.slice none 0 0, .agg cs.toArray] w (RowPost w (encV 8 [] v)) :=
  Encode_any 8 v cs w none 0 0 [] hc h (Bs.nil _ _ _) rfl (fun _ => ⟨rfl, rfl⟩) (by have := enc_len h hc; omega)
set_option maxHeartbeats 2000000 in
set_option maxRecDepth 100000 in
theorem VariantEncodes_any (w : World) (v : Vr) (cs : List Value) (h : VIn w w.heap.size v cs) (hN : cntV v ≤ 1048576) : Calls Try.prog 4 #[.agg cs.toArray] w fun e w' => e = .returned (.bool true) ∧ Below w.heap.size w w' := by
  have HLEN := hid (fun hc => enc_len h hc)
  obtain ⟨a, c, rfl, _⟩ := h.open
  have hb1 : Below w.heap.size w (w.alloc (.cells #[.int .i64 v.k, .int .i64 v.n, .string (strI v.s), .slice a v.l.length c] 24)) := (Below.refl _ _).alloc (Nat.le_refl _) _
  have hx1 := heap_alloc_new w (.cells #[.int .i64 v.k, .int .i64 v.n, .string (strI v.s), .slice a v.l.length c] 24)
  have HE := hid (fun W (hW : Below w.heap.size w W) => PEncode_any W v _ (VIn.on h hW) (fun _ => by omega))
  have HR := hid (fun W (hW : Below w.heap.size w W) => ref_check W v _ (VIn.on h hW))
  have HF := hid (fun hc W (hW : Below w.heap.size w W) => ref_enc W v _ (VIn.on h hW) hc hN)
  have HB1 := hid hb1
  have HX1 := hid hx1
  obtain ⟨z, hz⟩ : ∃ z, z = chk 8 v := ⟨_, rfl⟩
  unfold PEncPost at HE
  rw [← hz] at HE HR HF HLEN
  obtain ⟨xs, hxs⟩ : ∃ xs, xs = encV 8 [] v := ⟨_, rfl⟩
  rw [← hxs] at HE HF HLEN
  obtain ⟨nv, hnv⟩ : ∃ nv, nv = cntV v := ⟨_, rfl⟩
  rw [← hnv] at HLEN hN
  clear h hb1 hx1 hz hxs hnv
  generalize v.k = k at *
  generalize v.n = n at *
  generalize strI v.s = s at *
  generalize v.l.length = L at *
  go_enter Try.func4, Try.ntmps4
  go_wp2_with fail
  obtain ⟨w1, hw1⟩ : ∃ w1, w1 = w.alloc (.cells #[.int .i64 k, .int .i64 n, .string s, .slice a L c] 24) := ⟨_, rfl⟩
  obtain ⟨bx, hbx⟩ : ∃ bx, bx = w.heap.size := ⟨_, rfl⟩
  rw [← hw1] at HB1 HX1 ⊢
  rw [← hbx] at HX1 ⊢
  clear hw1
  refine (HE.out w1 HB1.out).mono ?_
  rintro e w2 ⟨hb2, he⟩
  have HX2 := hid ((hb2.block bx (lt_of_heap HX1.out)).trans HX1.out)
  have HB2 := hid (HB1.out.trans (hb2.mono HB1.out.size))
  obtain ⟨c0, c1, c2, c3⟩ := box_cells HX2.out
  clear hb2
  rcases he with ⟨hz, rfl⟩ | ⟨hz, bv, rfl, hrow⟩
  · have HZ := hid hz
    have d1 : (z != 0) = true := by simpa using hz
    clear hz hbx
    go_wp2_with fail
    refine (HR.out w2 HB2.out).mono ?_
    rintro e w3 ⟨rfl, hb3⟩
    have HB3 := hid (HB2.out.trans (hb3.mono HB2.out.size))
    clear hb3 c0 c1 c2 c3
    go_wp2_with fail
    refine (awake_any w3).mono ?_
    rintro e w4 ⟨rfl, hb4⟩
    have HB4 := hid (HB3.out.trans (hb4.mono HB3.out.size))
    clear hb4
    go_wp2
    go_ret
    exact ⟨rfl, HB4.out⟩
  · subst hz
    have hlx := HLEN.out rfl
    have HF0 := hid (HF.out rfl)
    clear HF HLEN
    have HROW2 := hid (owns_low hrow HB1.out.size)
    obtain ⟨ba, bc, rfl, h0⟩ := own_form0 hrow
    have HBS := hid (own_bs hrow)
    obtain ⟨nx, hnx⟩ : ∃ nx, nx = xs.length := ⟨_, rfl⟩
    rw [← hnx] at hlx ⊢
    have HNX := hid hnx
    clear hrow h0 hnx hbx
    go_wp2_with fail
    refine (HR.out w2 HB2.out).mono ?_
    rintro e w3 ⟨rfl, hb3⟩
    have HB3 := hid (HB2.out.trans (hb3.mono HB2.out.size))
    have HX3 := hid ((hb3.block bx (lt_of_heap HX2.out)).trans HX2.out)
    have HBS3 := hid ((HBS.out.below hb3).mono hb3.size)
    clear hb3 c0 c1 c2 c3 HBS
    obtain ⟨c0, c1, c2, c3⟩ := box_cells HX3.out
    go_wp2_with fail
    refine (HF0.out w3 HB3.out).mono ?_
    rintro e w4 ⟨yv, rfl, hrow4, hb4⟩
    obtain ⟨ya, yc, rfl, h0⟩ := own_form0 hrow4
    have HBS4 := hid ((HBS3.out.below hb4).mono hb4.size)
    have HBY4 := hid (own_bs hrow4)
    have HB4 := hid (HB3.out.trans (hb4.mono HB3.out.size))
    rw [← HNX.out]
    clear hrow4 h0 hb4 c0 c1 c2 c3
    go_wp2_with fail
    refine (SameBytes_any w4 ba ya bc yc nx nx xs xs HNX.out HNX.out HBS4.out HBY4.out (by omega) (by omega)).mono ?_
    rintro e w5 ⟨rfl, hb5⟩
    have HB5 := hid (HB4.out.trans (hb5.mono HB4.out.size))
    have hself : (xs == xs) = true := by simp
    rw [hself]
    clear hb5 hself
    go_wp2_with fail
    refine (awake_any w5).mono ?_
    rintro e w6 ⟨rfl, hb6⟩
    have HB6 := hid (HB5.out.trans (hb6.mono HB5.out.size))
    clear hb6
    go_wp2
    go_ret
    exact ⟨rfl, HB6.out⟩
end Go.Proofs.Ytjpegddellhbkaa
