/-
  The law's example (layer 6).
-/
import Derived.Test.YtplckmoeaeabgaaVpE
import Derived.Test.YtplckmoeaeabgaaVpF
import Derived.Test.YtplckmoeaeabgaaVrS
namespace Go.Proofs.Ytplckmoeaeabgaa
open Go Go.ChangeShapes Go.WideShapes Go.ChangeAt Go.RowKit Go.Shelf

/-- How many values are in one. -/
def cntV : Vr → Nat
  | .mk _ _ _ l => 1 + (l.map cntV).sum
theorem cntV_mk (k n : Int) (s : List Int) (l : List Vr) : cntV (.mk k n s l) = 1 + (l.map cntV).sum := by rw [cntV]
theorem walk_cnt (v : Mv) : ∀ d, (walkM v d).length = cntV v.vr := by
  induction v using Mv.ind with
  | h k n s a c l ih =>
    intro d
    rw [walkM_mk, Mv.vr_mk, cntV_mk, List.length_cons, List.length_flatMap, Nat.add_comm, List.map_map]
    congr 2
    exact List.map_congr_left fun x hx => ih x hx _
theorem PCheck_any (w : World) (v : Vr) (cs : List Value) (h : VIn w w.heap.size v cs) : Calls Try.prog 9 #[.agg cs.toArray] w fun e w' => e = .returned (.int .i64 (chk 8 v)) ∧ Below w.heap.size w w' := by
  obtain ⟨m, rfl, rfl, hm⟩ := VS.tree h
  exact callsIn_wide.1 (PCheck_in 3 (Nat.le_refl _) w m hm)
theorem PEncode_any (w : World) (v : Vr) (cs : List Value) (h : VIn w w.heap.size v cs) (hN : chk 8 v = 0 → cntV v ≤ 1000000000) : Calls Try.prog 12 #[.agg cs.toArray] w (PEncPost w v) := by
  obtain ⟨m, rfl, rfl, hm⟩ := VS.tree h
  exact callsIn_wide.1 (PEncode_in 3 (Nat.le_refl _) w m hm (fun h => by rw [walk_cnt]; exact hN h))
/-- What was laid is read. -/
theorem dec_back {v : Vr} (hc : chk 8 v = 0) (ho : okV 8 v) : decV (encV 8 [] v) = (v, 0) := by
  have h := rdVr_enc 8 [] v [] hc ho
  rw [List.append_nil] at h
  simp only [List.length_nil] at h
  unfold decV
  rw [h]
  simp
def someV : Vr := .mk 6 0 [] [.mk 1 1 [] [], .mk 4 0 [97] []]
theorem some_chk : chk 8 someV = 0 := by decide +kernel
theorem some_ok : okV 8 someV := by
  refine ⟨⟨by decide, by decide⟩, fun x hx => by simp [someV, Vr.s] at hx, fun x hx => ?_⟩
  simp only [someV, Vr.l, List.mem_cons, List.not_mem_nil, or_false] at hx
  rcases hx with rfl | rfl
  · exact ⟨⟨by decide, by decide⟩, fun x hx => by simp [Vr.s] at hx, fun x hx => by simp [Vr.l] at hx⟩
  · refine ⟨⟨by decide, by decide⟩, fun x hx => ?_, fun x hx => by simp [Vr.l] at hx⟩
    simp only [Vr.s, List.mem_cons, List.not_mem_nil, or_false] at hx
    subst hx; exact ⟨by decide, by decide⟩
theorem some_enc : encV 8 [] someV = [6, 0, 0, 0, 2, 0, 0, 0, 1, 1, 4, 0, 1, 0, 0, 0, 97] := by decide +kernel
theorem some_dec : decV [6, 0, 0, 0, 2, 0, 0, 0, 1, 1, 4, 0, 1, 0, 0, 0, 97] = (someV, 0) := by rw [← some_enc]; exact dec_back some_chk some_ok
theorem some_cnt : cntV someV = 3 := by simp [someV, cntV_mk]
def somePost (w : World) (e : Ending) (w' : World) : Prop := ∃ a c, e = .returned (.agg #[.int .i64 6, .int .i64 0, .string ⟨#[]⟩, .slice a 2 c]) ∧ VS w' (fun b => w.heap.size ≤ b ∧ b < w'.heap.size) someV [.int .i64 6, .int .i64 0, .string ⟨#[]⟩, .slice a 2 c] ∧ Below w.heap.size w w'
theorem results_cell1 {fn : Func} {p : Tmp} {ty : TypeId} (h : fn.results = #[.cell p ty]) (tmps : Array Value) (P : Program) (w : World) :
    (results fn tmps).run P w = ((asAddr (tmps.getD p undef)).run P w).andThen fun a w₁ => (loadVar ty a).run P w₁ := by
  simp only [results, h]
  simp [Sem.run_bind, Result.andThen]
theorem some_in {W : World} {B g : Nat} (hB : B ≤ g) (h : W.heap[g]? = some (.cells #[.int .i64 1, .int .i64 1, .string ⟨#[]⟩, .slice none 0 0, .int .i64 4, .int .i64 0, .string ⟨#[97]⟩, .slice none 0 0] 24 (0, 0))) :
    VS W (fun b => B ≤ b ∧ b < W.heap.size) someV [.int .i64 6, .int .i64 0, .string ⟨#[]⟩, .slice (some ⟨g, 0, none⟩) 2 2] := by
  have hc := fun j => cell_of_row W g j _ _ _ h
  refine .mk 6 0 [] [.mk 1 1 [] [], .mk 4 0 [97] []] (some ⟨g, 0, none⟩) 2 (fun i => if i = 0 then [.int .i64 1, .int .i64 1, .string ⟨#[]⟩, .slice none 0 0] else [.int .i64 4, .int .i64 0, .string ⟨#[97]⟩, .slice none 0 0]) (by omega) (by omega) (fun x hx => by simp at hx) ⟨by simp, by omega⟩ (fun h => by cases h)
    (fun _ => ⟨g, 0, rfl, hB, lt_of_heap h⟩) (fun b o he i x hx j u hu => ?_) (fun i x hx => ?_)
  · cases he
    rw [hc]
    have hi : i < 2 := by have := (List.getElem?_eq_some_iff.1 hx).1; simpa using this
    match i, hi with
    | 0, _ =>
      match j, hu with
      | 0, hu => simpa using hu
      | 1, hu => simpa using hu
      | 2, hu => simpa using hu
      | 3, hu => simpa using hu
      | j + 4, hu => simp at hu
    | 1, _ =>
      match j, hu with
      | 0, hu => simpa using hu
      | 1, hu => simpa using hu
      | 2, hu => simpa using hu
      | 3, hu => simpa using hu
      | j + 4, hu => simp at hu
  · have hi : i < 2 := by have := (List.getElem?_eq_some_iff.1 hx).1; simpa using this
    match i, hi with
    | 0, _ => cases hx; exact num_in W _ 1 1 (by omega) (by omega)
    | 1, _ => cases hx; exact text_in W _ [97] (fun x hx => by simp at hx; omega)
set_option maxHeartbeats 1000000 in
set_option maxRecDepth 100000 in
theorem some_any (w : World) : Calls Try.prog 29 #[] w (somePost w) := by
  go_enter Try.func29, Try.ntmps29
  go_wp2
  have hb : Below w.heap.size w ((w.alloc (.cells #[.int .i64 6, .int .i64 0, .string ⟨#[]⟩, .slice (some ⟨w.heap.size + 1, 0, none⟩) 2 2] 24)).alloc (.cells #[.int .i64 1, .int .i64 1, .string ⟨#[]⟩, .slice none 0 0, .int .i64 4, .int .i64 0, .string ⟨#[97]⟩, .slice none 0 0] 24)) := ((Below.refl _ w).alloc (Nat.le_refl _) _).alloc (by simp) _
  obtain ⟨h0, h1⟩ := two_alloc w (.cells #[.int .i64 6, .int .i64 0, .string ⟨#[]⟩, .slice (some ⟨w.heap.size + 1, 0, none⟩) 2 2] 24) (.cells #[.int .i64 1, .int .i64 1, .string ⟨#[]⟩, .slice none 0 0, .int .i64 4, .int .i64 0, .string ⟨#[97]⟩, .slice none 0 0] 24)
  refine bodyPost_ret (v := .agg #[.int .i64 6, .int .i64 0, .string ⟨#[]⟩, .slice (some ⟨w.heap.size + 1, 0, none⟩) 2 2]) ?_ rfl ⟨_, _, rfl, some_in (by omega) h1, hb⟩
  rw [results_cell1 (fn := Try.f29) rfl]
  have := load_var _ w.heap.size _ _ _ _ _ h0
  simp [asAddr, this, Result.andThen]
theorem VS.in' {w' : World} {B : Nat} {v : Vr} {cs : List Value} (h : VS w' (fun b => B ≤ b ∧ b < w'.heap.size) v cs) : VIn w' w'.heap.size v cs := VS.weak (fun _ hb => hb.2) h
set_option maxHeartbeats 4000000 in
set_option maxRecDepth 100000 in
theorem awake_any (w : World) : Calls Try.prog 11 #[] w fun e w' => e = .returned (.bool true) ∧ Below w.heap.size w w' := by
  go_enter Try.func11, Try.ntmps11
  go_wp2_with fail
  refine (some_any w).mono ?_
  rintro e w1 ⟨sa, sc, rfl, hs1, hb1⟩
  have HE1 := hid (PEncode_any w1 someV _ hs1.in' (fun _ => by rw [some_cnt]; omega))
  have HB1 := hid hb1
  clear hs1 hb1
  go_wp2_with fail
  refine HE1.out.mono ?_
  rintro e w2 ⟨hb2, h | ⟨_, bv, rfl, hrow⟩⟩
  · exact absurd some_chk h.1
  rw [some_enc] at hrow
  obtain ⟨ba, bc, rfl, h0⟩ := own_form0 hrow
  have hbs := own_bs hrow
  have HB2 := hid (HB1.out.trans (hb2.mono HB1.out.size))
  have HD := hid (PDecode_any w2 ba bc _ [6, 0, 0, 0, 2, 0, 0, 0, 1, 1, 4, 0, 1, 0, 0, 0, 97] rfl hbs h0 (by intro x hx; simp at hx; omega) (by simp))
  rw [some_dec] at HD
  have HBS := hid hbs
  obtain ⟨b, o, rfl, _⟩ := hbs.some (by simp)
  clear hrow h0 hb2 hbs HE1
  have hl17 : ([6, 0, 0, 0, 2, 0, 0, 0, 1, 1, 4, 0, 1, 0, 0, 0, 97] : List Int).length = 17 := rfl
  rw [hl17] at HD ⊢
  go_wp2_with fail
  refine HD.out.mono ?_
  rintro e w3 ⟨ck, cn, cb, ca, cl, cc, rfl, hx3, hb3⟩
  simp only at hx3 ⊢
  have hbb : Below w.heap.size w (w3.alloc (.cells #[.int .i64 ck, .int .i64 cn, .string cb, .slice ca cl cc] 24)) := (HB2.out.trans (hb3.mono HB2.out.size)).alloc (by have := HB2.out.size; have := hb3.size; omega) _
  have hv4 := heap_alloc_new w3 (.cells #[.int .i64 ck, .int .i64 cn, .string cb, .slice ca cl cc] 24)
  have hx4 : VIn (w3.alloc (.cells #[.int .i64 ck, .int .i64 cn, .string cb, .slice ca cl cc] 24)) (w3.alloc (.cells #[.int .i64 ck, .int .i64 cn, .string cb, .slice ca cl cc] 24)).heap.size someV [.int .i64 ck, .int .i64 cn, .string cb, .slice ca cl cc] :=
    VIn.on hx3.in' ((Below.refl _ w3).alloc (Nat.le_refl _) _)
  have hat : ∀ j v, ([.int .u8 6, .int .u8 0, .int .u8 0, .int .u8 0, .int .u8 2, .int .u8 0, .int .u8 0, .int .u8 0, .int .u8 1, .int .u8 1, .int .u8 4, .int .u8 0, .int .u8 1, .int .u8 0, .int .u8 0, .int .u8 0, .int .u8 97] : List Value)[j]? = some v → (w3.alloc (.cells #[.int .i64 ck, .int .i64 cn, .string cb, .slice ca cl cc] 24)).cell? ⟨b, o + j, none⟩ = some v := by
    have h1 := (HBS.out.below hb3).below ((Below.refl w3.heap.size w3).alloc (Nat.le_refl _) (.cells #[.int .i64 ck, .int .i64 cn, .string cb, .slice ca cl cc] 24) |>.mono hb3.size)
    exact h1.cells b o rfl
  have e0 := hat 0 _ rfl
  have e16 := hat 16 _ rfl
  obtain ⟨w4, hw4⟩ : ∃ w4, w4 = w3.alloc (.cells #[.int .i64 ck, .int .i64 cn, .string cb, .slice ca cl cc] 24) := ⟨_, rfl⟩
  obtain ⟨pV, hpV⟩ : ∃ pV, pV = w3.heap.size := ⟨_, rfl⟩
  rw [← hw4] at hbb hv4 hx4 e0 e16
  rw [← hpV] at hv4
  have HW4 := hid hw4
  have HPV := hid hpV
  have HBB := hid hbb
  have HX4 := hid hx4
  have HV4 := hid hv4
  clear hat hw4 hpV hbb hx4 hv4 hx3 hb3 HB1 HB2 HBS hl17 HD
  rename_i K3 h3 K2 h2
  have H3 := hid h3
  clear h3
  go_wp2
  rw [← HW4.out, ← HPV.out]
  refine H3.out _ _ ?_
  clear H3 HW4 HPV
  rw [Nat.add_zero] at e0
  have HE0 := hid (fun W (hW : Below w4.heap.size w4 W) => (World.cell?_of_block (w := w4) (w' := W) (a := ⟨b, o, none⟩) (hW.block b (World.block_lt_of_cell? w4 _ e0))).trans e0)
  have HE16 := hid (fun W (hW : Below w4.heap.size w4 W) => (World.cell?_of_block (w := w4) (w' := W) (a := ⟨b, o + 16, none⟩) (hW.block b (World.block_lt_of_cell? w4 _ e0))).trans e16)
  have HVV := hid (fun W (hW : Below w4.heap.size w4 W) => box_cells ((hW.block pV (lt_of_heap HV4.out)).trans HV4.out))
  clear e0 e16
  go_wp2
  refine D.wp_region_mix [0, 0, 0, 0, 0, 0, 0, 0, 0, 0, 0, 0, 0, 0, 1, 0, 0, 0, 0, 0, 1, 0, 0, 0, 1, 2, 3, 0, 0] (fun W => Below w4.heap.size w4 W) (by kernel_rfl) (by kernel_rfl) ((Below.refl _ w4).drew) ?_
  repeat (first
    | (refine' C.wpMix_value _ rfl rfl _ _; rotate_left; (solve | (intro W; go_simp) | (intro W; go_simp; with_reducible rfl)); simp only [Act.put, List.setIfInBounds_toArray, List.set_cons_zero, List.set_cons_succ])
    | (refine' C.wpMix_read _ rfl rfl _ _; rotate_left; (solve | (intro W hS; have k0 := HE0.out W hS; have k16 := HE16.out W hS; obtain ⟨v0, v1, v2, v3⟩ := HVV.out W hS; go_simp) | (intro W hS; have k0 := HE0.out W hS; have k16 := HE16.out W hS; obtain ⟨v0, v1, v2, v3⟩ := HVV.out W hS; go_simp; with_reducible rfl)); simp only [Act.put, List.setIfInBounds_toArray, List.set_cons_zero, List.set_cons_succ]))
  refine C.wpMix_call 29 #[] (by decide) rfl (by go_simp) ?_
  refine (some_any _).mono ?_
  rintro e w5 ⟨ta, tc, rfl, ht5, hb5⟩
  have hb45 : Below w4.heap.size w4 w5 := ((Below.refl _ w4).drew).trans hb5
  have HB45 := hid hb45
  have HS := hid (Same_any someV someV [.int .i64 ck, .int .i64 cn, .string cb, .slice ca cl cc] [.int .i64 6, .int .i64 0, .string ⟨#[]⟩, .slice ta 2 tc] w5 (VIn.on HX4.out hb45) ht5.in')
  have HB5 := hid (HBB.out.trans (hb45.mono HBB.out.size))
  refine ⟨_, rfl, (fun _ => HB45.out), ?_⟩
  simp only [Act.put, List.setIfInBounds_toArray, List.set_cons_zero, List.set_cons_succ]
  clear hb5 hb45 ht5
  refine C.wpMix_call 18 #[.agg #[.int .i64 ck, .int .i64 cn, .string cb, .slice ca cl cc], .agg #[.int .i64 6, .int .i64 0, .string ⟨#[]⟩, .slice ta 2 tc]] (by decide) rfl (by go_simp) ?_
  refine HS.out.mono ?_
  rintro e w6 ⟨⟨r, rfl, hr⟩, hb6⟩
  obtain rfl : r = true := hr.2 rfl
  have HB6 := hid (HB5.out.trans (hb6.mono HB5.out.size))
  refine ⟨_, rfl, (fun h => by cases h), ?_⟩
  simp only [Act.put, List.setIfInBounds_toArray, List.set_cons_zero, List.set_cons_succ]
  clear hb6 hr
  repeat (first
    | (refine' C.wpMix_value _ rfl rfl _ _; rotate_left; (solve | (intro W; go_simp) | (intro W; go_simp; with_reducible rfl)); simp only [Act.put, List.setIfInBounds_toArray, List.set_cons_zero, List.set_cons_succ])
    | (refine' C.wpMix_read _ rfl rfl _ _; rotate_left; (solve | (intro W hS; have k0 := HE0.out W hS; have k16 := HE16.out W hS; obtain ⟨v0, v1, v2, v3⟩ := HVV.out W hS; go_simp) | (intro W hS; have k0 := HE0.out W hS; have k16 := HE16.out W hS; obtain ⟨v0, v1, v2, v3⟩ := HVV.out W hS; go_simp; with_reducible rfl)); simp only [Act.put, List.setIfInBounds_toArray, List.set_cons_zero, List.set_cons_succ]))
  refine C.wpMix_end ?_
  go_wp2
  go_ret
  exact ⟨rfl, HB6.out⟩
end Go.Proofs.Ytplckmoeaeabgaa
