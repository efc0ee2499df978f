/-
  The contract of variant.readHead.
-/
import Derived.Test.YtplckmoeaeabgaaVpR
namespace Go.Proofs.Ytplckmoeaeabgaa
open Go Go.ChangeShapes Go.WideShapes Go.ChangeAt Go.RowKit

/-- What is read of a value ahead of its parts. -/
structure Hd where
  k : Int
  n : Int
  s : List Int
  c : Int
  j : Nat
  e : Int
def hdE (e : Int) : Hd := ⟨0, 0, [], 0, 0, e⟩
def rdH (b : List Int) (a : Nat) : Hd :=
  if (rd b a 1).2.2 ≠ 0 then hdE (rd b a 1).2.2
  else if (rd b a 1).1 = 0 then ⟨0, 0, [], 0, (rd b a 1).2.1, 0⟩
  else if (rd b a 1).1 = 4 then (if (rdT b (rd b a 1).2.1 256).2.2 ≠ 0 then hdE (rdT b (rd b a 1).2.1 256).2.2 else ⟨4, 0, (rdT b (rd b a 1).2.1 256).1, 0, (rdT b (rd b a 1).2.1 256).2.1, 0⟩)
  else if (rd b a 1).1 = 6 then (if (rdC b (rd b a 1).2.1).2.2 ≠ 0 then hdE (rdC b (rd b a 1).2.1).2.2 else ⟨6, 0, [], (rdC b (rd b a 1).2.1).1, (rdC b (rd b a 1).2.1).2.1, 0⟩)
  else (if (rdN (rd b a 1).1 b (rd b a 1).2.1).2.2 ≠ 0 then hdE (rdN (rd b a 1).1 b (rd b a 1).2.1).2.2 else ⟨(rd b a 1).1, (rdN (rd b a 1).1 b (rd b a 1).2.1).1, [], 0, (rdN (rd b a 1).1 b (rd b a 1).2.1).2.1, 0⟩)
def HeadPost (w : World) (p : Nat) (v : Value) (xs : List Int) (h : Hd) (e : Ending) (w' : World) : Prop :=
  e = .returned (.tuple #[.agg #[.int .i64 h.k, .int .i64 h.n, .string (strI h.s), .slice none 0 0], .int .u64 h.c, .int .i64 h.e]) ∧ (∃ j, RdW w' p v j xs ∧ (h.e = 0 → j = h.j)) ∧ Fr (fun j => j = p) w w'
/-- One block, and new ones. -/
abbrev FrN (p : Nat) (w W : World) : Prop := Fr (fun j => j = p ∨ w.heap.size ≤ j) w W
theorem FrN.fr {p : Nat} {w W : World} (h : FrN p w W) : Fr (fun j => j = p) w W := ⟨h.os, h.tape, h.output, h.size, fun k hk hn => h.block k hk (fun e => by
  rcases e with e | e
  · exact hn e
  · omega)⟩
theorem FrN.call {p : Nat} {w W W' : World} (h : FrN p w W) (k : Fr (fun j => j = p) W W') : FrN p w W' := h.trans k (fun _ hj _ => .inl hj)
theorem FrN.set {p q i : Nat} {w W : World} (h : FrN p w W) (hq : w.heap.size ≤ q) (u : Value) : FrN p w (W.setCell ⟨q, i, none⟩ u) := h.trans ((Fr.refl (fun j => j = q) W).setCell ⟨q, i, none⟩ u (fun _ => rfl)) (fun j hj _ => .inr (by rw [hj]; exact hq))
theorem FrN.new (p : Nat) (w : World) (o : Obj) : FrN p w (w.alloc o) := (frA w o).mono (fun _ h => h.elim)
theorem RdW.off {W W' : World} {p a q : Nat} {v : Value} {xs : List Int} {cs : Array Value} {fz : Nat × Nat} (h : RdW W p v a xs) (hq : W.heap[q]? = some (.cells cs 24 fz)) (hf : Fr (fun j => j = q) W W') : RdW W' p v a xs :=
  h.fr hf (fun e => by rw [← e, h.hp] at hq; cases hq) (fun k hk e => by
    subst e
    rcases h.row.2 with ⟨rfl, _⟩ | ⟨g, cap, cur, rfl, _, hgb, _⟩
    · simp [Value.ownBlock] at hk
    · obtain rfl : g = k := by simpa [Value.ownBlock] using hk
      rw [hgb] at hq; cases hq)
theorem RdW.set4 {W : World} {p a q i : Nat} {v u : Value} {xs : List Int} {cs : Array Value} {fz : Nat × Nat} (h : RdW W p v a xs) (hq : W.heap[q]? = some (.cells cs 24 fz)) : RdW (W.setCell ⟨q, i, none⟩ u) p v a xs :=
  h.off hq ((Fr.refl _ W).setCell ⟨q, i, none⟩ u (fun _ => rfl))
theorem RdW.alloc {W : World} {p a : Nat} {v : Value} {xs : List Int} (h : RdW W p v a xs) (o : Obj) : RdW (W.alloc o) p v a xs := h.fr (frA W o) (fun h => h) (fun _ _ h => h)
theorem RdW.heap {W W' : World} {p a q t : Nat} {v : Value} {xs : List Int} {cs : Array Value} {fz : Nat × Nat} (h : RdW W p v a xs) (k : Fr (fun j => j = p) W W') (hq : W.heap[q]? = some (.cells cs t fz)) (ht : t ≠ 80) : W'.heap[q]? = some (.cells cs t fz) := by
  rw [k.block q (lt_of_heap hq) (fun e => by
    subst e
    rw [h.hp] at hq; cases hq; exact ht rfl)]
  exact hq
set_option maxRecDepth 100000 in
theorem head_ret {Q : Ending → World → Prop} {tmps : Array Value} {W : World} {b : Nat} {c0 c1 c2 c3 u v : Value} {fz : Nat × Nat} (h6 : tmps.getD 4 undef = .pointer (some ⟨b, 0, none⟩)) (h7 : tmps.getD 5 undef = u) (h8 : tmps.getD 6 undef = v)
    (h : W.heap[b]? = some (.cells #[c0, c1, c2, c3] 24 fz)) (hq : Q (.returned (.tuple #[.agg #[c0, c1, c2, c3], u, v])) W) : bodyPost Try.prog Try.f47 Q Exit.ret { tmps := tmps, defers := [] } W := by
  refine bodyPost_ret (a := { tmps := tmps, defers := [] }) (v := .tuple #[.agg #[c0, c1, c2, c3], u, v]) ?_ rfl hq
  rw [results_cell_tmp2 (fn := Try.f47) rfl, h6, h7, h8]
  have := load_var W b c0 c1 c2 c3 fz h
  simp [asAddr, this, Result.andThen]
theorem rd_kind {b : List Int} {a : Nat} (h : Byt b) : 0 ≤ (rd b a 1).1 ∧ (rd b a 1).1 ≤ 255 := by
  refine ⟨(rd_pos (a := a) (s := 1) h).1, ?_⟩
  unfold rd
  by_cases h1 : fits 1 = false
  · rw [if_pos h1]; exact (by decide : (0 : Int) ≤ 255)
  · rw [if_neg h1]
    by_cases h2 : b.length < a + gap a (1 : Int).toNat + (1 : Int).toNat
    · rw [if_pos h2]; exact (by decide : (0 : Int) ≤ 255)
    · rw [if_neg h2]
      by_cases h3 : ((b.drop a).take (gap a (1 : Int).toNat)).all (· == 0) = false
      · rw [if_pos h3]; exact (by decide : (0 : Int) ≤ 255)
      · rw [if_neg h3]
        have := (valL_le (h.part (a + gap a (1 : Int).toNat) (1 : Int).toNat) 1 (by rw [List.length_take]; exact Nat.le_trans (Nat.min_le_left _ _) (Nat.le_refl _))).2
        rw [show (256 : Int) ^ 1 = 256 by decide] at this
        exact Int.le_of_lt_add_one this
set_option maxHeartbeats 1000000 in
set_option maxRecDepth 100000 in
theorem readHead_deep (w : World) (q : Value) (d : Int) (hd : 8 < d) : Calls Try.prog 47 #[q, .int .i64 d] w fun e w' => e = .returned (.tuple #[.agg #[.int .i64 0, .int .i64 0, .string ⟨#[]⟩, .slice none 0 0], .int .u64 0, .int .i64 16]) ∧ Below w.heap.size w w' := by
  have hdd : decide (8 < d) = true := by simpa using hd
  clear hd
  have hb := heap_alloc_new w (.cells #[.int .i64 0, .int .i64 0, .string ⟨#[]⟩, .slice none 0 0] 24)
  have HB := hid hb
  have zR := fun k => frozen_of_row _ w.heap.size k _ _ hb
  clear hb
  go_enter Try.func47, Try.ntmps47
  go_wp2
  exact head_ret rfl rfl rfl HB.out ⟨rfl, (Below.refl _ w).alloc (Nat.le_refl _) _⟩
theorem FrN.put4 {p q : Nat} {w W : World} (h : FrN p w W) (hq : w.heap.size ≤ q) (c0 c1 c2 c3 : Value) : FrN p w (put4 W q c0 c1 c2 c3) := h.trans (put4_fr W q c0 c1 c2 c3) (fun j hj _ => .inr (by rw [hj]; exact hq))
set_option maxHeartbeats 4000000 in
set_option maxRecDepth 100000 in
theorem readHead_any (w : World) (p a : Nat) (v : Value) (xs : List Int) (d : Int) (h : RdW w p v a xs) (hb : Byt xs) (hl : xs.length ≤ 140737488351232) (hd : d ≤ 8) :
    Calls Try.prog 47 #[.pointer (some ⟨p, 0, none⟩), .int .i64 d] w (HeadPost w p v xs (rdH xs a)) := by
  have hdd : decide (8 < d) = false := by simp; omega
  have hA : RdW (w.alloc (.cells #[.int .i64 0, .int .i64 0, .string ⟨#[]⟩, .slice none 0 0] 24)) p v a xs := h.alloc _
  have H1 := hid (RdNum_any (w.alloc (.cells #[.int .i64 0, .int .i64 0, .string ⟨#[]⟩, .slice none 0 0] 24)) p a v xs 1 hA hb hl)
  have HA := hid hA
  have HBX := hid (heap_alloc_new w (.cells #[.int .i64 0, .int .i64 0, .string ⟨#[]⟩, .slice none 0 0] 24))
  have HT4 := hid (fun j W (hW : RdW W p v j xs) => readText_any W p j v xs hW hb hl)
  have HT6 := hid (fun j W (hW : RdW W p v j xs) => readCount_any W p j v xs hW hb hl)
  have HTN := hid (fun k j W (hW : RdW W p v j xs) => readNumber_any W p j v xs k hW hb hl)
  unfold NPost at HT6 HTN
  have hkd := rd_kind (a := a) hb
  obtain ⟨r, hr⟩ : ∃ r, r = rdH xs a := ⟨_, rfl⟩
  rw [← hr]
  unfold rdH at hr
  generalize rd xs a 1 = q at *
  obtain ⟨K, j, e⟩ := q
  simp only at hr H1 hkd
  obtain ⟨hk0, hk1⟩ := hkd
  have hwK : IntKind.i64.wrap K = K := IntWalk.i64_in _ ⟨by omega, by omega⟩
  clear h hb hd hA
  by_cases he : e = 0
  · subst he
    rw [if_neg (by simp)] at hr
    by_cases k0 : K = 0
    · subst k0
      rw [if_pos rfl] at hr
      have HR := hid hr
      clear hr hk0 hk1
      go_enter Try.func47, Try.ntmps47
      go_wp2_with fail
      refine H1.out.mono ?_
      rintro e w2 ⟨rfl, hrd2, hfr2⟩
      have hR2 := HA.out.heap hfr2 HBX.out (by decide)
      have hF2 := (FrN.new p w (.cells #[.int .i64 0, .int .i64 0, .string ⟨#[]⟩, .slice none 0 0] 24)).call hfr2
      obtain ⟨pR, hpR⟩ : ∃ pR, pR = w.heap.size := ⟨_, rfl⟩
      rw [← hpR] at hR2 ⊢
      have hlo : w.heap.size ≤ pR := by omega
      have HRD2 := hid hrd2
      have HF2 := hid hF2
      have HR2 := hid hR2
      obtain ⟨c0, c1, c2, c3⟩ := box_cells hR2
      have zR := fun k => frozen_of_row w2 pR k _ _ hR2
      clear hpR hrd2 hfr2 hR2 hF2 HBX
      have HR3 := hid (show (w2.setCell ⟨pR, 0, none⟩ (.int .i64 0)).heap[pR]? = some (.cells #[.int .i64 0, .int .i64 0, .string ⟨#[]⟩, .slice none 0 0] 24 (0, 0)) by rw [heap_setCell_same w2 pR 0 _ _ (.int .i64 0) HR2.out]; rfl)
      have HRD3 := hid (show RdW (w2.setCell ⟨pR, 0, none⟩ (.int .i64 0)) p v j xs from HRD2.out.set4 HR2.out)
      have HF3 := hid (show FrN p w (w2.setCell ⟨pR, 0, none⟩ (.int .i64 0)) from HF2.out.set hlo _)
      go_wp2
      refine head_ret rfl rfl rfl (put4_heap (c0 := (.int .i64 0)) (c1 := (.int .i64 0)) (c2 := (.string ⟨#[]⟩)) (c3 := (.slice none 0 0)) HR3.out) ?_
      obtain rfl := HR.out
      exact ⟨rfl, ⟨j, HRD3.out.off HR3.out (put4_fr _ _ _ _ _ _), fun h => rfl⟩, (HF3.out.put4 hlo _ _ _ _).fr⟩
    rw [if_neg k0] at hr
    have b0 : (K == 0) = false := by simpa using k0
    by_cases k4 : K = 4
    · subst k4
      rw [if_pos rfl] at hr
      have HT4j := hid (fun W hW => HT4.out j W hW)
      generalize rdT xs j 256 = t at *
      obtain ⟨tx, jt, et⟩ := t
      simp only at hr HT4j
      obtain ⟨bs, hbs⟩ : ∃ bs, bs = strI tx := ⟨_, rfl⟩
      rw [← hbs] at HT4j
      have HBS := hid hbs
      clear hbs
      by_cases het : et = 0
      · subst het
        rw [if_neg (by simp)] at hr
        have HR := hid hr
        clear hr hk0 hk1 k0 b0
        go_enter Try.func47, Try.ntmps47
        go_wp2_with fail
        refine H1.out.mono ?_
        rintro e w2 ⟨rfl, hrd2, hfr2⟩
        have hR2 := HA.out.heap hfr2 HBX.out (by decide)
        have hF2 := (FrN.new p w (.cells #[.int .i64 0, .int .i64 0, .string ⟨#[]⟩, .slice none 0 0] 24)).call hfr2
        obtain ⟨pR, hpR⟩ : ∃ pR, pR = w.heap.size := ⟨_, rfl⟩
        rw [← hpR] at hR2 ⊢
        have hlo : w.heap.size ≤ pR := by omega
        have HRD2 := hid hrd2
        have HF2 := hid hF2
        have HR2 := hid hR2
        obtain ⟨c0, c1, c2, c3⟩ := box_cells hR2
        have zR := fun k => frozen_of_row w2 pR k _ _ hR2
        clear hpR hrd2 hfr2 hR2 hF2 HBX
        have HR3 := hid (show (w2.setCell ⟨pR, 0, none⟩ (.int .i64 4)).heap[pR]? = some (.cells #[.int .i64 4, .int .i64 0, .string ⟨#[]⟩, .slice none 0 0] 24 (0, 0)) by rw [heap_setCell_same w2 pR 0 _ _ (.int .i64 4) HR2.out]; rfl)
        have HRD3 := hid (show RdW (w2.setCell ⟨pR, 0, none⟩ (.int .i64 4)) p v j xs from HRD2.out.set4 HR2.out)
        have HF3 := hid (show FrN p w (w2.setCell ⟨pR, 0, none⟩ (.int .i64 4)) from HF2.out.set hlo _)
        go_wp2_with fail
        refine (HT4j.out _ HRD3.out).mono ?_
        rintro e w4 ⟨rfl, hrd4, hfr4⟩
        simp only at hrd4 ⊢
        have hR4 := HRD3.out.heap hfr4 HR3.out (by decide)
        obtain ⟨d0, d1, d2, d3⟩ := box_cells hR4
        have zR4 := fun k => frozen_of_row w4 pR k _ _ hR4
        have HRD4 := hid hrd4
        have HR4 := hid hR4
        have HF4 := hid (HF3.out.call hfr4)
        clear hrd4 hfr4 hR4 c0 c1 c2 c3 zR
        have HR5 := hid (show (w4.setCell ⟨pR, 2, none⟩ (.string bs)).heap[pR]? = some (.cells #[.int .i64 4, .int .i64 0, .string bs, .slice none 0 0] 24 (0, 0)) by rw [heap_setCell_same w4 pR 2 _ _ (.string bs) HR4.out]; rfl)
        have HRD5 := hid (HRD4.out.set4 (i := 2) (u := .string bs) HR4.out)
        have HF5 := hid (HF4.out.set (i := 2) hlo (.string bs))
        go_wp2
        refine head_ret rfl rfl rfl (put4_heap (c0 := (.int .i64 4)) (c1 := (.int .i64 0)) (c2 := (.string bs)) (c3 := (.slice none 0 0)) HR5.out) ?_
        obtain rfl := HR.out
        exact ⟨by rw [HBS.out]; rfl, ⟨jt, HRD5.out.off HR5.out (put4_fr _ _ _ _ _ _), fun h => rfl⟩, (HF5.out.put4 hlo _ _ _ _).fr⟩
      · rw [if_pos het] at hr
        have HR := hid hr
        have HNE := hid het
        have dt : (et != 0) = true := by simpa using het
        clear hr hk0 hk1 k0 b0 het
        go_enter Try.func47, Try.ntmps47
        go_wp2_with fail
        refine H1.out.mono ?_
        rintro e w2 ⟨rfl, hrd2, hfr2⟩
        have hR2 := HA.out.heap hfr2 HBX.out (by decide)
        have hF2 := (FrN.new p w (.cells #[.int .i64 0, .int .i64 0, .string ⟨#[]⟩, .slice none 0 0] 24)).call hfr2
        obtain ⟨pR, hpR⟩ : ∃ pR, pR = w.heap.size := ⟨_, rfl⟩
        rw [← hpR] at hR2 ⊢
        have hlo : w.heap.size ≤ pR := by omega
        have HRD2 := hid hrd2
        have HF2 := hid hF2
        have HR2 := hid hR2
        obtain ⟨c0, c1, c2, c3⟩ := box_cells hR2
        have zR := fun k => frozen_of_row w2 pR k _ _ hR2
        clear hpR hrd2 hfr2 hR2 hF2 HBX
        have HR3 := hid (show (w2.setCell ⟨pR, 0, none⟩ (.int .i64 4)).heap[pR]? = some (.cells #[.int .i64 4, .int .i64 0, .string ⟨#[]⟩, .slice none 0 0] 24 (0, 0)) by rw [heap_setCell_same w2 pR 0 _ _ (.int .i64 4) HR2.out]; rfl)
        have HRD3 := hid (show RdW (w2.setCell ⟨pR, 0, none⟩ (.int .i64 4)) p v j xs from HRD2.out.set4 HR2.out)
        have HF3 := hid (show FrN p w (w2.setCell ⟨pR, 0, none⟩ (.int .i64 4)) from HF2.out.set hlo _)
        go_wp2_with fail
        refine (HT4j.out _ HRD3.out).mono ?_
        rintro e w4 ⟨rfl, hrd4, hfr4⟩
        simp only at hrd4 ⊢
        have hR4 := HRD3.out.heap hfr4 HR3.out (by decide)
        obtain ⟨d0, d1, d2, d3⟩ := box_cells hR4
        have zR4 := fun k => frozen_of_row w4 pR k _ _ hR4
        have HRD4 := hid hrd4
        have HR4 := hid hR4
        have HF4 := hid (HF3.out.call hfr4)
        clear hrd4 hfr4 hR4 c0 c1 c2 c3 zR
        have HR5 := hid (show (w4.setCell ⟨pR, 2, none⟩ (.string bs)).heap[pR]? = some (.cells #[.int .i64 4, .int .i64 0, .string bs, .slice none 0 0] 24 (0, 0)) by rw [heap_setCell_same w4 pR 2 _ _ (.string bs) HR4.out]; rfl)
        have HRD5 := hid (HRD4.out.set4 (i := 2) (u := .string bs) HR4.out)
        have HF5 := hid (HF4.out.set (i := 2) hlo (.string bs))
        go_wp2
        refine head_ret rfl rfl rfl (put4_heap (c0 := (.int .i64 0)) (c1 := (.int .i64 0)) (c2 := (.string ⟨#[]⟩)) (c3 := (.slice none 0 0)) HR5.out) ?_
        obtain rfl := HR.out
        exact ⟨rfl, ⟨jt, HRD5.out.off HR5.out (put4_fr _ _ _ _ _ _), fun h => absurd h HNE.out⟩, (HF5.out.put4 hlo _ _ _ _).fr⟩
    rw [if_neg k4] at hr
    have b4 : (K == 4) = false := by simpa using k4
    by_cases k6 : K = 6
    · subst k6
      rw [if_pos rfl] at hr
      have HT6j := hid (fun W hW => HT6.out j W hW)
      generalize rdC xs j = t at *
      obtain ⟨nc, jt, et⟩ := t
      simp only at hr HT6j
      by_cases het : et = 0
      · subst het
        rw [if_neg (by simp)] at hr
        have HR := hid hr
        clear hr hk0 hk1 k0 b0 k4 b4
        go_enter Try.func47, Try.ntmps47
        go_wp2_with fail
        refine H1.out.mono ?_
        rintro e w2 ⟨rfl, hrd2, hfr2⟩
        have hR2 := HA.out.heap hfr2 HBX.out (by decide)
        have hF2 := (FrN.new p w (.cells #[.int .i64 0, .int .i64 0, .string ⟨#[]⟩, .slice none 0 0] 24)).call hfr2
        obtain ⟨pR, hpR⟩ : ∃ pR, pR = w.heap.size := ⟨_, rfl⟩
        rw [← hpR] at hR2 ⊢
        have hlo : w.heap.size ≤ pR := by omega
        have HRD2 := hid hrd2
        have HF2 := hid hF2
        have HR2 := hid hR2
        obtain ⟨c0, c1, c2, c3⟩ := box_cells hR2
        have zR := fun k => frozen_of_row w2 pR k _ _ hR2
        clear hpR hrd2 hfr2 hR2 hF2 HBX
        have HR3 := hid (show (w2.setCell ⟨pR, 0, none⟩ (.int .i64 6)).heap[pR]? = some (.cells #[.int .i64 6, .int .i64 0, .string ⟨#[]⟩, .slice none 0 0] 24 (0, 0)) by rw [heap_setCell_same w2 pR 0 _ _ (.int .i64 6) HR2.out]; rfl)
        have HRD3 := hid (show RdW (w2.setCell ⟨pR, 0, none⟩ (.int .i64 6)) p v j xs from HRD2.out.set4 HR2.out)
        have HF3 := hid (show FrN p w (w2.setCell ⟨pR, 0, none⟩ (.int .i64 6)) from HF2.out.set hlo _)
        go_wp2_with fail
        refine (HT6j.out _ HRD3.out).mono ?_
        rintro e w4 ⟨rfl, hrd4, hfr4⟩
        simp only at hrd4 ⊢
        have hR4 := HRD3.out.heap hfr4 HR3.out (by decide)
        obtain ⟨d0, d1, d2, d3⟩ := box_cells hR4
        have zR4 := fun k => frozen_of_row w4 pR k _ _ hR4
        have HRD4 := hid hrd4
        have HR4 := hid hR4
        have HF4 := hid (HF3.out.call hfr4)
        clear hrd4 hfr4 hR4 c0 c1 c2 c3 zR
        go_wp2
        refine head_ret rfl rfl rfl (put4_heap (c0 := (.int .i64 6)) (c1 := (.int .i64 0)) (c2 := (.string ⟨#[]⟩)) (c3 := (.slice none 0 0)) HR4.out) ?_
        obtain rfl := HR.out
        exact ⟨rfl, ⟨jt, HRD4.out.off HR4.out (put4_fr _ _ _ _ _ _), fun h => rfl⟩, (HF4.out.put4 hlo _ _ _ _).fr⟩
      · rw [if_pos het] at hr
        have HR := hid hr
        have HNE := hid het
        have dt : (et != 0) = true := by simpa using het
        clear hr hk0 hk1 k0 b0 k4 b4 het
        go_enter Try.func47, Try.ntmps47
        go_wp2_with fail
        refine H1.out.mono ?_
        rintro e w2 ⟨rfl, hrd2, hfr2⟩
        have hR2 := HA.out.heap hfr2 HBX.out (by decide)
        have hF2 := (FrN.new p w (.cells #[.int .i64 0, .int .i64 0, .string ⟨#[]⟩, .slice none 0 0] 24)).call hfr2
        obtain ⟨pR, hpR⟩ : ∃ pR, pR = w.heap.size := ⟨_, rfl⟩
        rw [← hpR] at hR2 ⊢
        have hlo : w.heap.size ≤ pR := by omega
        have HRD2 := hid hrd2
        have HF2 := hid hF2
        have HR2 := hid hR2
        obtain ⟨c0, c1, c2, c3⟩ := box_cells hR2
        have zR := fun k => frozen_of_row w2 pR k _ _ hR2
        clear hpR hrd2 hfr2 hR2 hF2 HBX
        have HR3 := hid (show (w2.setCell ⟨pR, 0, none⟩ (.int .i64 6)).heap[pR]? = some (.cells #[.int .i64 6, .int .i64 0, .string ⟨#[]⟩, .slice none 0 0] 24 (0, 0)) by rw [heap_setCell_same w2 pR 0 _ _ (.int .i64 6) HR2.out]; rfl)
        have HRD3 := hid (show RdW (w2.setCell ⟨pR, 0, none⟩ (.int .i64 6)) p v j xs from HRD2.out.set4 HR2.out)
        have HF3 := hid (show FrN p w (w2.setCell ⟨pR, 0, none⟩ (.int .i64 6)) from HF2.out.set hlo _)
        go_wp2_with fail
        refine (HT6j.out _ HRD3.out).mono ?_
        rintro e w4 ⟨rfl, hrd4, hfr4⟩
        simp only at hrd4 ⊢
        have hR4 := HRD3.out.heap hfr4 HR3.out (by decide)
        obtain ⟨d0, d1, d2, d3⟩ := box_cells hR4
        have zR4 := fun k => frozen_of_row w4 pR k _ _ hR4
        have HRD4 := hid hrd4
        have HR4 := hid hR4
        have HF4 := hid (HF3.out.call hfr4)
        clear hrd4 hfr4 hR4 c0 c1 c2 c3 zR
        go_wp2
        refine head_ret rfl rfl rfl (put4_heap (c0 := (.int .i64 0)) (c1 := (.int .i64 0)) (c2 := (.string ⟨#[]⟩)) (c3 := (.slice none 0 0)) HR4.out) ?_
        obtain rfl := HR.out
        exact ⟨rfl, ⟨jt, HRD4.out.off HR4.out (put4_fr _ _ _ _ _ _), fun h => absurd h HNE.out⟩, (HF4.out.put4 hlo _ _ _ _).fr⟩
    rw [if_neg k6] at hr
    have b6 : (K == 6) = false := by simpa using k6
    have HTNj := hid (fun W hW => HTN.out K j W hW)
    generalize rdN K xs j = t at *
    obtain ⟨nn, jt, et⟩ := t
    simp only at hr HTNj
    by_cases het : et = 0
    · subst het
      rw [if_neg (by simp)] at hr
      have HR := hid hr
      clear hr hk0 hk1 k0 k4 k6
      go_enter Try.func47, Try.ntmps47
      go_wp2_with fail
      refine H1.out.mono ?_
      rintro e w2 ⟨rfl, hrd2, hfr2⟩
      have hR2 := HA.out.heap hfr2 HBX.out (by decide)
      have hF2 := (FrN.new p w (.cells #[.int .i64 0, .int .i64 0, .string ⟨#[]⟩, .slice none 0 0] 24)).call hfr2
      obtain ⟨pR, hpR⟩ : ∃ pR, pR = w.heap.size := ⟨_, rfl⟩
      rw [← hpR] at hR2 ⊢
      have hlo : w.heap.size ≤ pR := by omega
      have HRD2 := hid hrd2
      have HF2 := hid hF2
      have HR2 := hid hR2
      obtain ⟨c0, c1, c2, c3⟩ := box_cells hR2
      have zR := fun k => frozen_of_row w2 pR k _ _ hR2
      clear hpR hrd2 hfr2 hR2 hF2 HBX
      have HR3 := hid (show (w2.setCell ⟨pR, 0, none⟩ (.int .i64 K)).heap[pR]? = some (.cells #[.int .i64 K, .int .i64 0, .string ⟨#[]⟩, .slice none 0 0] 24 (0, 0)) by rw [heap_setCell_same w2 pR 0 _ _ (.int .i64 K) HR2.out]; rfl)
      have HRD3 := hid (show RdW (w2.setCell ⟨pR, 0, none⟩ (.int .i64 K)) p v j xs from HRD2.out.set4 HR2.out)
      have HF3 := hid (show FrN p w (w2.setCell ⟨pR, 0, none⟩ (.int .i64 K)) from HF2.out.set hlo _)
      go_wp2_with fail
      refine (HTNj.out _ HRD3.out).mono ?_
      rintro e w4 ⟨rfl, hrd4, hfr4⟩
      simp only at hrd4 ⊢
      have hR4 := HRD3.out.heap hfr4 HR3.out (by decide)
      obtain ⟨d0, d1, d2, d3⟩ := box_cells hR4
      have zR4 := fun k => frozen_of_row w4 pR k _ _ hR4
      have HRD4 := hid hrd4
      have HR4 := hid hR4
      have HF4 := hid (HF3.out.call hfr4)
      clear hrd4 hfr4 hR4 c0 c1 c2 c3 zR
      have HR5 := hid (show (w4.setCell ⟨pR, 1, none⟩ (.int .i64 nn)).heap[pR]? = some (.cells #[.int .i64 K, .int .i64 nn, .string ⟨#[]⟩, .slice none 0 0] 24 (0, 0)) by rw [heap_setCell_same w4 pR 1 _ _ (.int .i64 nn) HR4.out]; rfl)
      have HRD5 := hid (HRD4.out.set4 (i := 1) (u := .int .i64 nn) HR4.out)
      have HF5 := hid (HF4.out.set (i := 1) hlo (.int .i64 nn))
      go_wp2
      refine head_ret rfl rfl rfl (put4_heap (c0 := (.int .i64 K)) (c1 := (.int .i64 nn)) (c2 := (.string ⟨#[]⟩)) (c3 := (.slice none 0 0)) HR5.out) ?_
      obtain rfl := HR.out
      exact ⟨rfl, ⟨jt, HRD5.out.off HR5.out (put4_fr _ _ _ _ _ _), fun h => rfl⟩, (HF5.out.put4 hlo _ _ _ _).fr⟩
    · rw [if_pos het] at hr
      have HR := hid hr
      have HNE := hid het
      have dt : (et != 0) = true := by simpa using het
      clear hr hk0 hk1 k0 k4 k6 het
      go_enter Try.func47, Try.ntmps47
      go_wp2_with fail
      refine H1.out.mono ?_
      rintro e w2 ⟨rfl, hrd2, hfr2⟩
      have hR2 := HA.out.heap hfr2 HBX.out (by decide)
      have hF2 := (FrN.new p w (.cells #[.int .i64 0, .int .i64 0, .string ⟨#[]⟩, .slice none 0 0] 24)).call hfr2
      obtain ⟨pR, hpR⟩ : ∃ pR, pR = w.heap.size := ⟨_, rfl⟩
      rw [← hpR] at hR2 ⊢
      have hlo : w.heap.size ≤ pR := by omega
      have HRD2 := hid hrd2
      have HF2 := hid hF2
      have HR2 := hid hR2
      obtain ⟨c0, c1, c2, c3⟩ := box_cells hR2
      have zR := fun k => frozen_of_row w2 pR k _ _ hR2
      clear hpR hrd2 hfr2 hR2 hF2 HBX
      have HR3 := hid (show (w2.setCell ⟨pR, 0, none⟩ (.int .i64 K)).heap[pR]? = some (.cells #[.int .i64 K, .int .i64 0, .string ⟨#[]⟩, .slice none 0 0] 24 (0, 0)) by rw [heap_setCell_same w2 pR 0 _ _ (.int .i64 K) HR2.out]; rfl)
      have HRD3 := hid (show RdW (w2.setCell ⟨pR, 0, none⟩ (.int .i64 K)) p v j xs from HRD2.out.set4 HR2.out)
      have HF3 := hid (show FrN p w (w2.setCell ⟨pR, 0, none⟩ (.int .i64 K)) from HF2.out.set hlo _)
      go_wp2_with fail
      refine (HTNj.out _ HRD3.out).mono ?_
      rintro e w4 ⟨rfl, hrd4, hfr4⟩
      simp only at hrd4 ⊢
      have hR4 := HRD3.out.heap hfr4 HR3.out (by decide)
      obtain ⟨d0, d1, d2, d3⟩ := box_cells hR4
      have zR4 := fun k => frozen_of_row w4 pR k _ _ hR4
      have HRD4 := hid hrd4
      have HR4 := hid hR4
      have HF4 := hid (HF3.out.call hfr4)
      clear hrd4 hfr4 hR4 c0 c1 c2 c3 zR
      have HR5 := hid (show (w4.setCell ⟨pR, 1, none⟩ (.int .i64 nn)).heap[pR]? = some (.cells #[.int .i64 K, .int .i64 nn, .string ⟨#[]⟩, .slice none 0 0] 24 (0, 0)) by rw [heap_setCell_same w4 pR 1 _ _ (.int .i64 nn) HR4.out]; rfl)
      have HRD5 := hid (HRD4.out.set4 (i := 1) (u := .int .i64 nn) HR4.out)
      have HF5 := hid (HF4.out.set (i := 1) hlo (.int .i64 nn))
      go_wp2
      refine head_ret rfl rfl rfl (put4_heap (c0 := (.int .i64 0)) (c1 := (.int .i64 0)) (c2 := (.string ⟨#[]⟩)) (c3 := (.slice none 0 0)) HR5.out) ?_
      obtain rfl := HR.out
      exact ⟨rfl, ⟨jt, HRD5.out.off HR5.out (put4_fr _ _ _ _ _ _), fun h => absurd h HNE.out⟩, (HF5.out.put4 hlo _ _ _ _).fr⟩
  · rw [if_pos he] at hr
    have HR := hid hr
    have HNE := hid he
    have de : (e != 0) = true := by simpa using he
    clear hr hk0 hk1 he
    go_enter Try.func47, Try.ntmps47
    go_wp2_with fail
    refine H1.out.mono ?_
    rintro e w2 ⟨rfl, hrd2, hfr2⟩
    have hR2 := HA.out.heap hfr2 HBX.out (by decide)
    have hF2 := (FrN.new p w (.cells #[.int .i64 0, .int .i64 0, .string ⟨#[]⟩, .slice none 0 0] 24)).call hfr2
    obtain ⟨pR, hpR⟩ : ∃ pR, pR = w.heap.size := ⟨_, rfl⟩
    rw [← hpR] at hR2 ⊢
    have hlo : w.heap.size ≤ pR := by omega
    have HRD2 := hid hrd2
    have HF2 := hid hF2
    have HR2 := hid hR2
    obtain ⟨c0, c1, c2, c3⟩ := box_cells hR2
    have zR := fun k => frozen_of_row w2 pR k _ _ hR2
    clear hpR hrd2 hfr2 hR2 hF2 HBX
    go_wp2
    refine head_ret rfl rfl rfl (put4_heap (c0 := (.int .i64 0)) (c1 := (.int .i64 0)) (c2 := (.string ⟨#[]⟩)) (c3 := (.slice none 0 0)) HR2.out) ?_
    obtain rfl := HR.out
    exact ⟨rfl, ⟨j, HRD2.out.off HR2.out (put4_fr _ _ _ _ _ _), fun h => absurd h HNE.out⟩, (HF2.out.put4 hlo _ _ _ _).fr⟩
end Go.Proofs.Ytplckmoeaeabgaa
