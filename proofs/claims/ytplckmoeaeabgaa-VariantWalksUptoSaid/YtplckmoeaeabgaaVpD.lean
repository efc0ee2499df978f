/-
  The contract of variant.read.
-/
import Derived.Test.YtplckmoeaeabgaaVpB
import Derived.WalkMore
import Derived.Handy
namespace Go.Proofs.Ytplckmoeaeabgaa
open Go Go.ChangeShapes Go.WideShapes Go.ChangeAt Go.RowKit

theorem rdVr_head (m : Nat) (b : List Int) (a : Nat) : rdVr (m + 1) b a =
    if (rdH b a).e ≠ 0 then (none0, a, (rdH b a).e)
    else if (rdL (rdVr m b) (rdH b a).c.toNat (rdH b a).j []).2.2 ≠ 0 then (none0, a, (rdL (rdVr m b) (rdH b a).c.toNat (rdH b a).j []).2.2)
    else (.mk (rdH b a).k (rdH b a).n (rdH b a).s (rdL (rdVr m b) (rdH b a).c.toNat (rdH b a).j []).1, (rdL (rdVr m b) (rdH b a).c.toNat (rdH b a).j []).2.1, 0) := by
  obtain ⟨h, hh⟩ : ∃ h, h = rdH b a := ⟨_, rfl⟩
  rw [← hh]
  unfold rdH at hh
  unfold rdVr
  have h0 : ∀ j, rdL (rdVr m b) (0 : Int).toNat j [] = ([], j, 0) := fun j => rfl
  generalize rd b a 1 = q at *
  obtain ⟨K, j, e⟩ := q
  simp only at hh ⊢
  by_cases he : e = 0
  · subst he
    rw [if_neg (by simp)] at hh
    rw [if_neg (by simp)]
    by_cases k0 : K = 0
    · subst k0
      rw [if_pos rfl] at hh
      subst hh
      rw [if_pos rfl, if_neg (by simp), h0, if_neg (by simp)]
      rfl
    · rw [if_neg k0] at hh
      rw [if_neg k0]
      by_cases k4 : K = 4
      · subst k4
        rw [if_pos rfl] at hh
        rw [if_neg (by omega), if_pos rfl]
        generalize rdT b j 256 = t at *
        obtain ⟨tx, jt, et⟩ := t
        simp only at hh ⊢
        by_cases het : et = 0
        · subst het
          rw [if_neg (by simp)] at hh
          subst hh
          rw [if_neg (by simp), if_neg (by simp), h0, if_neg (by simp)]
        · rw [if_pos het] at hh
          subst hh
          rw [if_pos het, if_pos (by exact het)]; rfl
      · rw [if_neg k4] at hh
        by_cases k6 : K = 6
        · subst k6
          rw [if_pos rfl] at hh
          rw [if_neg (by omega), if_neg (by omega), if_pos rfl]
          unfold rdC at hh
          generalize rd b j 4 = t at *
          obtain ⟨nc, jt, et⟩ := t
          simp only at hh ⊢
          by_cases het : et = 0
          · subst het
            rw [if_neg (show ¬ ((0 : Int) ≠ 0) by simp)] at hh
            rw [if_neg (by simp)]
            by_cases h64 : 64 < nc
            · rw [if_pos h64] at hh
              rw [if_pos h64]
              simp only at hh
              rw [if_pos (by decide)] at hh
              subst hh
              rw [if_pos (by show (20 : Int) ≠ 0; decide)]; rfl
            · rw [if_neg h64] at hh
              rw [if_neg h64]
              simp only at hh
              rw [if_neg (by simp)] at hh
              subst hh
              simp
          · rw [if_pos het] at hh
            simp only at hh
            rw [if_pos het] at hh
            subst hh
            rw [if_pos het, if_pos (by exact het)]; rfl
        · rw [if_neg k6] at hh
          unfold rdN at hh
          by_cases hk : K = 1 ∨ K = 2 ∨ K = 3 ∨ K = 5
          · rw [if_pos hk] at hh
            rw [if_pos hk]
            generalize rd b j (sizK K) = t at *
            obtain ⟨nc, jt, et⟩ := t
            simp only at hh ⊢
            by_cases het : et = 0
            · subst het
              rw [if_neg (show ¬ ((0 : Int) ≠ 0) by simp)] at hh
              rw [if_neg (by simp)]
              by_cases h1 : K = 1 ∧ 1 < nc
              · rw [if_pos h1] at hh
                rw [if_pos h1]
                simp only at hh
                rw [if_pos (by decide)] at hh
                subst hh
                rw [if_pos (by show (5 : Int) ≠ 0; decide)]; rfl
              · rw [if_neg h1] at hh
                rw [if_neg h1]
                simp only at hh
                rw [if_neg (by simp)] at hh
                subst hh
                rw [if_neg (by simp), h0, if_neg (by simp)]
            · rw [if_pos het] at hh
              simp only at hh
              rw [if_pos het] at hh
              subst hh
              rw [if_pos het, if_pos (by exact het)]; rfl
          · rw [if_neg hk] at hh
            simp only at hh
            rw [if_pos (by decide)] at hh
            subst hh
            rw [if_neg hk, if_neg k4, if_neg k6, if_pos (by show (5 : Int) ≠ 0; decide)]; rfl
  · rw [if_pos he] at hh
    subst hh
    rw [if_pos he, if_pos (by exact he)]; rfl
theorem results_cell_tmp1 {fn : Func} {p u : Tmp} {ty : TypeId} (h : fn.results = #[.cell p ty, .tmp u]) (tmps : Array Value) (P : Program) (w : World) :
    (results fn tmps).run P w = ((asAddr (tmps.getD p undef)).run P w).andThen fun a w₁ => ((loadVar ty a).run P w₁).andThen fun x w₂ => .ok (.tuple #[x, tmps.getD u undef]) w₂ := by
  simp only [results, h]
  simp [Sem.run_bind, Result.andThen]
set_option maxRecDepth 100000 in
theorem pread_ret {Q : Ending → World → Prop} {tmps : Array Value} {W : World} {b : Nat} {c0 c1 c2 c3 u : Value} {fz : Nat × Nat} (h6 : tmps.getD 4 undef = .pointer (some ⟨b, 0, none⟩)) (h7 : tmps.getD 5 undef = u)
    (h : W.heap[b]? = some (.cells #[c0, c1, c2, c3] 24 fz)) (hq : Q (.returned (.tuple #[.agg #[c0, c1, c2, c3], u])) W) : bodyPost Try.prog Try.f36 Q Exit.ret { tmps := tmps, defers := [] } W := by
  refine bodyPost_ret (a := { tmps := tmps, defers := [] }) (v := .tuple #[.agg #[c0, c1, c2, c3], u]) ?_ rfl hq
  rw [results_cell_tmp1 (fn := Try.f36) rfl, h6, h7]
  have := load_var W b c0 c1 c2 c3 fz h
  simp [asAddr, this, Result.andThen]
set_option maxRecDepth 100000 in
/-- The value that was read. -/
theorem PRow.listG {w0 W : World} {a : Option Addr} {n c : Nat} {pR pV pN : Nat} {ps : List Vr} {css : List (List Value)} {K z : Int} {s : List Int} (h : PRow w0 W (.slice a n c) pR pV pN ps css) (hn : n = ps.length)
    (hK : -9223372036854775808 ≤ K ∧ K ≤ 9223372036854775807) (hz : -9223372036854775808 ≤ z ∧ z ≤ 9223372036854775807) (hby : Byt s) : VS W (fun b => w0.heap.size ≤ b ∧ b < W.heap.size) (.mk K z s ps) [.int .i64 K, .int .i64 z, .string (strI s), .slice a n c] := by
  subst hn
  have hrow := h.row
  rcases hrow.2 with ⟨q1, q2⟩ | ⟨g, cap, cur, q1, hb, hg, hnc, hm, hs, ht⟩
  · have : ps = [] := List.eq_nil_of_length_eq_zero q2
    subst this
    cases q1
    exact .mk K z s [] none 0 (fun _ => []) hK hz hby ⟨Nat.le_refl _, by omega⟩ (fun _ => rfl) (fun h => absurd h (by simp)) (fun b o h => by cases h) (fun i x h => by simp at h)
  · cases q1
    refine .mk K z s ps (some ⟨g, 0, none⟩) c (fun i => css.getD i []) hK hz hby ⟨hnc, own_capmax hrow⟩ (fun h => by cases h) (fun _ => ⟨g, 0, rfl, hb, (Array.getElem?_eq_some_iff.1 hg).1⟩) (fun b o he i x hx j u hu => ?_) (fun i x hx => ?_)
    · cases he
      have hi : i < ps.length := (List.getElem?_eq_some_iff.1 hx).1
      have hc : css[i]? = some (css.getD i []) := by simp [h.len, hi]
      have hj : j < 4 := by
        have := (List.getElem?_eq_some_iff.1 hu).1
        rw [h.four _ (List.mem_of_getElem? hc)] at this; exact this
      have := hrow.cellAt (i * 4 + j) (by omega)
      rw [flat_at h.four hc j hj, hu] at this
      rw [Nat.zero_add]; exact this
    · have hi : i < ps.length := (List.getElem?_eq_some_iff.1 hx).1
      have hc : css[i]? = some (css.getD i []) := by simp [h.len, hi]
      exact VS.weak (fun b hb => ⟨hb.1, hb.2.1⟩) (h.parts i x _ hx hc)
theorem heap_keep {W : World} {p : Nat} {o : Obj} (x : Obj) (h : W.heap[p]? = some o) : (W.alloc x).heap[p]? = some o := (Below.heap_alloc W x p (lt_of_heap h)).trans h
theorem part_ok {a b c d : Nat} {o : Option Nat} {pR pV p : Nat} (h1 : a ≤ c) (h2 : c ≤ b) (h3 : b < d) (h4 : ∀ b, o = some b → b < c) (hR : pR < c) (hV : pV < c) (hp : p < c) : a ≤ b ∧ b < d ∧ o ≠ some b ∧ b ≠ pR ∧ b ≠ pV ∧ b ≠ p :=
  ⟨by omega, h3, fun e => by have := h4 b e; omega, by omega, by omega, by omega⟩
def PReadPost (w : World) (p : Nat) (v : Value) (xs : List Int) (r : Vr × Nat × Int) (e : Ending) (w' : World) : Prop :=
  ∃ ck cn cb ca cl cc, e = .returned (.tuple #[.agg #[.int .i64 ck, .int .i64 cn, .string cb, .slice ca cl cc], .int .i64 r.2.2]) ∧ Fr (fun j => j = p) w w' ∧ (∃ j, RdW w' p v j xs ∧ (r.2.2 = 0 → j = r.2.1)) ∧ (r.2.2 = 0 → VS w' (fun b => w.heap.size ≤ b ∧ b < w'.heap.size) r.1 [.int .i64 ck, .int .i64 cn, .string cb, .slice ca cl cc])
theorem numK_ok {k n : Int} (h0 : 0 ≤ n) (h1 : n < 18446744073709551616) (h4 : k = 2 → n < 4294967296) (hk : k = 1 → n ≤ 1) : -9223372036854775808 ≤ numK k n ∧ numK k n ≤ 9223372036854775807 := by
  unfold numK
  split
  · rename_i h; have := h4 h; split <;> omega
  · split
    · rename_i h; have := hk h; omega
    · split <;> omega
theorem rdC_ok {b : List Int} {a : Nat} (hb : Byt b) : 0 ≤ (rdC b a).1 ∧ (rdC b a).1 ≤ 64 := by
  have h := rd_pos (a := a) (s := 4) hb
  unfold rdC
  split
  · exact ⟨Int.le_refl 0, (by decide : (0 : Int) ≤ 64)⟩
  · split
    · exact ⟨Int.le_refl 0, (by decide : (0 : Int) ≤ 64)⟩
    · exact ⟨h.1, by omega⟩
theorem rdN_ok {b : List Int} {a : Nat} (k : Int) (hb : Byt b) : -9223372036854775808 ≤ (rdN k b a).1 ∧ (rdN k b a).1 ≤ 9223372036854775807 := by
  have z : -9223372036854775808 ≤ (0 : Int) ∧ (0 : Int) ≤ 9223372036854775807 := ⟨by decide, by decide⟩
  have h := rd_pos (a := a) (s := sizK k) hb
  have h4 := rd_le4 (a := a) hb
  unfold rdN
  split
  · split
    · exact z
    · split
      · exact z
      · rename_i h1
        exact numK_ok h.1 h.2 (fun e => by rw [e]; exact h4) (fun e => by
          have : ¬ 1 < (rd b a (sizK k)).1 := fun hh => h1 ⟨e, hh⟩
          omega)
  · exact z
theorem rdH_ok {b : List Int} {a : Nat} (hb : Byt b) : ((rdH b a).e ≠ 0 → (rdH b a).c = 0) ∧ (0 ≤ (rdH b a).c ∧ (rdH b a).c ≤ 64) ∧ Byt (rdH b a).s ∧ (0 ≤ (rdH b a).k ∧ (rdH b a).k ≤ 255) ∧ (-9223372036854775808 ≤ (rdH b a).n ∧ (rdH b a).n ≤ 9223372036854775807) := by
  have hk := rd_kind (a := a) hb
  have hc := rdC_ok (a := (rd b a 1).2.1) hb
  have hn := rdN_ok (a := (rd b a 1).2.1) (rd b a 1).1 hb
  have ht := rdT_text (a := (rd b a 1).2.1) (m := 256) hb
  have z : ∀ e : Int, ((hdE e).e ≠ 0 → (hdE e).c = 0) ∧ (0 ≤ (hdE e).c ∧ (hdE e).c ≤ 64) ∧ Byt (hdE e).s ∧ (0 ≤ (hdE e).k ∧ (hdE e).k ≤ 255) ∧ (-9223372036854775808 ≤ (hdE e).n ∧ (hdE e).n ≤ 9223372036854775807) := fun e =>
    ⟨fun _ => rfl, ⟨by simp [hdE], by simp [hdE]⟩, fun x hx => by simp [hdE] at hx, ⟨by simp [hdE], by simp [hdE]⟩, ⟨by simp [hdE], by simp [hdE]⟩⟩
  unfold rdH
  split
  · exact z _
  · split
    · exact ⟨fun _ => rfl, ⟨by simp, by simp⟩, fun x hx => by simp at hx, ⟨by simp, by simp⟩, ⟨by simp, by simp⟩⟩
    · split
      · split
        · exact z _
        · exact ⟨fun _ => rfl, ⟨by simp, by simp⟩, ht, ⟨by simp, by simp⟩, ⟨by simp, by simp⟩⟩
      · split
        · split
          · exact z _
          · exact ⟨fun h => absurd rfl h, hc, fun x hx => by simp at hx, ⟨by simp, by simp⟩, ⟨by simp, by simp⟩⟩
        · split
          · exact z _
          · exact ⟨fun _ => rfl, ⟨by simp, by simp⟩, fun x hx => by simp at hx, hk, hn⟩
set_option maxHeartbeats 4000000 in
set_option maxRecDepth 100000 in
theorem PRead_any : ∀ (m : Nat) (w : World) (p a : Nat) (v : Value) (xs : List Int), m ≤ 8 → RdW w p v a xs → Byt xs → xs.length ≤ 140737488351232 →
    Calls Try.prog 36 #[.pointer (some ⟨p, 0, none⟩), .int .i64 (9 - (m : Int))] w (PReadPost w p v xs (rdVr m xs a))
  | 0, w, p, a, v, xs, _, h, hb, hl => by
    have HT := hid (readHead_deep (w.alloc (.cells #[.int .i64 0, .int .i64 0, .string ⟨#[]⟩, .slice none 0 0] 24)) (.pointer (some ⟨p, 0, none⟩)) 9 (by decide))
    have HA := hid h
    have HBX := hid (heap_alloc_new w (.cells #[.int .i64 0, .int .i64 0, .string ⟨#[]⟩, .slice none 0 0] 24))
    clear h hb
    rw [show (9 - ((0 : Nat) : Int)) = 9 by omega]
    go_enter Try.func36, Try.ntmps36
    go_wp2_with fail
    refine wp_scope_straight ?_
    go_wp2_with fail
    refine HT.out.mono ?_
    rintro e w2 ⟨rfl, hb2⟩
    have hR2 := (hb2.block _ (lt_of_heap HBX.out)).trans HBX.out
    have hB2 : Below w.heap.size w w2 := ((Below.refl _ w).alloc (Nat.le_refl _) _).trans (hb2.mono (by simp))
    have hR3 := heap_keep (.cells #[.int .i64 0, .int .i64 0, .string ⟨#[]⟩, .slice none 0 0] 24) hR2
    have hV3 := heap_alloc_new w2 (.cells #[.int .i64 0, .int .i64 0, .string ⟨#[]⟩, .slice none 0 0] 24)
    have hB3 := hB2.alloc hB2.size (.cells #[.int .i64 0, .int .i64 0, .string ⟨#[]⟩, .slice none 0 0] 24)
    obtain ⟨w3, hw3⟩ : ∃ w3, w3 = w2.alloc (.cells #[.int .i64 0, .int .i64 0, .string ⟨#[]⟩, .slice none 0 0] 24) := ⟨_, rfl⟩
    obtain ⟨pR, hpR⟩ : ∃ pR, pR = w.heap.size := ⟨_, rfl⟩
    obtain ⟨pV, hpV⟩ : ∃ pV, pV = w2.heap.size := ⟨_, rfl⟩
    rw [← hw3] at hR3 hV3 hB3
    rw [← hpR] at hR3
    rw [← hpV] at hV3
    obtain ⟨c0, c1, c2, c3⟩ := box_cells hV3
    obtain ⟨r0, r1, r2, r3⟩ := box_cells hR3
    have zR := fun k => frozen_of_row w3 pR k _ _ hR3
    have HR3 := hid hR3
    have HB3 := hid hB3
    have hlo : w.heap.size ≤ pR := by omega
    go_wp2_with fail
    rw [← hw3, ← hpR, ← hpV]
    clear hw3 hpR hpV hb2 hR2 hB2 hR3 hV3 hB3
    refine wp_label ?_
    go_wp2_with fail
    go_rounds 1
    have hfr : Fr (fun j => j = p) w (put4 w3 pR (.int .i64 0) (.int .i64 0) (.string ⟨#[]⟩) (.slice none 0 0)) := (Fr.of_below (fp := fun j => j = p) HB3.out).trans (put4_fr w3 pR _ _ _ _) (fun j hj hl => by omega)
    refine pread_ret rfl rfl (put4_heap (c0 := .int .i64 0) (c1 := .int .i64 0) (c2 := .string ⟨#[]⟩) (c3 := .slice none 0 0) HR3.out) ?_
    exact ⟨_, _, _, _, _, _, rfl, hfr, ⟨a, (HA.out.fr (Fr.of_below HB3.out) (fun h => h) (fun _ _ h => h)).off HR3.out (put4_fr _ _ _ _ _ _), fun h => by cases h⟩, fun h => by cases h⟩
  | m + 1, w, p, a, v, xs, hm, h, hb, hl => by
    obtain ⟨d, hd⟩ : ∃ d : Int, d = 9 - ((m + 1 : Nat) : Int) := ⟨_, rfl⟩
    rw [← hd]
    have hd8 : d ≤ 8 := by omega
    have hd1 : 0 ≤ d := by omega
    have HIH := hid (fun W j (hW : RdW W p v j xs) => PRead_any m W p j v xs (by omega) hW hb hl)
    rw [show (9 - (m : Int)) = d + 1 by omega] at HIH
    have hvlt : ∀ k, v.ownBlock = some k → w.heap.size ≤ k → False := fun k hk hle => by
      have := (h.row.lt k hk).2
      omega
    have HOW := hid hvlt
    clear hvlt
    have HT := hid (readHead_any (w.alloc (.cells #[.int .i64 0, .int .i64 0, .string ⟨#[]⟩, .slice none 0 0] 24)) p a v xs d (h.alloc _) hb hl hd8)
    have HA := hid h
    have HBX := hid (heap_alloc_new w (.cells #[.int .i64 0, .int .i64 0, .string ⟨#[]⟩, .slice none 0 0] 24))
    have hplt := h.lt
    obtain ⟨hc0, ⟨hc1, hc2⟩, hby, ⟨hk0, hk1⟩, hn0, hn1⟩ := rdH_ok (a := a) hb
    obtain ⟨r, hr⟩ : ∃ r, r = rdVr (m + 1) xs a := ⟨_, rfl⟩
    rw [← hr]
    rw [rdVr_head] at hr
    generalize rdH xs a = hd' at *
    obtain ⟨K, n, s, c, j, e⟩ := hd'
    simp only at hr HT hc0 hc1 hc2 hby hk0 hk1 hn0 hn1
    obtain ⟨bs, hbs⟩ : ∃ bs, bs = strI s := ⟨_, rfl⟩
    have HBS := hid hbs
    obtain ⟨N, rfl⟩ := Int.eq_ofNat_of_zero_le hc1
    rw [Int.toNat_natCast] at hr
    have HSP := hid hr
    have HC0 := hid hc0
    have HBY := hid hby
    obtain ⟨i0, hi, hz0, hz1, hz2⟩ := info_parts infoVar
    have hi' := hid hi
    have hz0' := hid hz0
    have hz1' := hid hz1
    have hz2' := hid hz2
    clear hr hc0 hby h hb hd hi hz0 hz1 hz2 hbs
    go_enter Try.func36, Try.ntmps36
    go_wp2_with fail
    refine wp_scope_straight ?_
    go_wp2_with fail
    refine HT.out.mono ?_
    rintro e' w2 ⟨rfl, ⟨j2, hrd2, hj2⟩, hf2⟩
    simp only at hj2 ⊢
    rw [← HBS.out]
    have hrd1 : RdW (w.alloc (.cells #[.int .i64 0, .int .i64 0, .string ⟨#[]⟩, .slice none 0 0] 24)) p v a xs := HA.out.alloc _
    have hR2 := hrd1.heap hf2 HBX.out (by decide)
    have hF2 : FrN p w w2 := (FrN.new p w (.cells #[.int .i64 0, .int .i64 0, .string ⟨#[]⟩, .slice none 0 0] 24)).call hf2
    have hR3 := heap_keep (.cells #[.int .i64 K, .int .i64 n, .string bs, .slice none 0 0] 24) hR2
    have hV3 := heap_alloc_new w2 (.cells #[.int .i64 K, .int .i64 n, .string bs, .slice none 0 0] 24)
    have hF3 : FrN p w (w2.alloc (.cells #[.int .i64 K, .int .i64 n, .string bs, .slice none 0 0] 24)) := hF2.trans (frA w2 _) (fun j hj _ => hj.elim)
    have hrd3 := hrd2.alloc (.cells #[.int .i64 K, .int .i64 n, .string bs, .slice none 0 0] 24)
    have hs2 := hF2.size
    obtain ⟨w3, hw3⟩ : ∃ w3, w3 = w2.alloc (.cells #[.int .i64 K, .int .i64 n, .string bs, .slice none 0 0] 24) := ⟨_, rfl⟩
    obtain ⟨pR, hpR⟩ : ∃ pR, pR = w.heap.size := ⟨_, rfl⟩
    obtain ⟨pV, hpV⟩ : ∃ pV, pV = w2.heap.size := ⟨_, rfl⟩
    have hltR := lt_of_heap hR2
    have hne : pV ≠ pR := by omega
    have hloR : w.heap.size ≤ pR := by omega
    have hloV : w.heap.size ≤ pV := by omega
    rw [← hw3] at hR3 hV3 hF3 hrd3
    rw [← hpR] at hR3
    rw [← hpV] at hV3
    have HR3 := hid hR3
    have HV3 := hid hV3
    have HF3 := hid hF3
    have HRD3 := hid hrd3
    have HJ2 := hid hj2
    clear hR2 hF2 hR3 hV3 hF3 hrd2 hrd3 hrd1 hf2 hj2 HT HBX
    go_wp2_with fail
    rw [← hw3, ← hpR, ← hpV]
    clear hw3 hpR hpV hs2 hltR
    refine wp_label ?_
    go_wp2_with fail
    by_cases he : e = 0
    · subst he
      have hrr := HSP.out
      rw [if_neg (by simp)] at hrr
      have HSP' := hid hrr
      obtain rfl := HJ2.out rfl
      have HP3 := hid (show PRow w w3 (.slice none 0 0) pR pV p [] [] from ⟨rfl, fun d hd => by simp at hd, World.ownsRow_nil _ _ _ _, fun b hb => by simp [Value.ownBlock] at hb, fun i x c hx => by simp at hx⟩)
      clear hrr HSP HC0 HJ2
      go_loopw [8, 18] (fun ev iv wr => ∃ (q jq : Nat) (ps : List Vr) (lv : Value), q ≤ N ∧ ev = .int .i64 0 ∧ iv = .int .u64 q ∧ RowKit.Hid (∃ css, PRow w wr lv pR pV p ps css) ∧ RowKit.Hid (RdW wr p v jq xs) ∧ RowKit.Hid (FrN p w wr) ∧ RowKit.Hid (wr.heap[pR]? = some (.cells #[.int .i64 0, .int .i64 0, .string ⟨#[]⟩, .slice none 0 0] 24 (0, 0))) ∧ RowKit.Hid (wr.heap[pV]? = some (.cells #[.int .i64 K, .int .i64 n, .string bs, lv] 24 (0, 0))) ∧ RowKit.Hid (ps.length = q ∧ rdL (rdVr m xs) N j2 [] = rdL (rdVr m xs) (N - q) jq ps)) (fun _ iv _ => N - (intOf iv).toNat)
      case atStart => exact ⟨0, _, [], .slice none 0 0, by omega, rfl, rfl, hid ⟨[], HP3.out⟩, HRD3, HF3, HR3, HV3, hid ⟨rfl, rfl⟩⟩
      case round =>
        obtain ⟨q, jq, ps, lv, hq, rfl, rfl, HPR, HRDr, HFr, HRr, HVr, HSQ⟩ := hrel
        obtain ⟨css, hpr⟩ := HPR.out
        obtain ⟨la, lk, hlv⟩ := own_form hpr.row
        rw [HSQ.out.1] at hlv
        subst hlv
        have HPR' := hid hpr
        clear hpr HPR
        by_cases hqN : q < N
        · have hR1 := heap_keep (.cells #[.int .i64 0, .int .i64 0, .string ⟨#[]⟩, .slice none 0 0] 24) HRr.out
          have hV1 := heap_keep (.cells #[.int .i64 0, .int .i64 0, .string ⟨#[]⟩, .slice none 0 0] 24) HVr.out
          have hP1 := heap_alloc_new wr (.cells #[.int .i64 0, .int .i64 0, .string ⟨#[]⟩, .slice none 0 0] 24)
          have HIX := hid (HIH.out _ jq (HRDr.out.alloc (.cells #[.int .i64 0, .int .i64 0, .string ⟨#[]⟩, .slice none 0 0] 24)))
          have hunf : rdL (rdVr m xs) (N - q) jq ps = if (rdVr m xs jq).2.2 ≠ 0 then ([], jq, (rdVr m xs jq).2.2) else rdL (rdVr m xs) (N - (q + 1)) (rdVr m xs jq).2.1 (ps ++ [(rdVr m xs jq).1]) := by
            rw [show N - q = (N - (q + 1)) + 1 by omega]; rfl
          generalize rdVr m xs jq = rr at *
          obtain ⟨x, j2, e3⟩ := rr
          simp only at hunf HIX
          have HUN := hid hunf
          have HR1 := hid hR1
          have HV1 := hid hV1
          have HP1 := hid hP1
          clear hunf hR1 hV1 hP1
          go_wp2_with fail
          rename_i K9 h9 K6 h6 K5 h5
          have H6 := hid h6
          clear h6
          refine HIX.out.mono ?_
          rintro e w5 ⟨ck, cn, cb, ca, cl, cc, rfl, hf5, ⟨j5, hrd5, hj5⟩, hx5⟩
          have hrd1 : RdW (wr.alloc (.cells #[.int .i64 0, .int .i64 0, .string ⟨#[]⟩, .slice none 0 0] 24)) p v jq xs := HRDr.out.alloc _
          have hR5 := hrd1.heap hf5 HR1.out (by decide)
          have hV5 := hrd1.heap hf5 HV1.out (by decide)
          have hP5 := hrd1.heap hf5 HP1.out (by decide)
          have hF15 : FrN p wr w5 := (FrN.new p wr (.cells #[.int .i64 0, .int .i64 0, .string ⟨#[]⟩, .slice none 0 0] 24)).call hf5
          obtain ⟨bP, hbP⟩ : ∃ bP, bP = wr.heap.size := ⟨_, rfl⟩
          rw [← hbP] at hP5 ⊢
          have hbR : bP ≠ pR := by have := lt_of_heap HRr.out; omega
          have hbV : bP ≠ pV := by have := lt_of_heap HVr.out; omega
          have hbp : bP ≠ p := by have := HRDr.out.lt; omega
          have hF16 : FrN p wr (put4 w5 bP (.int .i64 ck) (.int .i64 cn) (.string cb) (.slice ca cl cc)) := hF15.put4 (by omega) _ _ _ _
          have hR6 : (put4 w5 bP (.int .i64 ck) (.int .i64 cn) (.string cb) (.slice ca cl cc)).heap[pR]? = some (.cells #[.int .i64 0, .int .i64 0, .string ⟨#[]⟩, .slice none 0 0] 24 (0, 0)) := ((put4_fr w5 bP (.int .i64 ck) (.int .i64 cn) (.string cb) (.slice ca cl cc)).block pR (lt_of_heap hR5) (fun e => hbR e.symm)).trans hR5
          have hV6 : (put4 w5 bP (.int .i64 ck) (.int .i64 cn) (.string cb) (.slice ca cl cc)).heap[pV]? = some (.cells #[.int .i64 K, .int .i64 n, .string bs, .slice la q lk] 24 (0, 0)) := ((put4_fr w5 bP (.int .i64 ck) (.int .i64 cn) (.string cb) (.slice ca cl cc)).block pV (lt_of_heap hV5) (fun e => hbV e.symm)).trans hV5
          have hP6 := put4_heap (c0 := .int .i64 ck) (c1 := .int .i64 cn) (c2 := .string cb) (c3 := .slice ca cl cc) hP5
          have hrd6 := hrd5.off hP5 (put4_fr w5 bP (.int .i64 ck) (.int .i64 cn) (.string cb) (.slice ca cl cc))
          have zP := fun k => frozen_of_row w5 bP k _ _ hP5
          have hx6 : e3 = 0 → VS (put4 w5 bP (.int .i64 ck) (.int .i64 cn) (.string cb) (.slice ca cl cc)) (fun b => w.heap.size ≤ b ∧ b < (put4 w5 bP (.int .i64 ck) (.int .i64 cn) (.string cb) (.slice ca cl cc)).heap.size ∧ (Value.slice la q lk).ownBlock ≠ some b ∧ b ≠ pR ∧ b ≠ pV ∧ b ≠ p) x [.int .i64 ck, .int .i64 cn, .string cb, .slice ca cl cc] := fun h0 =>
            VS.weak (fun b hb => part_ok HFr.out.size (by have := hb.1; simp at this; omega) (Nat.lt_of_lt_of_le hb.2 (put4_fr w5 bP _ _ _ _).size) (fun b h => (HPR'.out.row.lt b h).2) (lt_of_heap HRr.out) (lt_of_heap HVr.out) HRDr.out.lt)
              (VS.of_blocks (fun b hb => (put4_fr w5 bP _ _ _ _).block b hb.2 (fun e => by have := hb.1; simp at this; omega)) (hx5 h0))
          have hpr6 := HPR'.out.fr hF16.fr (fun k hk => .inr (.inr hk))
          obtain ⟨z0, z1, z2, z3⟩ := box_cells hP5
          have hww : put4 w5 bP (.int .i64 ck) (.int .i64 cn) (.string cb) (.slice ca cl cc) = ((((w5.setCell ⟨bP, 0, none⟩ (.int .i64 ck)).setCell ⟨bP, 1, none⟩ (.int .i64 cn)).setCell ⟨bP, 2, none⟩ (.string cb)).setCell ⟨bP, 3, none⟩ (.slice ca cl cc)) := rfl
          generalize put4 w5 bP (.int .i64 ck) (.int .i64 cn) (.string cb) (.slice ca cl cc) = w6 at *
          have HF16 := hid hF16
          have HR6 := hid hR6
          have HV6 := hid hV6
          have HP6 := hid hP6
          have HRD6 := hid hrd6
          have HPR6 := hid hpr6
          have HX6 := hid hx6
          have HJ5 := hid hj5
          have HWW := hid hww
          clear hF15 hF16 hR5 hV5 hP5 hR6 hV6 hP6 hrd5 hrd6 hx5 hx6 hj5 hf5 hrd1 HR1 HV1 HP1 HIX hpr6 hww hbR hbV hbp hbP
          go_wp2
          rw [← HWW.out]
          clear HWW z0 z1 z2 z3 zP
          refine H6.out _ _ ?_
          by_cases he3 : e3 = 0
          · subst he3
            have hun := HUN.out
            rw [if_neg (by simp)] at hun
            have HUN' := hid hun
            have hrow6 := HPR6.out.row
            rw [HSQ.out.1] at hrow6
            obtain ⟨v0, v1, v2, v3⟩ := box_cells HV6.out
            obtain ⟨p0, p1, p2, p3⟩ := box_cells HP6.out
            have hs6 := Nat.le_trans HFr.out.size HF16.out.size
            have HROW6 := hid hrow6
            have HNEWS := hid (World.news_of_block (heap_alloc_new w6 (.cells #[.int .i64 ck, .int .i64 cn, .string cb, .slice ca cl cc] 24)))
            clear hun hrow6 HUN
            go_wp2_with (at_builtin; refine wpList_append_own_at _ (o := ⟨some 34, _, _, _, _, _⟩) rfl (.tmp 31) (.tmp 33) 22 rfl w.heap.size 24 i0 (.agg #[.int .i64 0, .int .i64 0, .string ⟨#[]⟩, .slice none 0 0]) 4 56 Try.underlying22 hi'.out hz0'.out hz1'.out hz2'.out rfl (by decide) (.slice la q lk) q _ rfl (HROW6.out.alloc _) ⟨w6.heap.size, 0, none⟩ 1 1 [.int .i64 ck, .int .i64 cn, .string cb, .slice ca cl cc] rfl rfl HNEWS.out (by simp [Value.oneCell']) (by unfold maxLen; omega) (by omega) (by simp; omega) ?_; intro v7 w7 hown7 hgrow7 hnil7 hat7; obtain ⟨a7, k7, rfl⟩ := own_form hown7; have hV7 := (hgrow7.block pV (by have := lt_of_heap HV6.out; simp at this ⊢; omega) (fun e => (HPR6.out.ne pV e.symm).2.1 rfl)).trans (heap_keep _ HV6.out); obtain ⟨_, _, _, c73⟩ := box_cells hV7; have z73 := frozen_of_row w7 pV 3 _ _ hV7; have HV7 := hid hV7; have HO7 := hid hown7; have HG7 := hid hgrow7; have HA7 := hid hat7; clear hown7 hgrow7 hnil7 hat7 hV7 v0 v1 v2 v3)
            have hpush := HPR6.out.push (x := x) (cs := [.int .i64 ck, .int .i64 cn, .string cb, .slice ca cl cc]) (ob := (.cells #[.int .i64 ck, .int .i64 cn, .string cb, .slice ca cl cc] 24)) rfl (HX6.out rfl) HO7.out HG7.out HA7.out (lt_of_heap HR6.out) (lt_of_heap HV6.out) HRD6.out.lt
            have hf73 : Fr (fun b => b = pV) w7 (w7.setCell ⟨pV, 3, none⟩ (.slice a7 (q + 1) k7)) := (Fr.refl (fun b => b = pV) w7).setCell ⟨pV, 3, none⟩ _ (fun _ => rfl)
            have HP8 := hid (hpush.fr hf73 (fun k hk => .inr (.inl hk)))
            have hR7 := (HG7.out.block pR (by have := lt_of_heap HR6.out; simp at this ⊢; omega) (fun e => (HPR6.out.ne pR e.symm).1 rfl)).trans (heap_keep _ HR6.out)
            have HR8 := hid ((hf73.block pR (lt_of_heap hR7) (fun e => hne e.symm)).trans hR7)
            have HV8 := hid (show (w7.setCell ⟨pV, 3, none⟩ (.slice a7 (q + 1) k7)).heap[pV]? = some (.cells #[.int .i64 K, .int .i64 n, .string bs, .slice a7 (q + 1) k7] 24 (0, 0)) by rw [heap_setCell_same w7 pV 3 _ _ _ HV7.out]; rfl)
            have hf67 : Fr (fun k => w.heap.size ≤ k) w6 w7 := ((frA w6 (.cells #[.int .i64 ck, .int .i64 cn, .string cb, .slice ca cl cc] 24)).mono (fun _ h => h.elim)).grown HG7.out (fun k hk _ => (HPR6.out.row.lt k hk).1)
            have hrd7 : RdW w7 p v j5 xs := HRD6.out.fr hf67 (by omega) (fun k hk hle => HOW.out k hk hle)
            have HRD8 := hid (hrd7.off HV7.out hf73)
            have HF8 := hid (show FrN p w (w7.setCell ⟨pV, 3, none⟩ (.slice a7 (q + 1) k7)) from FrN.set (show FrN p w w7 from (HFr.out.call HF16.out.fr).trans hf67 (fun j hj _ => .inr hj)) hloV _)
            obtain rfl := HJ5.out rfl
            clear hpush hf73 hR7 hf67 hrd7 HO7 HG7 HA7 c73 z73
            go_roundw
            case rel => exact ⟨q + 1, _, ps ++ [x], _, by omega, rfl, by go_num, hid ⟨_, HP8.out⟩, HRD8, HF8, HR8, HV8, hid ⟨by rw [List.length_append, HSQ.out.1]; rfl, by rw [HSQ.out.2, HUN'.out]⟩⟩
            case measure => simp [intOf]; omega
          · have hde : (e3 != 0) = true := by simpa using he3
            have hun := HUN.out
            rw [if_pos he3] at hun
            have HR := hid (show r = (none0, a, e3) by rw [HSP'.out, HSQ.out.2, hun]; rw [if_pos he3])
            obtain ⟨v0, v1, v2, v3⟩ := box_cells HV6.out
            obtain ⟨r0, r1, r2, r3⟩ := box_cells HR6.out
            have zR := fun k => frozen_of_row _ pR k _ _ HR6.out
            have HNE := hid he3
            have hFF : FrN p w (put4 w6 pR (.int .i64 K) (.int .i64 n) (.string bs) (.slice la q lk)) := (HFr.out.call HF16.out.fr).put4 hloR _ _ _ _
            have hHF := put4_heap (c0 := .int .i64 K) (c1 := .int .i64 n) (c2 := .string bs) (c3 := .slice la q lk) HR6.out
            have hRF := HRD6.out.off HR6.out (put4_fr _ pR (.int .i64 K) (.int .i64 n) (.string bs) (.slice la q lk))
            have HFF := hid hFF
            have HHF := hid hHF
            have HRF := hid hRF
            clear hun HUN he3 hFF hHF hRF
            go_wp2
            refine pread_ret rfl rfl HHF.out ?_
            obtain rfl := HR.out
            exact ⟨_, _, _, _, _, _, rfl, HFF.out.fr, ⟨j5, HRF.out, fun h => absurd h HNE.out⟩, fun h => absurd h HNE.out⟩
        · obtain rfl : q = N := by omega
          have hsq := HSQ.out.2
          rw [Nat.sub_self] at hsq
          have HR := hid (show r = (.mk K n s ps, jq, 0) by rw [HSP'.out, hsq]; rfl)
          obtain ⟨v0, v1, v2, v3⟩ := box_cells HVr.out
          obtain ⟨r0, r1, r2, r3⟩ := box_cells HRr.out
          have zR := fun k => frozen_of_row _ pR k _ _ HRr.out
          have HFF := hid (HFr.out.put4 hloR (.int .i64 K) (.int .i64 n) (.string bs) (.slice la q lk))
          have HHF := hid (put4_heap (c0 := .int .i64 K) (c1 := .int .i64 n) (c2 := .string bs) (c3 := .slice la q lk) HRr.out)
          have HRF := hid (HRDr.out.off HRr.out (put4_fr _ pR (.int .i64 K) (.int .i64 n) (.string bs) (.slice la q lk)))
          have HPF := hid (HPR'.out.fr (put4_fr wr pR (.int .i64 K) (.int .i64 n) (.string bs) (.slice la q lk)) (fun k hk => .inl hk))
          clear hsq
          go_wp2
          refine pread_ret rfl rfl HHF.out ?_
          obtain rfl := HR.out
          exact ⟨_, _, _, _, _, _, rfl, HFF.out.fr, ⟨jq, HRF.out, fun _ => rfl⟩, fun _ => by have h := HPF.out.listG (K := K) (z := n) HSQ.out.1.symm ⟨by omega, by omega⟩ ⟨hn0, hn1⟩ HBY.out; rw [← HBS.out] at h; exact h⟩
    · obtain rfl : N = 0 := by have := HC0.out he; omega
      have hrr := HSP.out
      rw [if_pos he] at hrr
      have HR := hid hrr
      have HNE := hid he
      obtain ⟨v0, v1, v2, v3⟩ := box_cells HV3.out
      obtain ⟨r0, r1, r2, r3⟩ := box_cells HR3.out
      have zR := fun k => frozen_of_row _ pR k _ _ HR3.out
      have HFF := hid (HF3.out.put4 hloR (.int .i64 K) (.int .i64 n) (.string bs) (.slice none 0 0))
      have HHF := hid (put4_heap (c0 := .int .i64 K) (c1 := .int .i64 n) (c2 := .string bs) (c3 := .slice none 0 0) HR3.out)
      have HRF := hid (HRD3.out.off HR3.out (put4_fr _ pR (.int .i64 K) (.int .i64 n) (.string bs) (.slice none 0 0)))
      clear hrr HSP he
      go_rounds 1
      refine pread_ret rfl rfl HHF.out ?_
      obtain rfl := HR.out
      exact ⟨_, _, _, _, _, _, rfl, HFF.out.fr, ⟨_, HRF.out, fun h => absurd h HNE.out⟩, fun h => absurd h HNE.out⟩
end Go.Proofs.Ytplckmoeaeabgaa
