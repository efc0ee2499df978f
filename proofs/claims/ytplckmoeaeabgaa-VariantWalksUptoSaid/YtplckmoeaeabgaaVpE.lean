/-
  The contract of variant.Encode.
-/
import Derived.Test.YtplckmoeaeabgaaVpH
import Derived.Test.YtplckmoeaeabgaaWrY
namespace Go.Proofs.Ytplckmoeaeabgaa
open Go Go.ChangeShapes Go.WideShapes Go.ChangeAt Go.RowKit Go.Shelf
attribute [local go_sem] Oper.semAt_some

abbrev headX (o : List Int) (x : Int × Mv) : List Int := headV o x.2.vr
theorem fold_parts {f : List Int → Vr → List Int} {d : Int} : ∀ {l : List Mv} {o : List Int}, (∀ x ∈ l, ∀ o, (walkM x d).foldl headX o = f o x.vr) → (l.flatMap fun x => walkM x d).foldl headX o = (l.map Mv.vr).foldl f o
  | [], _, _ => rfl
  | x :: l, o, h => by
    rw [List.flatMap_cons, List.foldl_append, h x (by simp), List.map_cons, List.foldl_cons]
    exact fold_parts fun y hy => h y (by simp [hy])
/-- The heads, one behind the other, are the form. -/
theorem enc_walk : ∀ (m : Nat) (v : Mv) (out : List Int) (d : Int), chk m v.vr = 0 → (walkM v d).foldl headX out = encV m out v.vr
  | 0, _, _, _, h => by cases h
  | m + 1, .mk k n s a c l, out, d, h => by
    have hk := (chk_zero h).2.2.2
    have hf := (chk_zero h).1
    rw [Mv.vr_mk] at hk hf
    rw [walkM_mk, List.foldl_cons, fold_parts (f := encV m) (fun x hx o => enc_walk m x o _ (hk x.vr (by simpa [Vr.l] using ⟨x, hx, rfl⟩)))]
    show (l.map Mv.vr).foldl (encV m) (headV out (Mv.mk k n s a c l).vr) = _
    rw [Mv.vr_mk]
    rcases form_cases hf with ⟨rfl, rfl, rfl, hl⟩ | ⟨rfl, _, rfl, hl⟩ | ⟨rfl, _, rfl, hl⟩ | ⟨h35, rfl, hl⟩ | ⟨rfl, rfl, hl⟩ | ⟨rfl, rfl, rfl⟩
    · rw [hl]; simp [headV, encV, Vr.k]
    · rw [hl]; simp [headV, encV, Vr.k]
    · rw [hl]; simp [headV, encV, Vr.k]
    · rw [hl]; rcases h35 with rfl | rfl <;> simp [headV, encV, Vr.k]
    · rw [hl]; simp [headV, encV, Vr.k]
    · simp [headV, encV, Vr.k, Vr.l]
theorem head_len (o : List Int) (v : Vr) (h : v.s.length ≤ 256) : (headV o v).length ≤ o.length + 300 := by
  have g1 := gap_lt (n := o.length) (k := 1) (.inl rfl)
  have l1 := lay_len o v.k 1
  have g2 := gap_lt (n := (lay o v.k 1).length) (k := 1) (.inl rfl)
  have g4 := gap_lt (n := (lay o v.k 1).length) (k := 4) (.inr (.inr (.inl rfl)))
  have g8 := gap_lt (n := (lay o v.k 1).length) (k := 8) (.inr (.inr (.inr rfl)))
  unfold headV
  split
  · rw [lay_len]; omega
  · split
    · rw [lay_len]; omega
    · split
      · rw [lay_len]; omega
      · split
        · rw [layT_len]; omega
        · split
          · rw [lay_len]; omega
          · omega
theorem encL_len {pre : List (Int × Mv)} (h : ∀ x ∈ pre, x.2.vr.s.length ≤ 256) : ∀ (o : List Int), (pre.foldl headX o).length ≤ o.length + 300 * pre.length := by
  induction pre with
  | nil => intro o; simp
  | cons x pre ih =>
    intro o
    rw [List.foldl_cons]
    have h1 := ih (fun y hy => h y (by simp [hy])) (headX o x)
    have h2 : (headX o x).length ≤ o.length + 300 := head_len o x.2.vr (h x (by simp))
    simp only [List.length_cons]; omega
theorem fz_all {l : List (Int × Mv)} (h : fz l = 0) : ∀ x ∈ l, ckW x = 0 := by
  induction l with
  | nil => intro x hx; simp at hx
  | cons y l ih =>
    change (if ckW y ≠ 0 then ckW y else fz l) = 0 at h
    by_cases hy : ckW y = 0
    · rw [if_neg (by simpa using hy)] at h
      intro x hx
      rcases List.mem_cons.1 hx with rfl | hx
      · exact hy
      · exact ih h x hx
    · rw [if_pos hy] at h; exact absurd h hy
theorem WrTo.keeps {w w' : World} {p : Nat} {v v' : Value} {xs ys : List Int} (h : WrW w p v ys) (k : WrTo w p v w' v' xs) : KeepsOthers w w' := ⟨k.fr.size, fun j o hj ho => by
  rw [k.fr.block j (Array.getElem?_eq_some_iff.1 hj).1 (fun hf => ?_)]
  · exact hj
  · rcases hf with rfl | hf
    · rw [h.hp] at hj; cases hj; cases ho
    · rcases h.row.2 with ⟨rfl, _⟩ | ⟨g, cap, cur, rfl, _, hgb, _⟩
      · simp [Value.ownBlock] at hf
      · obtain rfl : g = j := by simpa [Value.ownBlock] using hf
        rw [hgb] at hj; cases hj; cases ho⟩
theorem WrTo.kq {w0 w w' : World} {p : Nat} {v v' : Value} {xs ys : List Int} (h : WrOwn w0 w p v ys) (k : WrTo w p v w' v' xs) : KQ (fun j => j < w0.heap.size) w w' := fun j cs t fr hS hj => by
  rw [k.fr.block j (Array.getElem?_eq_some_iff.1 hj).1 (fun hf => ?_)]
  · exact hj
  · rcases hS with hS | rfl
    · have := h.fp j hf
      omega
    · rcases hf with rfl | hf
      · rw [h.wr.hp] at hj; cases hj
      · rcases h.wr.row.2 with ⟨rfl, _⟩ | ⟨g, cap, cur, rfl, _, hgb, _⟩
        · simp [Value.ownBlock] at hf
        · obtain rfl : g = j := by simpa [Value.ownBlock] using hf
          rw [hgb] at hj; cases hj
theorem WrOwn.kept {w0 W W' : World} {p : Nat} {v : Value} {xs : List Int} {row : Option Nat} (h : WrOwn w0 W p v xs) (hg : W.grownBy W' row) (hr : ∀ r, row = some r → w0.heap.size ≤ r ∧ ∃ o : Obj, W.heap[r]? = some o ∧ o.isCells = false) : WrOwn w0 W' p v xs :=
  have hr' := fun r e => (hr r e).2
  ⟨⟨heap_kept h.wr.hp hg (not_cells h.wr.hp hr'), owns_not_cells h.wr.row hg hr', h.wr.ne⟩, h.below.grown hg h.below.size (fun k e => (hr k e).1), h.lo, h.own⟩
/-- Between two rounds of Encode. -/
def EI (w0 : World) (p B : Nat) (pre : List (Int × Mv)) (W : World) : Prop := W.heap[B]? = some (.cells #[.pointer (some ⟨p, 0, none⟩)] 58 (0, 0)) ∧ ∃ wv, WrOwn w0 W p wv (pre.foldl headX [])
theorem EI.kept {w0 W W' : World} {p B : Nat} {pre : List (Int × Mv)} {row : Option Nat} (h : EI w0 p B pre W) (hg : W.grownBy W' row) (hr : ∀ r, row = some r → w0.heap.size ≤ r ∧ ∃ o : Obj, W.heap[r]? = some o ∧ o.isCells = false) : EI w0 p B pre W' :=
  ⟨heap_kept h.1 hg (not_cells h.1 (fun r e => (hr r e).2)), h.2.imp fun _ h2 => h2.kept hg hr⟩
def PEncPost (w : World) (v : Vr) (e : Ending) (w' : World) : Prop :=
  Below w.heap.size w w' ∧ ((chk 8 v ≠ 0 ∧ e = .returned (.tuple #[.slice none 0 0, .int .i64 (chk 8 v)])) ∨
    (chk 8 v = 0 ∧ ∃ bv, e = .returned (.tuple #[bv, .int .i64 0]) ∧ w'.ownsRow w.heap.size 5 1 bv (encV 8 [] v).length (u8l (encV 8 [] v))))
set_option maxRecDepth 100000 in
set_option maxHeartbeats 4000000 in
theorem PEncode_in (n : Nat) (hn : 3 ≤ n) (w : World) (v : Mv) (hM : MS w (fun k => k < w.heap.size) v) (hN : chk 8 v.vr = 0 → (walkM v 0).length ≤ 1000000000) :
    CallsIn Fence.wide n Try.prog 12 #[.agg v.cells.toArray] w (PEncPost w v.vr) := by
  have h1 : 1 ≤ n := by omega
  have hcells : v.cells = [.int .i64 v.k, .int .i64 v.n, .string (strI v.s), .slice v.a v.l.length v.c] := rfl
  have hb1 : Below w.heap.size w (w.alloc (.cells v.cells.toArray 24)) := (Below.refl _ w).alloc (Nat.le_refl _) _
  have hMk := fun W (hW : Below w.heap.size w W) => hM.ks (ks_below hW)
  have hck := PCheck_in 3 (Nat.le_refl _) (w.alloc (.cells v.cells.toArray 24)) v ((hMk _ hb1).weak (fun k hk => Nat.lt_of_lt_of_le hk hb1.size))
  have hst := fun A W (hW : W.heap[A]? = some (.cells v.cells.toArray 24 (0, 0))) (hMW : MS W (fun k => k < w.heap.size) v) => values_stops (n - 1) A (fun k => k < w.heap.size) v W hW hMW
  rw [hcells] at hst hck hb1 ⊢
  have HB1 := hid hb1
  have HMK := hid hMk
  have HST := hid hst
  have HCK := hid hck
  have hx1 := heap_alloc_new w (.cells #[.int .i64 v.k, .int .i64 v.n, .string (strI v.s), .slice v.a v.l.length v.c] 24)
  have HX1 := hid hx1
  have HNN := hid hN
  have HMM := hid hM
  clear hM hb1 hMk hst hck hx1 hN
  obtain ⟨z, hz⟩ : ∃ z, z = chk 8 v.vr := ⟨_, rfl⟩
  rw [← hz] at HCK
  have HZ := hid hz
  obtain ⟨vk, hvk⟩ : ∃ x, x = v.k := ⟨_, rfl⟩
  obtain ⟨vn, hvn⟩ : ∃ x, x = v.n := ⟨_, rfl⟩
  obtain ⟨vs, hvs⟩ : ∃ x, x = strI v.s := ⟨_, rfl⟩
  obtain ⟨va, hva⟩ : ∃ x, x = v.a := ⟨_, rfl⟩
  obtain ⟨vl, hvl⟩ : ∃ x, x = v.l.length := ⟨_, rfl⟩
  obtain ⟨vc, hvc⟩ : ∃ x, x = v.c := ⟨_, rfl⟩
  rw [← hvk, ← hvn, ← hvs, ← hva, ← hvl, ← hvc] at HST HCK HB1 HX1 ⊢
  clear hvk hvn hvs hva hvl hvc hcells hz
  refine callsIn_of_wp_marks Try.func12 rfl trivial ?_ rfl
  simp only [Try.ntmps12, List.size_toArray, List.length_cons, List.length_nil, Nat.reduceAdd, Nat.reduceSub, Array.replicate_succ, Array.replicate_zero, List.push_toArray, List.append_toArray, List.nil_append, List.cons_append]
  gi_wp2_with fail
  first
    | refine (callsIn_wide.2 (callsIn_wide.1 HCK.out)).mono ?_
    | refine ⟨trivial, (callsIn_wide.2 (callsIn_wide.1 HCK.out)).mono ?_⟩
    | refine ⟨trivial, (fun h => by cases h), (callsIn_wide.2 (callsIn_wide.1 HCK.out)).mono ?_⟩
  rintro e w2 ⟨rfl, hb2⟩
  have hbb2 := HB1.out.trans (hb2.mono HB1.out.size)
  have hx2 := (hb2.block _ (lt_of_heap HX1.out)).trans HX1.out
  have HB2 := hid hbb2
  have HX2 := hid hx2
  have hs2 := hbb2.size
  have hs2' := lt_of_heap hx2
  obtain ⟨c0, c1, c2, c3⟩ := cell4 hx2
  clear hb2 hx2 HCK HB1 HX1 hbb2
  by_cases hz0 : z = 0
  · subst hz0
    gi_wp2_with fail
    first
      | refine (callsIn_wide.2 (NewWriter_any w2)).mono ?_
      | refine ⟨trivial, (callsIn_wide.2 (NewWriter_any w2)).mono ?_⟩
      | refine ⟨trivial, (fun h => by cases h), (callsIn_wide.2 (NewWriter_any w2)).mono ?_⟩
    rintro e w' ⟨rfl, rfl⟩
    have hx3 := heap_alloc_keep (.cells #[.slice none 0 0] 75) HX2.out
    obtain ⟨c0, c1, c2, c3⟩ := cell4 hx3
    gi_wp2_with fail
    have hx4 := heap_alloc_keep (.cells #[.pointer (some ⟨w2.heap.size, 0, none⟩)] 58) hx3
    obtain ⟨c0, c1, c2, c3⟩ := cell4 hx4
    first
      | refine (callsIn_wide.2 (values_any _ _ _ _ _)).mono ?_
      | refine ⟨trivial, (callsIn_wide.2 (values_any _ _ _ _ _)).mono ?_⟩
      | refine ⟨trivial, (fun h => by cases h), (callsIn_wide.2 (values_any _ _ _ _ _)).mono ?_⟩
    rintro e w' ⟨rfl, rfl⟩
    simp only [World.size_alloc]
    have hown := WrOwn.new w2
    have hbA := heap_alloc_new ((w2.alloc (.cells #[.slice none 0 0] 75)).alloc (.cells #[.pointer (some ⟨w2.heap.size, 0, none⟩)] 58)) (.cells #[.int .i64 vk, .int .i64 vn, .string vs, .slice va vl vc] 24)
    have hbB := heap_alloc_keep (.cells #[.int .i64 vk, .int .i64 vn, .string vs, .slice va vl vc] 24) (heap_alloc_new (w2.alloc (.cells #[.slice none 0 0] 75)) (.cells #[.pointer (some ⟨w2.heap.size, 0, none⟩)] 58))
    simp only [World.size_alloc] at hbA hbB
    have hownw : WrOwn w (w2.alloc (.cells #[.slice none 0 0] 75)) w2.heap.size (.slice none 0 0) [] := ⟨hown.wr, HB2.out.trans (hown.below.mono hs2), hs2, fun j h => by simp [Value.ownBlock] at h⟩
    have hg0 : ∀ r, (none : Option Nat) = some r → w.heap.size ≤ r ∧ ∃ o : Obj, (w2.alloc (.cells #[.slice none 0 0] 75)).heap[r]? = some o ∧ o.isCells = false := fun r e => by cases e
    have hown3 := (hownw.kept (World.grownBy_alloc _ (.cells #[.pointer (some ⟨w2.heap.size, 0, none⟩)] 58) none) hg0).kept (World.grownBy_alloc _ (.cells #[.int .i64 vk, .int .i64 vn, .string vs, .slice va vl vc] 24) none) (fun r e => by cases e)
    have hst := HST.out _ _ hbA (HMK.out _ hown3.below)
    have hI0 : EI w w2.heap.size (w2.heap.size + 1) [] _ := ⟨hbB, _, hown3⟩
    have hsz : w2.heap.size + 2 < (((w2.alloc (.cells #[.slice none 0 0] 75)).alloc (.cells #[.pointer (some ⟨w2.heap.size, 0, none⟩)] 58)).alloc (.cells #[.int .i64 vk, .int .i64 vn, .string vs, .slice va vl vc] 24)).heap.size := by simp
    have hms := HMK.out _ hown3.below
    obtain ⟨w4, hw4⟩ : ∃ w4, w4 = (((w2.alloc (.cells #[.slice none 0 0] 75)).alloc (.cells #[.pointer (some ⟨w2.heap.size, 0, none⟩)] 58)).alloc (.cells #[.int .i64 vk, .int .i64 vn, .string vs, .slice va vl vc] 24)) := ⟨_, rfl⟩
    rw [← hw4] at hst hI0 hsz hms ⊢
    have HST2 := hid hst
    have HI := hid hI0
    have HMS := hid hms
    have hzall : ∀ x ∈ walkM v 0, ckW x = 0 := fz_all ((fz_chk 8 v (Nat.le_refl _)).trans HZ.out.symm)
    have HZA := hid hzall
    clear hst hI0 hw4 hbA hbB hown hownw hg0 hown3 hms hzall c0 c1 c2 c3 hx3 hx4 HST HX2 hs2'
    clear c0 c1 c2 c3
    gi_wp2
    refine wpIn_rangeFunc_ownH rfl h1 (gf := 41) (lb := #[.pointer (some ⟨w2.heap.size + 1 + 1, 0, none⟩)]) rfl trivial (enters_of Try.func41 (by kernel_rfl) rfl)
      HST2.out (fun h k => h.t k) (fun W l o o' _ h2 h3 _ => KQ.b _ W l o o' h2 h3) (Below.refl _ _) (fun _ => rfl)
      (fun pre W => EI w w2.heap.size (w2.heap.size + 1) (tolds pre) W) (fun c pre W => False)
      (fun _ _ _ _ h hg hr => h.kept hg (fun r e => ⟨by have := (hr r e).1; omega, (hr r e).2⟩)) (fun _ _ _ _ _ h _ _ => h) HI.out
      (fun x a' W => ∃ Bx, W.heap[Bx]? = some (.cells #[.int .i64 x.1.2.k, .int .i64 x.1.2.n, .string (strI x.1.2.s), .slice x.1.2.a x.1.2.l.length x.1.2.c] 24 (0, 0)) ∧ a' = { tmps := #[.agg #[.int .i64 vk, .int .i64 vn, .string vs, .slice va vl vc], .pointer (some ⟨w.heap.size, 0, none⟩), .slice none 0 0, .int .i64 0, .int .i64 0, .pointer (some ⟨w2.heap.size + 1, 0, none⟩), undef, .pointer (some ⟨Bx, 0, none⟩), .agg #[.int .i64 vk, .int .i64 vn, .string vs, .slice va vl vc], .int .i64 0, .int .i64 0, .bool false, undef, .pointer (some ⟨w2.heap.size, 0, none⟩), .agg #[.int .i64 vk, .int .i64 vn, .string vs, .slice va vl vc], .func (.func 41) #[] #[.pointer (some ⟨w2.heap.size + 1 + 1, 0, none⟩)], .int .i64 x.1.1, .agg #[.int .i64 x.1.2.k, .int .i64 x.1.2.n, .string (strI x.1.2.s), .slice x.1.2.a x.1.2.l.length x.1.2.c], undef, undef, undef, undef, undef], defers := [] })
      (fun x a' _ X Y row hs hg hr => by obtain ⟨Bx, e2, e3⟩ := hs; exact ⟨Bx, heap_kept e2 hg (not_cells e2 (fun r e => (hr r e).2)), e3⟩)
      ?assign ?body ?done ?stop
    case assign =>
      rintro lp pre x W K hci hK
      dsimp only [yargs, Mv.cells]
      have HCI := hid hci
      have HKK := hid hK
      clear hci hK
      gi_wp2
      exact HKK.out _ _ ((KeepsOthers.alloc _ _).from _) ((KQ.refl _ W).alloc _) (HCI.out.kept (World.grownBy_alloc W _ none) (fun r e => by cases e)) ⟨W.heap.size, heap_alloc_new _ _, rfl⟩
    case body =>
      rintro lp pre x a' W hl ⟨r, hr⟩ hci ⟨Bx, bX, rfl⟩ hlt
      obtain ⟨c0, c1, c2, c3⟩ := cell4 bX
      obtain ⟨hptr, wv, hwo⟩ := hci
      have e0 : W.cell? ⟨w2.heap.size + 1, 0, none⟩ = some (.pointer (some ⟨w2.heap.size, 0, none⟩)) := by rw [cell_of_row _ _ 0 _ _ _ hptr]; rfl
      have hx := x.2
      have hfact := (HMS.out.walk hx).facts
      have hck := ck_zero (HZA.out x.1 hx)
      have hlen := encL_len (pre := tolds pre) (fun y hy => by
        obtain ⟨y', _, rfl⟩ := List.mem_map.1 hy
        exact (ck_zero (HZA.out y'.1 y'.2)).2.1) []
      have hpl : (tolds pre).length = pre.length := List.length_map ..
      have hNb := HNN.out HZ.out.symm
      have HLH := hid (layHead_any W w2.heap.size wv ((tolds pre).foldl headX []) x.1.2.vr x.1.2.a x.1.2.c hwo.wr hck.1 hck.2.1 hck.2.2 (by rw [Mv.vr_s]; exact hfact.1) (by rw [Mv.vr_n]; exact hfact.2) (by simp at hlen; omega))
      rw [Mv.vr_k, Mv.vr_n, Mv.vr_s, Mv.vr_len] at HLH
      have HPTR := hid hptr
      have HWO := hid hwo
      have hcw : (tolds (pre ++ [x])) = tolds pre ++ [x.1] := by simp [tolds]
      have HCW := hid hcw
      clear hptr hwo hx hfact hck hlen hpl hNb hcw bX hlt hl hr
      gi_wp2_with fail
      first
        | refine (CallsIn.inRound lp (callsIn_wide.2 HLH.out)).mono ?_
        | refine ⟨trivial, (CallsIn.inRound lp (callsIn_wide.2 HLH.out)).mono ?_⟩
        | refine ⟨trivial, (fun h => by cases h), (CallsIn.inRound lp (callsIn_wide.2 HLH.out)).mono ?_⟩
      rintro e w5 ⟨rfl, v5, hto⟩
      have HTO := hid hto
      clear hto c0 c1 c2 c3 e0
      gi_wp2
      refine ⟨(HTO.out.keeps HWO.out.wr).from _, HTO.out.kq HWO.out, HTO.out.heap HWO.out.wr HPTR.out (by decide) (by decide), v5, ?_⟩
      rw [HCW.out, List.foldl_append]
      exact HWO.out.to HTO.out
    case done =>
      rintro D ys W hD rfl ⟨hptr, wv, hwo⟩ hK
      have hfull : tolds (walkM v 0).attach = walkM v 0 := by unfold tolds; exact List.attach_map_subtype_val _
      rw [hfull, enc_walk 8 v [] 0 HZ.out.symm] at hwo
      have hlen := encL_len (pre := walkM v 0) (fun y hy => (ck_zero (HZA.out y hy)).2.1) []
      rw [enc_walk 8 v [] 0 HZ.out.symm] at hlen
      have hNb := HNN.out HZ.out.symm
      have HBY := hid (Bytes_any W w2.heap.size wv _ hwo.wr (by simp at hlen; omega))
      have e0 : W.cell? ⟨w2.heap.size + 1, 0, none⟩ = some (.pointer (some ⟨w2.heap.size, 0, none⟩)) := by rw [cell_of_row _ _ 0 _ _ _ hptr]; rfl
      have HWO := hid hwo
      have HKD := hid hK
      clear hptr hwo hfull hlen hNb hK
      gi_wp2_with fail
      first
        | refine (callsIn_wide.2 HBY.out).mono ?_
        | refine ⟨trivial, (callsIn_wide.2 HBY.out).mono ?_⟩
        | refine ⟨trivial, (fun h => by cases h), (callsIn_wide.2 HBY.out).mono ?_⟩
      rintro e w5 ⟨bv, rfl, hrow, hb5⟩
      have hK' := (hb5.block D (lt_of_heap HKD.out)).trans HKD.out
      have HROW := hid hrow
      have HB5 := hid hb5
      have HKD' := hid hK'
      clear hrow hb5 hK' e0
      gi_wp2
      refine ⟨by simp, .inl ⟨_, _, rfl, run_takeDeferred HKD'.out, ?_⟩⟩
      refine ⟨.tuple #[bv, .int .i64 0], ?_, ?_, .inr ⟨HZ.out.symm, bv, rfl, ?_⟩⟩
      · simp [results, Try.f12, go_sem]
      · exact (HWO.out.below.trans (HB5.out.mono HWO.out.below.size)).trans (belowK_b (w := w) (Nat.le_refl _) _ D _ _ (by omega) HKD'.out rfl rfl)
      · exact owns_low (owns_not_cells HROW.out (grownBy_putObj' _ D (.deferred none)) (fun r e => by cases e; exact ⟨_, HKD'.out, rfl⟩)) HWO.out.below.size
    case stop =>
      rintro D c pre W hD hp h hK
      exact h.elim
  · have d1 : (z != 0) = true := by simpa using hz0
    have HN := hid hz0
    clear hz0
    gi_wp2
    refine ⟨.tuple #[.slice none 0 0, .int .i64 z], ?_, HB2.out, .inl ⟨by rw [← HZ.out]; exact HN.out, by rw [HZ.out]⟩⟩
    simp [results, Try.f12, go_sem]
end Go.Proofs.Ytplckmoeaeabgaa
