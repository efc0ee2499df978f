/-
  Values that are read: their cells, their parts' row.
-/
import Derived.Test.YtplckmoeaeabgaaVrD
import Derived.Test.YtplckmoeaeabgaaVrB
import Derived.Test.YtplckmoeaeabgaaRfX
import Derived.Laws.ResultCell
namespace Go.Proofs.Ytplckmoeaeabgaa
open Go Go.ChangeShapes Go.WideShapes Go.ChangeAt Go.RowKit

set_option maxRecDepth 100000 in
theorem results_cell_tmp2 {fn : Func} {p u v : Tmp} {ty : TypeId} (h : fn.results = #[.cell p ty, .tmp u, .tmp v]) (tmps : Array Value) (P : Program) (w : World) :
    (results fn tmps).run P w =
      ((asAddr (tmps.getD p undef)).run P w).andThen fun a w₁ => ((loadVar ty a).run P w₁).andThen fun x w₂ => .ok (.tuple #[x, tmps.getD u undef, tmps.getD v undef]) w₂ := by
  simp only [results, h]
  simp [Sem.run_bind, Result.andThen]
set_option maxRecDepth 100000 in
theorem load_var (W : World) (b : Nat) (c0 c1 c2 c3 : Value) (fz : Nat × Nat) (h : W.heap[b]? = some (.cells #[c0, c1, c2, c3] 24 fz)) : (loadVar 24 ⟨b, 0, none⟩).run Try.prog W = .ok (.agg #[c0, c1, c2, c3]) W := by
  have e0 : W.cell? ⟨b, 0, none⟩ = some c0 := by rw [cell_of_row W b 0 _ _ _ h]; rfl
  have e1 : W.cell? ⟨b, 1, none⟩ = some c1 := by rw [cell_of_row W b 1 _ _ _ h]; rfl
  have e2 : W.cell? ⟨b, 2, none⟩ = some c2 := by rw [cell_of_row W b 2 _ _ _ h]; rfl
  have e3 : W.cell? ⟨b, 3, none⟩ = some c3 := by rw [cell_of_row W b 3 _ _ _ h]; rfl
  go_simp
set_option maxRecDepth 100000 in
/-- The return: a value out of its cell, and two numbers. -/
theorem read_ret {Q : Ending → World → Prop} {tmps : Array Value} {W : World} {b : Nat} {c0 c1 c2 c3 u v : Value} {fz : Nat × Nat} (h6 : tmps.getD 6 undef = .pointer (some ⟨b, 0, none⟩)) (h7 : tmps.getD 7 undef = u) (h8 : tmps.getD 8 undef = v)
    (h : W.heap[b]? = some (.cells #[c0, c1, c2, c3] 24 fz)) (hq : Q (.returned (.tuple #[.agg #[c0, c1, c2, c3], u, v])) W) : bodyPost Try.prog Try.f38 Q Exit.ret { tmps := tmps, defers := [] } W := by
  refine bodyPost_ret (a := { tmps := tmps, defers := [] }) (v := .tuple #[.agg #[c0, c1, c2, c3], u, v]) ?_ rfl hq
  rw [results_cell_tmp2 (fn := Try.f38) rfl, h6, h7, h8]
  have := load_var W b c0 c1 c2 c3 fz h
  simp [asAddr, this, Result.andThen]
set_option maxHeartbeats 2000000 in
set_option maxRecDepth 100000 in
theorem Read_deep (w : World) (b : Value) (at' : Int) : Calls Try.prog 38 #[b, .int .i64 at', .int .i64 9] w fun e w' => e = .returned (.tuple #[.agg #[.int .i64 0, .int .i64 0, .string ⟨#[]⟩, .slice none 0 0], .int .i64 at', .int .i64 16]) ∧ Below w.heap.size w w' := by
  go_enter Try.func38, Try.ntmps38
  go_wp2
  exact read_ret rfl rfl rfl (heap_alloc2_old _ _ _) ⟨rfl, ((Below.refl w.heap.size w).alloc (Nat.le_refl _) _).alloc (by simp) _⟩
def ReadPost (w : World) (r : Vr × Nat × Int) (e : Ending) (w' : World) : Prop := ∃ cs, e = .returned (.tuple #[.agg cs.toArray, .int .i64 r.2.1, .int .i64 r.2.2]) ∧ VS w' (fun b => w.heap.size ≤ b ∧ b < w'.heap.size) r.1 cs ∧ Below w.heap.size w w'
set_option maxRecDepth 100000 in
theorem none_in (w : World) (B : Nat → Prop) : VS w B none0 [.int .i64 0, .int .i64 0, .string ⟨#[]⟩, .slice none 0 0] :=
  .mk 0 0 [] [] none 0 (fun _ => []) (by omega) (by omega) (fun x hx => by simp at hx) ⟨Nat.le_refl _, by omega⟩ (fun _ => rfl) (fun h => absurd h (by simp)) (fun b o h => by cases h) (fun i x h => by simp at h)
set_option maxRecDepth 100000 in
theorem num_in (w : World) (B : Nat → Prop) (K z : Int) (hK : -9223372036854775808 ≤ K ∧ K ≤ 9223372036854775807) (hz : -9223372036854775808 ≤ z ∧ z ≤ 9223372036854775807) : VS w B (.mk K z [] []) [.int .i64 K, .int .i64 z, .string ⟨#[]⟩, .slice none 0 0] :=
  .mk K z [] [] none 0 (fun _ => []) hK hz (fun x hx => by simp at hx) ⟨Nat.le_refl _, by omega⟩ (fun _ => rfl) (fun h => absurd h (by simp)) (fun b o h => by cases h) (fun i x h => by simp at h)
set_option maxRecDepth 100000 in
theorem text_in (w : World) (B : Nat → Prop) (t : List Int) (ht : Byt t) : VS w B (.mk 4 0 t []) [.int .i64 4, .int .i64 0, .string (strI t), .slice none 0 0] :=
  .mk 4 0 t [] none 0 (fun _ => []) (by omega) (by omega) ht ⟨Nat.le_refl _, by omega⟩ (fun _ => rfl) (fun h => absurd h (by simp)) (fun b o h => by cases h) (fun i x h => by simp at h)
set_option maxRecDepth 100000 in
theorem conv_nil (W : World) : (convert 30 9 (.slice none 0 0)).run Try.prog W = .ok (.string ⟨#[]⟩) W := by kernel_rfl
/-- A value stored whole into a box. -/
def put4 (W : World) (p : Nat) (c0 c1 c2 c3 : Value) : World := (((W.setCell ⟨p, 0, none⟩ c0).setCell ⟨p, 1, none⟩ c1).setCell ⟨p, 2, none⟩ c2).setCell ⟨p, 3, none⟩ c3
set_option maxRecDepth 100000 in
theorem put4_heap {W : World} {p t : Nat} {a0 a1 a2 a3 c0 c1 c2 c3 : Value} (h : W.heap[p]? = some (.cells #[a0, a1, a2, a3] t (0, 0))) : (put4 W p c0 c1 c2 c3).heap[p]? = some (.cells #[c0, c1, c2, c3] t (0, 0)) := by
  have h0 := heap_setCell_same W p 0 _ t c0 h
  have h1 := heap_setCell_same _ p 1 _ t c1 h0
  have h2 := heap_setCell_same _ p 2 _ t c2 h1
  have h3 := heap_setCell_same _ p 3 _ t c3 h2
  unfold put4
  rw [h3]; rfl
set_option maxRecDepth 100000 in
theorem put4_fr (W : World) (p : Nat) (c0 c1 c2 c3 : Value) : Fr (fun b => b = p) W (put4 W p c0 c1 c2 c3) :=
  ((((Fr.refl (fun b => b = p) W).setCell ⟨p, 0, none⟩ c0 (fun _ => rfl)).setCell ⟨p, 1, none⟩ c1 (fun _ => rfl)).setCell ⟨p, 2, none⟩ c2 (fun _ => rfl)).setCell ⟨p, 3, none⟩ c3 (fun _ => rfl)
set_option maxRecDepth 100000 in
theorem flat_at : ∀ {css : List (List Value)} {i : Nat} {c : List Value}, (∀ d ∈ css, d.length = 4) → css[i]? = some c → ∀ j, j < 4 → css.flatten[i * 4 + j]? = c[j]?
  | z :: css, 0, c, hl, h, j, hj => by
    simp at h; subst h
    rw [List.flatten_cons, List.getElem?_append_left (by rw [hl z (by simp)]; omega)]
    congr 1; omega
  | z :: css, i + 1, c, hl, h, j, hj => by
    have hz := hl z (by simp)
    rw [List.flatten_cons, List.getElem?_append_right (by rw [hz]; omega)]
    have := flat_at (css := css) (i := i) (fun d hd => hl d (by simp [hd])) (by simpa using h) j hj
    rw [← this]
    congr 1
    rw [hz]; omega
/-- Parts that were read: their row, and what they reach. -/
structure PRow (w0 W : World) (lv : Value) (pR pV pN : Nat) (ps : List Vr) (css : List (List Value)) : Prop where
  len : css.length = ps.length
  four : ∀ d ∈ css, d.length = 4
  row : W.ownsRow w0.heap.size 24 4 lv ps.length css.flatten
  ne : ∀ b, lv.ownBlock = some b → b ≠ pR ∧ b ≠ pV ∧ b ≠ pN
  parts : ∀ (i : Nat) x c, ps[i]? = some x → css[i]? = some c → VS W (fun b => w0.heap.size ≤ b ∧ b < W.heap.size ∧ lv.ownBlock ≠ some b ∧ b ≠ pR ∧ b ≠ pV ∧ b ≠ pN) x c
set_option maxRecDepth 100000 in
theorem PRow.fr {w0 W W' : World} {lv : Value} {pR pV pN : Nat} {ps : List Vr} {css : List (List Value)} {fp : Nat → Prop} (h : PRow w0 W lv pR pV pN ps css) (hf : Fr fp W W') (hp : ∀ k, fp k → k = pR ∨ k = pV ∨ k = pN) : PRow w0 W' lv pR pV pN ps css :=
  ⟨h.len, h.four, hf.owns h.row (fun k hk e => by
    have := h.ne k hk
    rcases hp k e with e | e | e
    · exact this.1 e
    · exact this.2.1 e
    · exact this.2.2 e), h.ne, fun i x c hx hc => by
    refine VS.weak (fun b hb => ⟨hb.1, Nat.lt_of_lt_of_le hb.2.1 hf.size, hb.2.2⟩) (VS.of_blocks (fun b hb => hf.block b hb.2.1 (fun e => ?_)) (h.parts i x c hx hc))
    rcases hp b e with e | e | e
    · exact hb.2.2.2.1 e
    · exact hb.2.2.2.2.1 e
    · exact hb.2.2.2.2.2 e⟩
set_option maxRecDepth 100000 in
theorem PRow.push {w0 W w7 : World} {lv v7 : Value} {pR pV pN m : Nat} {ps : List Vr} {css : List (List Value)} {x : Vr} {cs : List Value} {ob : Obj} (h : PRow w0 W lv pR pV pN ps css) (h4 : cs.length = 4)
    (hx : VS W (fun b => w0.heap.size ≤ b ∧ b < W.heap.size ∧ lv.ownBlock ≠ some b ∧ b ≠ pR ∧ b ≠ pV ∧ b ≠ pN) x cs) (hown : w7.ownsRow w0.heap.size 24 4 v7 m (css.flatten ++ cs)) (hg : (W.alloc ob).grownBy w7 lv.ownBlock)
    (hat : v7.ownBlock = lv.ownBlock ∨ v7.ownBlock = some (W.alloc ob).heap.size) (hR : pR < W.heap.size) (hV : pV < W.heap.size) (hN : pN < W.heap.size) : PRow w0 w7 v7 pR pV pN (ps ++ [x]) (css ++ [cs]) := by
  have hfl : css.flatten.length = ps.length * 4 := h.row.1
  have hm : m = (ps ++ [x]).length := by
    have := hown.1
    rw [List.length_append, hfl, h4] at this
    simp; omega
  have hsz : W.heap.size ≤ w7.heap.size := Nat.le_trans (by simp) hg.size
  have tr : ∀ {y : Vr} {d : List Value}, VS W (fun b => w0.heap.size ≤ b ∧ b < W.heap.size ∧ lv.ownBlock ≠ some b ∧ b ≠ pR ∧ b ≠ pV ∧ b ≠ pN) y d → VS w7 (fun b => w0.heap.size ≤ b ∧ b < w7.heap.size ∧ v7.ownBlock ≠ some b ∧ b ≠ pR ∧ b ≠ pV ∧ b ≠ pN) y d := fun hy => by
    refine VS.weak (fun b hb => ⟨hb.1, Nat.lt_of_lt_of_le hb.2.1 hsz, fun e => ?_, hb.2.2.2⟩) (VS.of_blocks (fun b hb => ?_) hy)
    rotate_left
    · rcases hat with e2 | e2
      · exact hb.2.2.1 (by rw [← e2]; exact e)
      · rw [e] at e2; cases e2
        have := hb.2.1
        simp at this
        omega
    · rw [hg.block b (by simp; have := hb.2.1; omega) (fun e => hb.2.2.1 e.symm)]
      exact Below.heap_alloc W ob b hb.2.1
  refine ⟨by simp [h.len], fun d hd => ?_, by rw [List.flatten_append, ← hm]; simpa using hown, fun b hb => ?_, fun i y c hy hc => ?_⟩
  · rcases List.mem_append.1 hd with hd | hd
    · exact h.four d hd
    · simp at hd; subst hd; exact h4
  · rcases hat with e | e
    · exact h.ne b (by rw [← e]; exact hb)
    · rw [hb] at e; cases e
      simp
      omega
  · by_cases hi : i < ps.length
    · rw [List.getElem?_append_left hi] at hy
      rw [List.getElem?_append_left (by rw [h.len]; exact hi)] at hc
      exact tr (h.parts i y c hy hc)
    · have hi2 : i = ps.length := by
        have := (List.getElem?_eq_some_iff.1 hy).1
        simp at this; omega
      subst hi2
      rw [List.getElem?_append_right (Nat.le_refl _)] at hy
      rw [← h.len, List.getElem?_append_right (Nat.le_refl _)] at hc
      simp at hy hc
      subst hy; subst hc
      exact tr hx
set_option maxRecDepth 100000 in
/-- The list that was read. -/
theorem PRow.list {w0 W : World} {a : Option Addr} {n c : Nat} {pR pV pN : Nat} {ps : List Vr} {css : List (List Value)} (h : PRow w0 W (.slice a n c) pR pV pN ps css) (hn : n = ps.length) : VS W (fun b => w0.heap.size ≤ b ∧ b < W.heap.size) (.mk 6 0 [] ps) [.int .i64 6, .int .i64 0, .string ⟨#[]⟩, .slice a n c] := by
  subst hn
  have hrow := h.row
  rcases hrow.2 with ⟨q1, q2⟩ | ⟨g, cap, cur, q1, hb, hg, hnc, hm, hs, ht⟩
  · have : ps = [] := List.eq_nil_of_length_eq_zero q2
    subst this
    cases q1
    exact .mk 6 0 [] [] none 0 (fun _ => []) (by omega) (by omega) (fun x hx => by simp at hx) ⟨Nat.le_refl _, by omega⟩ (fun _ => rfl) (fun h => absurd h (by simp)) (fun b o h => by cases h) (fun i x h => by simp at h)
  · cases q1
    refine .mk 6 0 [] ps (some ⟨g, 0, none⟩) c (fun i => css.getD i []) (by omega) (by omega) (fun x hx => by simp at hx) ⟨hnc, own_capmax hrow⟩ (fun h => by cases h) (fun _ => ⟨g, 0, rfl, hb, (Array.getElem?_eq_some_iff.1 hg).1⟩) (fun b o he i x hx j u hu => ?_) (fun i x hx => ?_)
    · cases he
      have hi : i < ps.length := (List.getElem?_eq_some_iff.1 hx).1
      have hc : css[i]? = some (css.getD i []) := by simp [h.len, hi]
      have hj : j < 4 := by
        have := (List.getElem?_eq_some_iff.1 hu).1
        rw [h.four _ (List.mem_of_getElem? hc)] at this; exact this
      have := hrow.cellAt (i * 4 + j) (by omega)
      rw [flat_at h.four hc j hj, hu] at this
      rw [Nat.zero_add]; exact this
    · have hi : i < ps.length := (List.getElem?_eq_some_iff.1 hx).1
      have hc : css[i]? = some (css.getD i []) := by simp [h.len, hi]
      exact VS.weak (fun b hb => ⟨hb.1, hb.2.1⟩) (h.parts i x _ hx hc)
set_option maxRecDepth 100000 in
theorem infoVar : (Try.prog.info? 24).map (fun i => (i.zero, i.size, i.bytes)) = some (some (.agg #[.int .i64 0, .int .i64 0, .string ⟨#[]⟩, .slice none 0 0]), 4, 56) := by kernel_rfl
set_option maxRecDepth 100000 in
theorem rd_le4 {b : List Int} {a : Nat} (h : Byt b) : (rd b a 4).1 < 4294967296 := by
  have z : (0 : Int) < 4294967296 := by decide
  unfold rd
  by_cases h1 : fits 4 = false
  · rw [if_pos h1]; exact z
  · rw [if_neg h1]
    by_cases h2 : b.length < a + gap a (4 : Int).toNat + (4 : Int).toNat
    · rw [if_pos h2]; exact z
    · rw [if_neg h2]
      by_cases h3 : ((b.drop a).take (gap a (4 : Int).toNat)).all (· == 0) = false
      · rw [if_pos h3]; exact z
      · rw [if_neg h3]
        have := (valL_le (h.part (a + gap a (4 : Int).toNat) (4 : Int).toNat) 4 (by rw [List.length_take]; exact Nat.le_trans (Nat.min_le_left _ _) (Nat.le_refl _))).2
        rw [show (256 : Int) ^ 4 = 4294967296 by decide] at this
        exact this
set_option maxRecDepth 100000 in
theorem rdT_text {b : List Int} {a : Nat} {m : Int} (h : Byt b) : Byt (rdT b a m).1 := by
  unfold rdT
  split
  · exact fun x hx => by simp at hx
  · split
    · exact fun x hx => by simp at hx
    · split
      · exact fun x hx => by simp at hx
      · exact h.part _ _
set_option maxRecDepth 100000 in
theorem wrap_i64_big {n : Int} (h0 : 0 ≤ n) (h1 : n < 18446744073709551616) : IntKind.i64.wrap n = if n < 9223372036854775808 then n else n - 18446744073709551616 := by
  split
  · exact IntWalk.i64_in _ (by omega)
  · simp [IntKind.wrap, IntKind.bits, IntKind.signed]
    omega
end Go.Proofs.Ytplckmoeaeabgaa
