/-
  The contract of Begin.
-/
import Derived.Test.YtjmhlmohennknabCyW
import Derived.Test.YtjmhlmohennknabGen
namespace Go.Proofs.Ytjmhlmohennknab
open Go Go.ChangeShapes Go.WideShapes Go.ChangeAt Go.RowKit

abbrev TGr : TypeId := 25
theorem exec_makeC {P : Program} {o : Oper} {f : Operand → Value} {W : World} {p : Operand} {st e : TypeId} {k n bytes : Nat} {z : Value} (hu : P.underlying st = some (.slice e)) (hinfo : (P.info? e).map (fun i => (i.zero, i.size, i.bytes)) = some (some z, k, bytes)) (hn : n ≤ 100000) (hb : bytes ≤ 1000)
    (ho : o.op = .makeSlice st p p) (hp : f p = .int .i64 (n : Int)) :
    (execOp f o).run P W = .ok (.value (.slice (some ⟨W.heap.size, 0, none⟩) n n)) (W.alloc (.cells (madeCells z.cells (n * k)) e)) := by
  obtain ⟨i, hi, hz⟩ := Option.map_eq_some_iff.1 hinfo
  simp only [Prod.mk.injEq] at hz
  obtain ⟨h1, h2, h3⟩ := hz
  have hbn : bytes * n ≤ 1000 * 100000 := Nat.mul_le_mul hb hn
  have hbn' : (bytes : Int) * (n : Int) ≤ 281474976710656 := by
    have : ((bytes * n : Nat) : Int) ≤ 281474976710656 := by omega
    rwa [Int.natCast_mul] at this
  have hr := run_make (P := P) W st e i z hu hi h1 .i64 .i64 n n (by omega) (Int.le_refl _) (by rw [h3]; exact hbn') (by omega)
  simp only [Int.toNat_natCast, h2] at hr
  unfold execOp
  simp only [ho, hp, Sem.run_bind, hr, Result.andThen_ok, Sem.run_pure]
theorem made_at {z : Array Value} {m j : Nat} (hj : j < m) (hz : 0 < z.size) : (madeCells z m)[j]? = z[j % z.size]? := by
  unfold madeCells
  have h1 := Nat.mod_lt j hz
  simp [hj, h1]
set_option maxRecDepth 100000 in
theorem infoNd : (Try.prog.info? TNode).map (fun i => (i.zero, i.size, i.bytes)) = some (some (.agg #[.int .i64 0, .int .i64 0, .slice none 0 0]), 3, 40) := by kernel_rfl
theorem hkeep {w : World} {k : Nat} {o : Obj} (o' : Obj) (h : w.heap[k]? = some o) : (w.alloc o').heap[k]? = some o := by
  rw [heap_alloc_old _ _ (Array.getElem?_eq_some_iff.1 h).1]; exact h
theorem PI.edw {w0 w : World} {v : Value} {xs : List Nat} {p q : Nat} (h : PI w0 w v xs) (hp : p < w0.heap.size) (hq : q < w0.heap.size) : EdW w.heap.size p q w v xs := by
  obtain ⟨a, c, h1, h2, h3, h4⟩ := h.told.ex
  refine ⟨a, c, h1, h2, h3, fun hl => ?_⟩
  obtain ⟨b, o, rfl, h6, h7⟩ := h4 hl
  have := (World.ownsRow.lt h.1 b (by rw [h1]; rfl)).1
  exact ⟨b, o, rfl, h6, by omega, by omega, h7⟩
section
variable {w W W' : World} {p q B0 B1 B2 n : Nat} {e e' : Nat → List Nat} {col col' : Nat → Nat} {held held' : Nat → Int} {nv cv ev : Value}
theorem EdW.mono {v : Value} {xs : List Nat} (h : EdW B1 p q w v xs) (hB : B1 ≤ B2) : EdW B2 p q w v xs := by
  obtain ⟨a, c, h1, h2, h3, h4⟩ := h
  refine ⟨a, c, h1, h2, h3, fun hl => ?_⟩
  obtain ⟨b, o, h5, h6, h7⟩ := h4 hl
  exact ⟨b, o, h5, by omega, h7⟩
theorem NdW.mono (h : NdW w p q B0 B1 n e col held nv) (hB : B1 ≤ B2) : NdW w p q B0 B2 n e col held nv := by
  obtain ⟨cur, h1, h2⟩ := h.at_
  refine ⟨h.nv, h.q0, by have := h.q1; omega, h.qp, cur, h1, fun i hi => ?_⟩
  obtain ⟨a, b, ev, c, d⟩ := h2 i hi
  exact ⟨a, b, ev, c, d.mono hB⟩
theorem NdW.congr (h : NdW w p q B0 B1 n e col held nv) (hc : ∀ i, i < n → e i = e' i ∧ col i = col' i ∧ held i = held' i) : NdW w p q B0 B1 n e' col' held' nv := by
  obtain ⟨cur, h1, h2⟩ := h.at_
  refine ⟨h.nv, h.q0, h.q1, h.qp, cur, h1, fun i hi => ?_⟩
  have := h2 i hi
  unfold NdAt at this ⊢
  obtain ⟨a, b, c⟩ := hc i hi
  rw [← a, ← b, ← c]
  exact this
/-- While a run is begun. -/
structure BgW (w W : World) (p q : Nat) (cv ev : Value) (n : Nat) (e : Nat → List Nat) (col : Nat → Nat) (held : Nat → Int) : Prop where
  gb : W.heap[w.heap.size]? = some (.cells #[cv, ev] TGr (0, 0))
  hp : W.heap[p]? = some (.cells #[.slice (some ⟨q, 0, none⟩) n n, .int .i64 0, .int .i64 0, .slice none 0 0, .int .i64 0, .slice none 0 0] TRun (0, 0))
  nd : NdW W p q w.heap.size W.heap.size n e col held (.slice (some ⟨q, 0, none⟩) n n)
  p0 : w.heap.size < p
  q0 : w.heap.size ≠ q
  bl : Below w.heap.size w W
theorem BgW.lt (h : BgW w W p q cv ev n e col held) : p < W.heap.size := (Array.getElem?_eq_some_iff.1 h.hp).1
theorem BgW.call (h : BgW w W p q cv ev n e col held) (hB : Below W.heap.size W W') : BgW w W' p q cv ev n e col held :=
  ⟨by rw [hB.block _ (Array.getElem?_eq_some_iff.1 h.gb).1]; exact h.gb, by rw [hB.block _ h.lt]; exact h.hp, (h.nd.fr (fp := fun _ => False) (Fr.of_below hB) (fun _ _ _ e => e) (Nat.le_refl _)).mono hB.size, h.p0, h.q0, h.bl.trans (hB.mono h.bl.size)⟩
theorem BgW.set (h : BgW w W p q cv ev n e col held) (k : Nat) (v : Value) (hN : NdW (W.setCell ⟨q, k, none⟩ v) p q w.heap.size W.heap.size n e' col' held' (.slice (some ⟨q, 0, none⟩) n n)) : BgW w (W.setCell ⟨q, k, none⟩ v) p q cv ev n e' col' held' := by
  have hfr : Fr (fun b => b = q) W (W.setCell ⟨q, k, none⟩ v) := (Fr.refl _ _).setCell _ _ (fun _ => rfl)
  have hq0 := h.nd.q0
  refine ⟨?_, ?_, ?_, h.p0, h.q0, h.bl.trans (hfr.below h.bl.size (fun k hk => by omega))⟩
  · rw [hfr.block _ (Array.getElem?_eq_some_iff.1 h.gb).1 (fun e => h.q0 e)]; exact h.gb
  · rw [hfr.block _ h.lt (fun e => h.nd.qp e.symm)]; exact h.hp
  · have : (W.setCell ⟨q, k, none⟩ v).heap.size = W.heap.size := by simp
    rw [this]; exact hN
theorem BgW.congr (h : BgW w W p q cv ev n e col held) (hc : ∀ i, i < n → e i = e' i ∧ col i = col' i ∧ held i = held' i) : BgW w W p q cv ev n e' col' held' :=
  ⟨h.gb, h.hp, h.nd.congr hc, h.p0, h.q0, h.bl⟩
theorem BgW.c0 (h : BgW w W p q cv ev n e col held) : W.cell? ⟨p, 0, none⟩ = some (.slice (some ⟨q, 0, none⟩) n n) := by rw [cell_of_row _ _ 0 _ _ _ h.hp]; rfl
theorem BgW.g0 (h : BgW w W p q cv ev n e col held) : W.cell? ⟨w.heap.size, 0, none⟩ = some cv := by rw [cell_of_row _ _ 0 _ _ _ h.gb]; rfl
theorem BgW.g1 (h : BgW w W p q cv ev n e col held) : W.cell? ⟨w.heap.size, 1, none⟩ = some ev := by rw [cell_of_row _ _ 1 _ _ _ h.gb]; rfl
end
/-- The counts of the first nodes. -/
def heldT (cs : List Int) (t i : Nat) : Int := if i < t then cs.getD i 0 else 0
theorem heldT_at (cs : List Int) (t : Nat) : heldT cs (t + 1) t = cs.getD t 0 := if_pos (Nat.lt_succ_self t)
theorem heldT_ne {cs : List Int} {t i : Nat} (h : i ≠ t) : heldT cs (t + 1) i = heldT cs t i := by
  unfold heldT
  by_cases hlt : i < t
  · rw [if_pos hlt, if_pos (by omega)]
  · rw [if_neg hlt, if_neg (by omega)]
/-- The edges of the first nodes. -/
def edT (n : Nat) (es : List (List Int)) (t i : Nat) : List Nat := if i < t then wi n (es.getD i []) else []
theorem edT_at (n : Nat) (es : List (List Int)) (t : Nat) : edT n es (t + 1) t = wi n (es.getD t []) := if_pos (Nat.lt_succ_self t)
theorem edT_ne {n : Nat} {es : List (List Int)} {t i : Nat} (h : i ≠ t) : edT n es (t + 1) i = edT n es t i := by
  unfold edT
  by_cases hlt : i < t
  · rw [if_pos hlt, if_pos (by omega)]
  · rw [if_neg hlt, if_neg (by omega)]
theorem edT_all {n : Nat} {es : List (List Int)} {i : Nat} (hi : i < n) : edT n es (min es.length n) i = wi n (es.getD i []) := by
  unfold edT
  by_cases h : i < min es.length n
  · rw [if_pos h]
  · rw [if_neg h, List.getD_eq_getElem?_getD, List.getElem?_eq_none (by omega)]
    rfl
open Classical in
/-- The colours, some suspects told. -/
noncomputable def colT (L : List Nat) (i : Nat) : Nat := if i ∈ L then 1 else 0
theorem colT_add {L : List Nat} {j : Nat} : ∀ i, upd (colT L) j 1 i = colT (L ++ [j]) i := fun i => by
  unfold upd colT
  by_cases h : i = j
  · subst h; simp
  · simp [h]
/-- A run that has done nothing. -/
noncomputable def begS (cs : List Int) (su : List Nat) : CyS := ⟨colT su, fun i => cs.getD i 0, 0, 0, [], 0, []⟩
def BeginPost (w : World) (cs : List Int) (es : List (List Int)) (su : List Int) (e : Ending) (w' : World) : Prop :=
  ∃ p B1, e = .returned (.pointer (some ⟨p, 0, none⟩)) ∧ Rn w' p w.heap.size B1 (grOf cs es (fun i => i ∈ wi cs.length su)) (begS cs (wi cs.length su)) ∧ Below w.heap.size w w'
theorem begS_ok {cs : List Int} {es : List (List Int)} {L : List Nat} : CyJ (grOf cs es (fun i => i ∈ L)) (begS cs L) := by
  refine .mk0 (.new (fun i _ => ?_) (fun i _ => ?_) (fun j _ => rfl) rfl rfl rfl rfl) rfl (Nat.zero_le _)
  · show colT L i < 2
    unfold colT; split <;> omega
  · show colT L i = 1 ↔ i ∈ L
    unfold colT
    split
    · rename_i h; exact ⟨fun _ => h, fun _ => rfl⟩
    · rename_i h; exact ⟨fun k => by omega, fun k => absurd k h⟩
set_option maxRecDepth 100000 in
set_option maxHeartbeats 4000000 in
theorem Begin_any (w : World) (cv ev sv : Value) (cs : List Int) (es : List (List Int)) (su : List Int) (hG : GrW w.heap.size w cv ev cs es) (hS : Tl iv w.heap.size w sv su) (hn : cs.length ≤ 1000) (hes : ∀ l ∈ es, l.length ≤ 1000000) (hsu : (wi cs.length su).length ≤ 1000000) :
    Calls Try.prog 14 #[.agg #[cv, ev], sv] w (BeginPost w cs es su) := by
  obtain ⟨ca, cc, rfl, hcc1, hcc2, hC⟩ := hG.c.ex
  obtain ⟨ea, ec, rfl, hec1, hec2, hE⟩ := hG.e
  have HC := hid hC
  have HE := hid hE
  have HCB := hid hG.cb
  have HS := hid hS
  have HES := hid hes
  have HSU := hid hsu
  obtain ⟨n, hn0⟩ : ∃ n, n = cs.length := ⟨_, rfl⟩
  obtain ⟨m, hm0⟩ : ∃ m, m = es.length := ⟨_, rfl⟩
  rw [← hn0] at hcc1 hn
  rw [← hm0] at hec1
  have HN := hid hn0
  have HM := hid hm0
  rw [← hn0, ← hm0]
  obtain ⟨W1, hW1⟩ : ∃ W1, W1 = (((w.alloc (.cells #[.slice ca n cc, .slice ea m ec] TGr)).alloc (.cells (madeCells #[.int .i64 0, .int .i64 0, .slice none 0 0] (n * 3)) TNode)).alloc
      (.cells #[.slice (some ⟨w.heap.size + 1, 0, none⟩) n n, .int .i64 0, .int .i64 0, .slice none 0 0, .int .i64 0, .slice none 0 0] TRun)) := ⟨_, rfl⟩
  have hB1 : BgW w W1 (w.heap.size + 1 + 1) (w.heap.size + 1) (.slice ca n cc) (.slice ea m ec) n (fun _ => []) (fun _ => 0) (heldT cs 0) := by
    have e1 := heap_alloc_new w (.cells #[.slice ca n cc, .slice ea m ec] TGr)
    obtain ⟨wa, hwa⟩ : ∃ wa, wa = w.alloc (.cells #[.slice ca n cc, .slice ea m ec] TGr) := ⟨_, rfl⟩
    rw [← hwa] at e1 hW1
    have sa : wa.heap.size = w.heap.size + 1 := by rw [hwa]; simp
    have e2 := heap_alloc_new wa (.cells (madeCells #[.int .i64 0, .int .i64 0, .slice none 0 0] (n * 3)) TNode)
    obtain ⟨wb, hwb⟩ : ∃ wb, wb = wa.alloc (.cells (madeCells #[.int .i64 0, .int .i64 0, .slice none 0 0] (n * 3)) TNode) := ⟨_, rfl⟩
    rw [← hwb] at e2 hW1
    have sb : wb.heap.size = w.heap.size + 1 + 1 := by rw [hwb]; simp [sa]
    have e1b : wb.heap[w.heap.size]? = some (.cells #[.slice ca n cc, .slice ea m ec] TGr (0, 0)) := by rw [hwb]; exact hkeep _ e1
    have e3 := heap_alloc_new wb (.cells #[.slice (some ⟨w.heap.size + 1, 0, none⟩) n n, .int .i64 0, .int .i64 0, .slice none 0 0, .int .i64 0, .slice none 0 0] TRun)
    have e2c : W1.heap[wa.heap.size]? = some (.cells (madeCells #[.int .i64 0, .int .i64 0, .slice none 0 0] (n * 3)) TNode (0, 0)) := by rw [hW1]; exact hkeep _ e2
    have e1c : W1.heap[w.heap.size]? = some (.cells #[.slice ca n cc, .slice ea m ec] TGr (0, 0)) := by rw [hW1]; exact hkeep _ e1b
    rw [← hW1, sb] at e3
    rw [sa] at e2c
    have s1 : W1.heap.size = w.heap.size + 1 + 1 + 1 := by rw [hW1]; simp [sb]
    refine ⟨e1c, e3, ⟨rfl, by omega, by omega, by omega, _, e2c, fun i hi => ⟨?_, ?_, .slice none 0 0, ?_, none, 0, rfl, by simp, by omega, fun h => by simp at h⟩⟩, by omega, by omega, ?_⟩
    · rw [made_at (by omega) (by simp)]
      simp [nI]
    · rw [made_at (by omega) (by simp)]
      have : (i * 3 + 1) % 3 = 1 := by omega
      simp [this, heldT]
    · rw [made_at (by omega) (by simp)]
      have : (i * 3 + 2) % 3 = 2 := by omega
      simp [this]
    · rw [hW1, hwb, hwa]
      exact (((Below.refl _ _).alloc (Nat.le_refl _) _).alloc (by simp) _).alloc (by simp; omega) _
  have HB1 := hid hB1
  have HW1 := hid hW1
  obtain ⟨p, hp⟩ : ∃ p, p = w.heap.size + 1 + 1 := ⟨_, rfl⟩
  obtain ⟨q, hq⟩ : ∃ q, q = w.heap.size + 1 := ⟨_, rfl⟩
  clear hG hC hE hS hes hsu hn0 hm0 hB1 hW1
  go_enter Try.func14, Try.ntmps14
  go_upto_region 2 with ((with_reducible refine at_op ⟨some 15, _, _, _, _, _⟩ ?_); go_loud (refine wpList_runN rfl _ _ (exec_makeC (n := n) Try.underlying50 infoNd (by omega) (by omega) rfl rfl) ?_))
  rw [← HW1.out, ← hp, ← hq]
  rw [← hp, ← hq] at HB1
  clear hp hq HW1
  have g0 := HB1.out.g0
  go_wp2_with fail
  clear g0
  go_loopw [21] (fun i wr => ∃ t : Nat, t ≤ n ∧ i = .int .i64 t ∧ RowKit.Hid (BgW w wr p q (.slice ca n cc) (.slice ea m ec) n (fun _ => []) (fun _ => 0) (heldT cs t))) (fun i _ => n - (intOf i).toNat)
  case atStart => exact ⟨0, by omega, rfl, HB1⟩
  case round =>
    obtain ⟨t, ht, rfl, HR⟩ := hrel
    by_cases htn : t < n
    · have hlt : t < cs.length := by rw [← HN.out]; exact htn
      have hx : cs[t]? = some (cs.getD t 0) := by rw [List.getD_eq_getElem?_getD, List.getElem?_eq_getElem hlt]; rfl
      obtain ⟨x, hxx⟩ : ∃ x, x = cs.getD t 0 := ⟨_, rfl⟩
      obtain ⟨b, o, rfl, hb, hcell⟩ := HC.out (by omega)
      have cx : wr.cell? ⟨b, o + t, none⟩ = some (.int .u32 x) := by rw [hxx]; exact (World.cell?_of_block (w := w) (w' := wr) (a := ⟨b, o + t, none⟩) (HR.out.bl.block b hb)).trans (hcell t _ hx)
      have hxb := HCB.out _ (List.mem_of_getElem? hx)
      rw [← hxx] at hxb
      have c0 := HR.out.c0
      have d1 := HR.out.nd.c1 htn
      have z1 := HR.out.nd.fz (t * 3 + 1)
      have hset := HR.out.set _ _ (HR.out.nd.setHeld (Nat.le_refl _) htn x)
      have hset2 := hset.congr (e' := fun _ => []) (col' := fun _ => 0) (held' := heldT cs (t + 1)) (fun i hi => ⟨rfl, rfl, by
        by_cases hit : i = t
        · subst hit; rw [upd_same, heldT_at]; exact hxx
        · rw [upd_other hit, heldT_ne hit]⟩)
      have HSET := hid hset2
      have hwr : IntKind.i64.wrap x = x := IntWalk.i64_in _ ⟨by omega, by omega⟩
      clear hset hset2 hx hxx hb hcell hlt
      go_wp2_with fail
      go_roundw
      case rel => exact ⟨t + 1, by omega, by go_num, HSET⟩
      case measure => simp [intOf]; omega
    · have hnt : n = t := by omega
      subst hnt
      clear htn HB1
      have g0 := HR.out.g0
      have g1 := HR.out.g1
      obtain ⟨k, hk⟩ : ∃ k, k = min m n := ⟨_, rfl⟩
      have hmin : min (m : Int) (n : Int) = (k : Int) := by omega
      have hkm : k ≤ m := by omega
      have hkn : k ≤ n := by omega
      have HK := hid hk
      have HMIN := hid hmin
      have HR1 := hid (HR.out.congr (e' := edT n es 0) (col' := fun _ => 0) (held' := fun i => cs.getD i 0) (fun i hi => ⟨(if_neg (Nat.not_lt_zero i)).symm, rfl, if_pos hi⟩))
      clear hk hmin HR
      go_upto_region 8 with fail
      rw [HMIN.out, Int.toNat_natCast, show max (k : Int) 0 = (k : Int) from Int.max_eq_left (by omega)]
      clear g0 g1
      go_loopw [47] (fun i wr => ∃ t : Nat, t ≤ k ∧ i = .int .i64 t ∧ RowKit.Hid (BgW w wr p q (.slice ca n cc) (.slice ea m ec) n (edT n es t) (fun _ => 0) (fun i => cs.getD i 0))) (fun i _ => k - (intOf i).toNat)
      case atStart => exact ⟨0, by omega, rfl, HR1⟩
      case round =>
        obtain ⟨t, ht, rfl, HR⟩ := hrel
        by_cases htk : t < k
        · have hlt : t < es.length := by have := HM.out; omega
          have hx : es[t]? = some (es.getD t []) := by rw [List.getD_eq_getElem?_getD, List.getElem?_eq_getElem hlt]; rfl
          obtain ⟨l, hl⟩ : ∃ l, l = es.getD t [] := ⟨_, rfl⟩
          rw [← hl] at hx
          obtain ⟨b, o, rfl, hb, hcell⟩ := HE.out (by omega)
          obtain ⟨lv, c1, hT⟩ := hcell t l hx
          have cx : wr.cell? ⟨b, o + t, none⟩ = some lv := (World.cell?_of_block (w := w) (w' := wr) (a := ⟨b, o + t, none⟩) (HR.out.bl.block b hb)).trans c1
          have hT2 := (hT.below HR.out.bl).up HR.out.bl.size
          have hT3 := hT2.below (below_drewN (Below.refl wr.heap.size wr) 1)
          obtain ⟨la, lc, rfl, _⟩ := hT.ex
          have c0 := HR.out.c0
          have htn : t < n := by omega
          have HWI := within_any wr.drew p n n (some ⟨q, 0, none⟩) _ l c0 hT3 (Nat.le_trans wi_len (HES.out l (List.mem_of_getElem? hx)))
          have HWI := hid HWI
          have HL := hid hl
          clear hl hx hb hcell c1 hT hT2 hT3 hlt
          go_upto_region 10 with fail
          refine D.wp_region_mix [0, 0, 0, 1, 0, 0, 0, 2, 0, 0, 3] (fun W => W.cell? ⟨p, 0, none⟩ = some (.slice (some ⟨q, 0, none⟩) n n)) (by kernel_rfl) (by kernel_rfl) c0 ?_
          repeat (first
            | (refine' C.wpMix_value _ rfl rfl _ _; rotate_left; (solve | (intro W; go_simp) | (intro W; go_simp; with_reducible rfl)); simp only [Act.put, List.setIfInBounds_toArray, List.set_cons_zero, List.set_cons_succ])
            | (refine' C.wpMix_read _ rfl rfl _ _; rotate_left; (solve | (rintro W hS; go_simp) | (rintro W hS; go_simp; with_reducible rfl)); simp only [Act.put, List.setIfInBounds_toArray, List.set_cons_zero, List.set_cons_succ]))
          refine C.wpMix_call 23 #[.pointer (some ⟨p, 0, none⟩), .slice la l.length lc] (by decide) rfl (by go_simp) ?_
          refine HWI.out.mono ?_
          rintro e w3 ⟨v', rfl, hPI⟩
          have hbx : Below wr.heap.size wr w3 := (below_drewN (Below.refl wr.heap.size wr) 1).trans hPI.2
          have hR3 := HR.out.call hbx
          refine ⟨_, rfl, fun _ => hR3.c0, ?_⟩
          simp only [Act.put, List.setIfInBounds_toArray, List.set_cons_zero, List.set_cons_succ]
          have hEd := hPI.edw (p := p) (q := q) HR.out.lt HR.out.nd.lt
          rw [HL.out] at hEd
          obtain ⟨va, vc, rfl, _⟩ := hPI.1.form
          obtain ⟨_, d2, _⟩ := hR3.nd.c2 htn
          have z2 := hR3.nd.fz (t * 3 + 2)
          have hset := hR3.set _ _ (hR3.nd.set (Nat.le_refl _) htn 2 (by omega) (.slice va (wi n l).length vc) (fun _ => 0) (fun i => cs.getD i 0) (edT n es (t + 1)) (fun j hj => ⟨rfl, rfl, edT_ne hj⟩) (by rw [if_neg (by omega)]) (by rw [if_neg (by omega)]) (by
            rw [if_pos rfl, edT_at]
            have hfr : Fr (fun b => b = q) w3 (w3.setCell ⟨q, t * 3 + 2, none⟩ (.slice va (wi n l).length vc)) := (Fr.refl _ _).setCell _ _ (fun _ => rfl)
            exact hEd.fr hfr (fun k k1 k2 k3 => k3) (Nat.le_refl _)))
          have HSET := hid hset
          clear hset hEd hR3 hbx hPI
          repeat (first
            | (refine' C.wpMix_value _ rfl rfl _ _; rotate_left; (solve | (intro W; go_simp) | (intro W; go_simp; with_reducible rfl)); simp only [Act.put, List.setIfInBounds_toArray, List.set_cons_zero, List.set_cons_succ])
            | (refine' C.wpMix_read _ rfl rfl _ _; rotate_left; (solve | (rintro W hS; go_simp) | (rintro W hS; go_simp; with_reducible rfl)); simp only [Act.put, List.setIfInBounds_toArray, List.set_cons_zero, List.set_cons_succ]))
          refine C.wpMix_skip (w3.setCell ⟨q, t * 3 + 2, none⟩ (.slice va (wi n l).length vc)) (by decide) rfl (by go_simp) (fun h => by cases h) ?_
          simp only [Act.put]
          refine C.wpMix_end ?_
          clear d2 z2 c0 cx
          go_wp2
          go_roundw
          case rel => exact ⟨t + 1, by omega, by go_num, HSET⟩
          case measure => simp [intOf]; omega
        · have htk' : k = t := by omega
          subst htk'
          clear htk
          have HR2 := hid (HR.out.congr (e' := fun i => wi n (es.getD i [])) (col' := colT ((wi n su).take 0)) (held' := fun i => cs.getD i 0) (fun i hi => ⟨by rw [HK.out, HM.out]; exact edT_all hi, by simp [colT], rfl⟩))
          have hT3 := (HS.out.below HR.out.bl).up HR.out.bl.size
          have hT4 := hT3
          obtain ⟨sa, sc, rfl, _⟩ := hT4.ex
          have hsu := HSU.out
          rw [← HN.out] at hsu
          have c0 := HR.out.c0
          have HWI := hid (within_any wr p n n (some ⟨q, 0, none⟩) _ su c0 hT3 hsu)
          have hR1q := hid HR.out.nd.lt
          clear hT3 hT4 HR HR1
          go_wp2_with fail
          refine HWI.out.mono ?_
          rintro e w3 ⟨v', rfl, hPI⟩
          have HR3 := hid (HR2.out.call hPI.2)
          obtain ⟨va, vc, rfl, _, _⟩ := hPI.1.form
          have hOw := hPI.1
          have hql := hR1q.out
          obtain ⟨L, hL⟩ : ∃ L, L = wi n su := ⟨_, rfl⟩
          obtain ⟨k3, hk3⟩ : ∃ k3, k3 = L.length := ⟨_, rfl⟩
          rw [← hL] at hOw HR3 hsu ⊢
          rw [← hk3] at hOw hsu ⊢
          have HL := hid hL
          have HK3 := hid hk3
          have HOW := hid hOw
          clear hL hk3 hOw hPI c0 HWI
          go_wp2_with fail
          go_loopw [67] (fun i wx => ∃ t : Nat, t ≤ k3 ∧ i = .int .i64 t ∧ RowKit.Hid (BgW w wx p q (.slice ca n cc) (.slice ea m ec) n (fun i => wi n (es.getD i [])) (colT (L.take t)) (fun i => cs.getD i 0)) ∧ RowKit.Hid (Fr (fun b => b = q) w3 wx)) (fun i _ => k3 - (intOf i).toNat)
          case atStart => exact ⟨0, by omega, rfl, HR3, hid (Fr.refl _ _)⟩
          case round =>
            obtain ⟨t, ht, rfl, HX, HF⟩ := hrel
            by_cases htk : t < k3
            · have hlt : t < L.length := by rw [← HK3.out]; exact htk
              have hx : L[t]? = some L[t] := List.getElem?_eq_getElem hlt
              have htake : L.take (t + 1) = L.take t ++ [L[t]] := List.take_succ_eq_append_getElem hlt
              generalize L[t] = x at hx htake
              have hxn : x < n := wi_lt x (by rw [← HL.out]; exact List.mem_of_getElem? hx)
              have hO := HOW.out.fr HF.out (fun b hb e => by have := (World.ownsRow.lt HOW.out b hb).1; omega)
              obtain ⟨_, _, hv, _, _, hcell⟩ := (own_told hO).ex
              simp only [Value.slice.injEq] at hv
              obtain ⟨rfl, -, rfl⟩ := hv
              obtain ⟨b, o, rfl, _, hcell⟩ := hcell (by omega)
              have cx := hcell t x hx
              have c0 := HX.out.c0
              have d0 := HX.out.nd.c0 hxn
              have z0 := HX.out.nd.fz (x * 3)
              have hset := (HX.out.set _ _ (HX.out.nd.setCol (Nat.le_refl _) hxn 1)).congr (e' := fun i => wi n (es.getD i [])) (col' := colT (L.take (t + 1))) (held' := fun i => cs.getD i 0) (fun i hi => ⟨rfl, by rw [htake]; exact colT_add i, rfl⟩)
              have HSET := hid hset
              have HF2 := hid (HF.out.setCell ⟨q, x * 3, none⟩ (nI 1) (fun _ => rfl))
              clear hset hcell hO hx htake hlt
              go_wp2_with fail
              go_roundw
              case rel => exact ⟨t + 1, by omega, by go_num, HSET, HF2⟩
              case measure => simp [intOf]; omega
            · have htk' : k3 = t := by omega
              subst htk'
              have hx := HX.out
              rw [List.take_of_length_le (by rw [HK3.out]; exact Nat.le_refl _)] at hx
              have HX2 := hid hx
              clear hx HX htk
              go_wp2_with fail
              go_ret
              refine ⟨p, wr.heap.size, rfl, ⟨_, _, _, ⟨HX2.out.hp, Nat.le_of_lt HX2.out.p0, HX2.out.lt, Nat.le_refl _, fun _ => ⟨q, ?_⟩, fun _ => .inl ⟨rfl, rfl⟩, fun _ k hk => ?_, World.ownsRow_nil _ _ _ _, fun _ k hk => ?_⟩⟩, HX2.out.bl⟩
              · have := HX2.out.nd
                rw [HL.out, HN.out] at this
                rw [HN.out]
                exact this
              · simp [Value.ownBlock] at hk
              · simp [Value.ownBlock] at hk
end Go.Proofs.Ytjmhlmohennknab
