/- HqQ HqF HqG HqI HqK in one -/
import Derived.Test.YtmkajdfajcodjaaHqE
import Derived.Deep.AppendSrc
import Derived.Test.YtmkajdfajcodjaaMix
import Derived.Test.YtmkajdfajcodjaaMemX
import Derived.Test.YtmkajdfajcodjaaMixG
namespace Go.Proofs.Ytmkajdfajcodjaa
open Go Go.ChangeShapes Go.WideShapes Go.ChangeAt Go.RowKit

/-- A row that may begin behind its block's head. -/
def QRow (w : World) (v : Value) (xs : List Int) : Prop :=
  (v = .slice none 0 0 ∧ xs = []) ∨ ∃ g off cap cur, v = .slice (some ⟨g, off, none⟩) xs.length cap ∧ w.heap[g]? = some (.cells cur TU (0, 0)) ∧ xs.length ≤ cap ∧ cap ≤ maxLen ∧ off + cap ≤ cur.size ∧ ∀ (j : Nat) x, xs[j]? = some x → cur[off + j]? = some (u64v x)
section
variable {w w' : World} {v : Value} {xs : List Int} {fp : Nat → Prop}
theorem QRow.fr (h : QRow w v xs) (hf : Fr fp w w') (hv : ∀ k, v.ownBlock = some k → ¬ fp k) : QRow w' v xs := by
  rcases h with h | ⟨g, off, cap, cur, rfl, h1, h2⟩
  · exact .inl h
  · exact .inr ⟨g, off, cap, cur, rfl, by rw [hf.block g (Array.getElem?_eq_some_iff.1 h1).1 (hv g rfl)]; exact h1, h2⟩
theorem QRow.lt (h : QRow w v xs) : ∀ k, v.ownBlock = some k → k < w.heap.size := fun k hk => by
  rcases h with ⟨rfl, _⟩ | ⟨g, off, cap, cur, rfl, h1, _⟩
  · simp [Value.ownBlock] at hk
  · simp [Value.ownBlock] at hk
    subst hk
    exact (Array.getElem?_eq_some_iff.1 h1).1
theorem QRow.form (h : QRow w v xs) : ∃ a c, v = .slice a xs.length c ∧ (xs ≠ [] → ∃ g off, a = some ⟨g, off, none⟩) := by
  rcases h with ⟨rfl, rfl⟩ | ⟨g, off, cap, cur, rfl, _⟩
  · exact ⟨none, 0, rfl, fun h => absurd rfl h⟩
  · exact ⟨_, cap, rfl, fun _ => ⟨g, off, rfl⟩⟩
theorem QRow.set (h : QRow w v xs) (p : Addr) (u : Value) (hv : v.ownBlock ≠ some p.block) : QRow (w.setCell p u) v xs :=
  h.fr (fp := fun k => k = p.block) ((Fr.refl _ _).setCell _ _ (fun _ => rfl)) (fun k hk e => hv (by rw [hk, e]))
theorem run_append_q (t ty : TypeId) (i : TypeInfo) (ht : Try.prog.underlying t = some (.slice TU)) (hi : Try.prog.info? TU = some i) (hz : i.zero = some (.int .u64 0)) (hsz : i.size = 1) (hby : i.bytes = 8)
    (h : QRow w v xs) (hl : xs.length ≤ 1000000) (a : Addr) (c : Nat) (y : Int) (hn : ∀ (j : Nat) u, [u64v y][j]? = some u → w.cell? (a.add j) = some u) :
    ∃ a' c' w', (Builtin.append_ #[t, t] ty #[v, .slice (some a) 1 c]).run Try.prog w = .ok (.slice (some a') (xs.length + 1) c') w' ∧ QRow w' (.slice (some a') (xs.length + 1) c') (xs ++ [y]) ∧ w.grownBy w' v.ownBlock ∧ (v.ownBlock = some a'.block ∨ a'.block = w.heap.size) := by
  have hml : (9223372036854775807 : Nat) = maxLen := rfl
  rcases h with ⟨rfl, rfl⟩ | ⟨g, off, cap, cur, rfl, h1, h2, h3, h4, h5⟩
  · have hr := run_append_nil (P := Try.prog) w t ty TU i _ ht hi hz a 1 c [u64v y] (by simp [hsz]) hn (by omega) (by omega) (by rw [hby]; omega)
    refine ⟨_, _, _, hr, .inr ⟨_, 0, grownCap w 1 0 TU, _, rfl, heap_alloc_new w.drew _, grownCap_ge w 1 0 TU, grownCap_le_maxLen w 1 0 TU (by unfold maxLen; omega), ?_, ?_⟩, ⟨rfl, rfl, rfl, by simp, fun k hk _ => (by first | exact heap_alloc_old w.drew _ k hk | exact heap_alloc_old w.drew _ hk)⟩, .inr rfl⟩
    · have := grownCap_ge w 1 0 TU
      simp [Value.cells, size_zeroCells]
      omega
    · intro j x hj
      have : j = 0 := by
        have := (List.getElem?_eq_some_iff.1 hj).1
        simp at this
        exact this
      subst this
      simp at hj
      subst hj
      show (#[u64v y] ++ Builtin.zeroCells (Value.int IntKind.u64 0).cells (grownCap w 1 0 TU - 1))[0]? = some (u64v y)
      rw [Array.getElem?_append_left (by simp)]
      rfl
  · by_cases hroom : xs.length + 1 ≤ cap
    · have hlt : ∀ j, j < xs.length + 1 → off + j < cur.size := fun j hj => by omega
      have hc : ∀ j, j < [u64v y].length → (w.cell? ⟨g, off + xs.length * i.size + j, none⟩).isSome = true := fun j hj => by
        simp at hj
        subst hj
        rw [hsz, Nat.mul_one, Nat.add_zero, cell_of_row w g _ _ _ _ h1]
        have := hlt xs.length (by omega)
        simp [this]
      have hf : ∀ j, j < [u64v y].length → w.frozen? ⟨g, off + xs.length * i.size + j, none⟩ = false := fun j _ => frozen_of_row w g _ _ _ h1
      have hr := run_append_room_src (P := Try.prog) w t t ty TU i ht hi g off xs.length cap (.slice (some a) 1 c) 1 [u64v y] (Src.ofSlice w ht a 1 c [u64v y] (by simp [hsz]) hn (by simp [Value.oneCell'])) hroom hc hf
      rw [hsz, Nat.mul_one] at hr
      have hset : w.setCells g (off + xs.length) [u64v y] = w.setCell ⟨g, off + xs.length, none⟩ (u64v y) := rfl
      rw [hset] at hr
      refine ⟨_, _, _, hr, .inr ⟨g, off, cap, cur.setIfInBounds (off + xs.length) (u64v y), by simp, heap_setCell_same _ _ _ _ _ _ h1, by simp; omega, h3, by simpa using h4, ?_⟩, ⟨rfl, rfl, rfl, by simp, fun k _ hk => Below.heap_setCell _ _ _ _ (fun e => hk (by rw [e]; rfl))⟩, .inl rfl⟩
      intro j x hj
      by_cases e : j < xs.length
      · rw [List.getElem?_append_left e] at hj
        rw [Array.getElem?_setIfInBounds_ne (by omega)]
        exact h5 j x hj
      · have hj2 := (List.getElem?_eq_some_iff.1 hj).1
        simp at hj2
        have : j = xs.length := by omega
        subst this
        simp at hj
        subst hj
        rw [Array.getElem?_setIfInBounds_self]
        have := hlt xs.length (by omega)
        simp [this]
    · have holds : ∀ (j : Nat) u, (xs.map u64v)[j]? = some u → w.cell? ((⟨g, off, none⟩ : Addr).add j) = some u := fun j u hu => by
        rw [List.getElem?_map, Option.map_eq_some_iff] at hu
        obtain ⟨x, hx, rfl⟩ := hu
        rw [Addr.add_lit, cell_of_row w g _ _ _ _ h1]
        exact h5 j x hx
      have hr := run_append_grow (P := Try.prog) w t ty TU i _ ht hi hz ⟨g, off, none⟩ xs.length cap (xs.map u64v) (by simp [hsz]) holds a 1 c [u64v y] (by simp [hsz]) hn (by omega) (by omega) (growslice_fits (by omega) (by rw [hby]; omega))
      refine ⟨_, _, _, hr, .inr ⟨_, 0, grownCap w (xs.length + 1) cap TU, _, by rw [List.length_append]; rfl, heap_alloc_new w.drew _, by rw [List.length_append]; exact grownCap_ge w (xs.length + 1) cap TU, grownCap_le_maxLen w (xs.length + 1) cap TU (by unfold maxLen; omega), ?_, ?_⟩, ⟨rfl, rfl, rfl, by simp, fun k hk _ => (by first | exact heap_alloc_old w.drew _ k hk | exact heap_alloc_old w.drew _ hk)⟩, .inr rfl⟩
      · have := grownCap_ge w (xs.length + 1) cap TU
        simp [Value.cells, size_zeroCells]
        omega
      · intro j x hj
        have e : ((xs ++ [y]).map u64v)[j]? = some (u64v x) := by rw [List.getElem?_map, hj]; rfl
        rw [Nat.zero_add, ← Array.getElem?_toList]
        simp only [Array.toList_append]
        rw [List.getElem?_append_left (by
          have := (List.getElem?_eq_some_iff.1 hj).1
          simp at this ⊢
          omega)]
        simpa using e
theorem wpList_append_q {ops : Array Oper} {rest : List Oper} {o : Oper} {a : Act} {Q : Exit → Act → World → Prop} (hgd : o.guard = none) (s x : Operand) (t : TypeId)
    (ho : o.op = .call { callee := .builtin .append, args := #[s, x], argTypes := #[t, t] }) (i : TypeInfo) (ht : Try.prog.underlying t = some (.slice TU)) (hi : Try.prog.info? TU = some i) (hz : i.zero = some (.int .u64 0)) (hsz : i.size = 1) (hby : i.bytes = 8)
    (v : Value) (xs : List Int) (hs : a.eval s = v) (h : QRow w v xs) (hl : xs.length ≤ 1000000) (ad : Addr) (c : Nat) (y : Int) (hx : a.eval x = .slice (some ad) 1 c) (hn : ∀ (j : Nat) u, [u64v y][j]? = some u → w.cell? (ad.add j) = some u)
    (hK : ∀ a' c' w', QRow w' (.slice (some a') (xs.length + 1) c') (xs ++ [y]) → w.grownBy w' v.ownBlock → (v.ownBlock = some a'.block ∨ a'.block = w.heap.size) → wpList Try.prog ops Q rest (a.put o.dst (.slice (some a') (xs.length + 1) c')) w') :
    wpList Try.prog ops Q (o :: rest) a w := by
  refine wpList_plain hgd fun K hK2 => ?_
  obtain ⟨a', c', w', hr, h2, h3, h4⟩ := run_append_q t o.type i ht hi hz hsz hby h hl ad c y hn
  unfold Oper.wp execOp
  simp only [ho, resolve, invoke, builtin, Sem.run_bind, Sem.run_pure, Result.andThen_ok, List.map_toArray, List.map_cons, List.map_nil, hs, hx, hr]
  exact hK2 _ _ (hK a' c' w' h2 h3 h4)
end
/-- Who waits: wholes that are there, whose count is 0, each once. -/
structure WQ (L : HL) (ws : List Int) : Prop where
  nd : ws.Nodup
  is : ∀ x ∈ ws, ∃ o ∈ L, o.h = x ∧ o.outer = 0 ∧ o.count = 0
/-- What a call lets go of, in memory. -/
structure SwW (w : World) (q p : Nat) (F : Nat → Lab) (wv gv fv : Value) (ws gs fs : List Int) : Prop where
  hq : w.heap[q]? = some (.cells #[.pointer (some ⟨p, 0, none⟩), wv, gv, fv] 118 (0, 0))
  hw : QRow w wv ws
  hg : w.ownsRow 0 TU 1 gv gs.length (gs.map u64v)
  hf : w.ownsRow 0 TU 1 fv fs.length (fs.map u64v)
  lq : F q = (-2, 0)
  lw : ∀ k, wv.ownBlock = some k → F k = (-2, 1)
  lg : ∀ k, gv.ownBlock = some k → F k = (-2, 2)
  lf : ∀ k, fv.ownBlock = some k → F k = (-2, 3)
section
variable {w w' : World} {q p : Nat} {F F' : Nat → Lab} {wv gv fv : Value} {ws gs fs : List Int} {fp : Nat → Prop}
theorem SwW.c0 (h : SwW w q p F wv gv fv ws gs fs) : w.cell? ⟨q, 0, none⟩ = some (.pointer (some ⟨p, 0, none⟩)) := by rw [cell_of_row w q 0 _ _ _ h.hq]; rfl
theorem SwW.c1 (h : SwW w q p F wv gv fv ws gs fs) : w.cell? ⟨q, 1, none⟩ = some wv := by rw [cell_of_row w q 1 _ _ _ h.hq]; rfl
theorem SwW.c2 (h : SwW w q p F wv gv fv ws gs fs) : w.cell? ⟨q, 2, none⟩ = some gv := by rw [cell_of_row w q 2 _ _ _ h.hq]; rfl
theorem SwW.c3 (h : SwW w q p F wv gv fv ws gs fs) : w.cell? ⟨q, 3, none⟩ = some fv := by rw [cell_of_row w q 3 _ _ _ h.hq]; rfl
theorem SwW.fz (h : SwW w q p F wv gv fv ws gs fs) (k : Nat) : w.frozen? ⟨q, k, none⟩ = false := frozen_of_row w q k _ _ h.hq
theorem SwW.lt (h : SwW w q p F wv gv fv ws gs fs) : q < w.heap.size := (Array.getElem?_eq_some_iff.1 h.hq).1
theorem SwW.fr (h : SwW w q p F wv gv fv ws gs fs) (hf : Fr fp w w') (hd : ∀ k j, F k = (-2, j) → ¬ fp k) (hF : ∀ k, k < w.heap.size → F' k = F k) : SwW w' q p F' wv gv fv ws gs fs :=
  ⟨by rw [hf.block q h.lt (hd q 0 h.lq)]; exact h.hq, h.hw.fr hf (fun k hk => hd k 1 (h.lw k hk)), hf.owns h.hg (fun k hk => hd k 2 (h.lg k hk)), hf.owns h.hf (fun k hk => hd k 3 (h.lf k hk)),
    by rw [hF q h.lt]; exact h.lq, fun k hk => by rw [hF k (h.hw.lt k hk)]; exact h.lw k hk, fun k hk => by rw [hF k (h.hg.lt k hk).2]; exact h.lg k hk, fun k hk => by rw [hF k (h.hf.lt k hk).2]; exact h.lf k hk⟩
theorem SwW.relab (h : SwW w q p F wv gv fv ws gs fs) (hF : ∀ k, k < w.heap.size → F' k = F k) : SwW w q p F' wv gv fv ws gs fs :=
  h.fr (fp := fun _ => False) (Fr.refl _ _) (fun _ _ _ e => e) hF
end
/-- What is F's may have turned. -/
def FrF (F : Nat → Lab) (w w' : World) : Prop := Fr (fun k => F k ≠ outL) w w'
theorem FrF.refl (F : Nat → Lab) (w : World) : FrF F w w := Fr.refl _ _
theorem FrF.trans {F F1 : Nat → Lab} {w w1 w2 : World} (h : FrF F w w1) (k : FrF F1 w1 w2) (hF : ∀ k, k < w.heap.size → F1 k = F k) : FrF F w w2 :=
  Fr.trans h k (fun j hj hl => by rw [← hF j hl]; exact hj)
end Go.Proofs.Ytmkajdfajcodjaa

namespace Go.Proofs.Ytmkajdfajcodjaa
open Go Go.ChangeShapes Go.WideShapes Go.ChangeAt Go.RowKit

section
variable {w w' : World} {q p pa : Nat} {Sa : Nat → Prop} {AA : Ar} {F : Nat → Lab} {B : Int → Nat} {top : Int} {L : HL} {wv gv fv : Value} {ws gs fs : List Int}
theorem SwW.ne (h : SwW w q p F wv gv fv ws gs fs) {k : Nat} {l : Lab} (hk : F k = l) (hl : l.1 ≠ -2) : k ≠ q := fun e => by
  rw [e, h.lq] at hk
  subst hk
  exact hl rfl
def WaitPost (w : World) (q p pa : Nat) (Sa : Nat → Prop) (AA : Ar) (F : Nat → Lab) (B : Int → Nat) (top : Int) (L : HL) (gv fv : Value) (ws gs fs : List Int) (x : Int) (e : Ending) (w' : World) : Prop :=
  (∃ v, e = .returned v) ∧ ∃ F' wv', HpW w' p pa Sa AA F' B top (Go.Proofs.Ytmkajdfajcodjaa.setc L x 0) ∧ SwW w' q p F' wv' gv fv (ws ++ [x]) gs fs ∧ (∀ k, k < w.heap.size → F' k = F k) ∧ FrF F w w'
set_option maxRecDepth 100000 in
theorem wait_any (h : HpW w p pa Sa AA F B top L) (hs : SwW w q p F wv gv fv ws gs fs) (hn : Nd L) {x : Ob} (hx : x ∈ L) (hl : ws.length ≤ 1000000) :
    Calls Try.prog 56 #[.pointer (some ⟨q, 0, none⟩), .int .u64 x.h] w (WaitPost w q p pa Sa AA F B top L gv fv ws gs fs x.h) := by
  have hzx := h.bd hx
  obtain ⟨sv, iv, c, hbx⟩ := h.ob x hx
  have cq0 := hs.c0
  have cx4 := hbx.c4
  have zx4 := hbx.fz 4
  have hnq := hs.ne hbx.fb (by simp; omega)
  have h2 := h.setc hn hx 0
  have hfr : Fr (fun k => k = B x.h) w (w.setCell ⟨B x.h, 4, none⟩ (.int .u32 0)) := (Fr.refl _ _).setCell _ _ (fun _ => rfl)
  have hs2 : SwW (w.setCell ⟨B x.h, 4, none⟩ (.int .u32 0)) q p F wv gv fv ws gs fs := hs.fr hfr (fun k j e ek => by
    subst ek
    rw [hbx.fb] at e
    have := congrArg Prod.fst e
    simp at this
    omega) (fun _ _ => rfl)
  obtain ⟨i0, hi, hz0, hz1, hz2⟩ := info_parts infoU0
  have HI := hid hi
  have HZ0 := hid hz0
  have HZ1 := hid hz1
  have HZ2 := hid hz2
  have HF := hid (find_some h hx)
  have hfbx := hbx.fb
  obtain ⟨w1, hw1⟩ : ∃ w1, w1 = w.setCell ⟨B x.h, 4, none⟩ (.int .u32 0) := ⟨_, rfl⟩
  rw [← hw1] at h2 hfr hs2
  have cq1 := hs2.c1
  have zq1 := hs2.fz 1
  have hql := hs2.lt
  have hnw : wv.ownBlock ≠ some q := fun e => by have := hs2.lw _ e; rw [hs2.lq] at this; cases this
  have H2 := hid h2
  have HS2 := hid hs2
  have HFR := hid hfr
  have HW1 := hid hw1
  have HNW := hid hnw
  have HFB := hid hfbx
  have HQ := hid hs2.hw
  obtain ⟨wa, wc, hwv, _⟩ := hs2.hw.form
  subst hwv
  have HXB := hid hzx.1
  clear h hs hn hx hbx h2 hs2 hfr hw1 hi hz0 hz1 hz2 hnw hfbx
  generalize x.h = xh at *
  generalize hlen : ws.length = n at *
  have HL := hid hlen
  clear hlen
  go_enter Try.func56, Try.ntmps56
  go_wp2_with fail
  refine HF.out.mono ?_
  rintro e w0 ⟨rfl, rfl⟩
  go_upto_region 1 with fail
  rw [← HW1.out]
  go_wp2_with (at_builtin; go_loud (refine wpList_append_q rfl (.tmp 16) (.tmp 18) 43 rfl i0 Try.underlying43 HI.out HZ0.out HZ1.out HZ2.out (.slice wa n wc) ws rfl (QRow.fr (fp := fun _ => False) HQ.out ((Fr.refl _ _).alloc _) (fun _ _ e => e)) (by rw [HL.out]; exact hl) ⟨w1.heap.size, 0, none⟩ 1 xh rfl (cell_one_new _ _ _) ?_; intro a' c' w2 hq2 hg2 hat2; rw [HL.out] at hq2 ⊢; have hb2 : w2.heap[q]? = w1.heap[q]? := (by rw [hg2.block _ (by simp; omega) (fun e => HNW.out e.symm)]; exact Below.heap_alloc _ _ _ hql); have d1 : w2.cell? ⟨q, 1, none⟩ = some (.slice wa n wc) := (World.cell?_of_block hb2).trans cq1; have z1 : w2.frozen? ⟨q, 1, none⟩ = false := (World.frozen?_of_block hb2).trans zq1; have HQ2 := hid hq2; have HG2 := hid hg2; have HA2 := hid hat2; have HB2 := hid hb2; clear hq2 hg2 hat2 hb2))
  obtain ⟨v2, hv2⟩ : ∃ v2, v2 = Value.slice (some a') (n + 1) c' := ⟨_, rfl⟩
  rw [← hv2] at HQ2
  have hob : v2.ownBlock = some a'.block := by rw [hv2]; rfl
  have HV2 := hid hv2
  clear hv2
  go_end0
  rw [← HV2.out]
  have hs2 := HS2.out
  have hfr12 : Fr (fun k => k = q ∨ (Value.slice wa n wc).ownBlock = some k) w1 (w2.setCell ⟨q, 1, none⟩ v2) :=
    (((Fr.refl _ _).alloc _).grown HG2.out (fun k hk _ => .inr hk)).setCell _ _ (fun _ => .inl rfl)
  have hlab : ∀ k, (k = q ∨ (Value.slice wa n wc).ownBlock = some k) → F k = (-2, 0) ∨ F k = (-2, 1) := fun k hk => by
    rcases hk with rfl | hk
    · exact .inl hs2.lq
    · exact .inr (hs2.lw k hk)
  have hsz : w.heap.size = w1.heap.size := by rw [HW1.out]; simp
  have hxb := HXB.out
  refine ⟨⟨_, rfl⟩, nw F w1.heap.size (-2, 1), v2, H2.out.fr hfr12 (fun e => ?_) (fun k e ek => ?_) (fun o ho k j e ek => ?_) (fun k hk => nw_lt hk), ⟨?_, ?_, ?_, ?_, ?_, ?_, ?_, ?_⟩, fun k hk => nw_lt (by omega), ?_⟩
  · rcases hlab p e with e2 | e2 <;> (rw [H2.out.fp] at e2; cases e2)
  · rcases hlab k ek with e2 | e2 <;> (rw [e] at e2; cases e2)
  · have hb := H2.out.bd ho
    rcases hlab k ek with e2 | e2 <;> (rw [e] at e2; have := congrArg Prod.fst e2; simp at this; omega)
  · rw [heap_setCell_same _ _ _ _ _ _ (HB2.out.trans hs2.hq)]; rfl
  · exact HQ2.out.set _ _ (fun e => by
      rw [hob] at e
      simp only [Option.some.injEq] at e
      rcases HA2.out with e2 | e2
      · rw [e] at e2; exact HNW.out e2
      · simp at e2; omega)
  · exact hfr12.owns hs2.hg (fun k hk e => by
      have h1 := hs2.lg k hk
      rcases hlab k e with e2 | e2 <;> (rw [h1] at e2; cases e2))
  · exact hfr12.owns hs2.hf (fun k hk e => by
      have h1 := hs2.lf k hk
      rcases hlab k e with e2 | e2 <;> (rw [h1] at e2; cases e2))
  · rw [nw_lt hql]; exact hs2.lq
  · intro k hk
    rw [hob] at hk
    simp only [Option.some.injEq] at hk
    by_cases e : k < w1.heap.size
    · rw [nw_lt e]
      rcases HA2.out with e2 | e2
      · rw [hk] at e2; exact hs2.lw k e2
      · simp at e2; omega
    · exact nw_ge (by omega)
  · intro k hk
    rw [nw_lt (hs2.hg.lt k hk).2]; exact hs2.lg k hk
  · intro k hk
    rw [nw_lt (hs2.hf.lt k hk).2]; exact hs2.lf k hk
  · refine Fr.trans (HFR.out.mono (fp2 := fun k => F k ≠ outL) (fun k hk _ => ?_)) hfr12 (fun k hk _ => ?_)
    · rw [hk, HFB.out]
      intro e
      have := congrArg Prod.fst e
      simp [outL] at this
      omega
    · rcases hlab k hk with e | e <;> (rw [e]; simp [outL])
end
end Go.Proofs.Ytmkajdfajcodjaa

namespace Go.Proofs.Ytmkajdfajcodjaa
open Go Go.ChangeShapes Go.WideShapes Go.ChangeAt Go.RowKit

theorem let1_none {L : HL} {h : Int} (e : whl L h = none) : let1 L ⟨1, h⟩ = (L, [], []) := by
  unfold let1
  simp [e]
theorem let1_some {L : HL} {h : Int} {x : Ob} (e : whl L h = some x) : let1 L ⟨1, h⟩ = if x.count = 0 then (L, [], []) else (setc L x.h (x.count - 1), if x.count = 1 then [x.h] else [], []) := by
  unfold let1
  simp [e]
theorem let1_for {L : HL} {h : Int} : let1 L ⟨2, h⟩ = (L, [], [h]) := by
  unfold let1
  simp
theorem let1_oth {L : HL} {l : Lk} (h1 : l.kind ≠ 1) (h2 : l.kind ≠ 2) : let1 L l = (L, [], []) := by
  unfold let1
  simp [h1, h2]
def LetPost (w : World) (q p pa : Nat) (Sa : Nat → Prop) (AA : Ar) (F : Nat → Lab) (B : Int → Nat) (top : Int) (L : HL) (gv : Value) (ws gs fs : List Int) (l : Lk) (e : Ending) (w' : World) : Prop :=
  (∃ v, e = .returned v) ∧ ∃ F' wv' fv', HpW w' p pa Sa AA F' B top (let1 L l).1 ∧ SwW w' q p F' wv' gv fv' (ws ++ (let1 L l).2.1) gs (fs ++ (let1 L l).2.2) ∧ (∀ k, k < w.heap.size → F' k = F k) ∧ FrF F w w'
section
variable {w w' : World} {q p pa : Nat} {Sa : Nat → Prop} {AA : Ar} {F : Nat → Lab} {B : Int → Nat} {top : Int} {L : HL} {wv gv fv : Value} {ws gs fs : List Int}
theorem LetPost.same (h : HpW w p pa Sa AA F B top L) (hs : SwW w q p F wv gv fv ws gs fs) {l : Lk} (e : let1 L l = (L, [], [])) (v : Value) : LetPost w q p pa Sa AA F B top L gv ws gs fs l (.returned v) w := by
  refine ⟨⟨v, rfl⟩, F, wv, fv, ?_, ?_, fun _ _ => rfl, FrF.refl _ _⟩
  · rw [e]; exact h
  · rw [e]; simpa using hs
set_option maxRecDepth 100000 in
theorem letObject_any (h : HpW w p pa Sa AA F B top L) (hs : SwW w q p F wv gv fv ws gs fs) (hi : HIn top L) (htop : top ≤ 4294967295) {hd : Int} (hh : Hn hd) (hl : ws.length ≤ 1000000) :
    Calls Try.prog 66 #[.pointer (some ⟨q, 0, none⟩), .int .u64 hd] w (LetPost w q p pa Sa AA F B top L gv ws gs fs ⟨1, hd⟩) := by
  have cq0 := hs.c0
  cases hw : whl L hd with
  | none =>
    have HW := hid (Whole_none h ((whl_none hi).1 hw) hh)
    have HP := hid (LetPost.same h hs (let1_none hw))
    clear h hs hi htop hh hl hw
    go_enter Try.func66, Try.ntmps66
    go_wp2_with (refine HW.out.mono ?_; rintro e w1 ⟨rfl, rfl⟩)
    go_end0
    exact HP.out _
  | some x =>
    obtain ⟨hx, hx0⟩ := whl_some hi hw
    obtain ⟨sv, iv, c, hbx⟩ := h.ob x hx
    have hcb := hi.cnt x hx
    have cx4 := hbx.c4
    have zx4 := hbx.fz 4
    rw [hbx.hc hx0] at cx4
    have HW := hid (Whole_some h hi hw)
    have HF := hid (find_some h hx)
    by_cases h0 : x.count = 0
    · have HP := hid (LetPost.same h hs ((let1_some hw).trans (if_pos h0)))
      rw [h0] at cx4
      generalize x.h = xh at *
      clear h hs hi htop hh hl hw hx hx0 hbx hcb
      go_enter Try.func66, Try.ntmps66
      go_wp2_with fail
      refine HW.out.mono ?_
      rintro e w1 ⟨rfl, rfl⟩
      go_wp2_with (refine HF.out.mono ?_; rintro e w1 ⟨rfl, rfl⟩)
      go_end0
      exact HP.out _
    · by_cases h1 : x.count = 1
      · have hwt := wait_any h hs hi.nd hx hl
        have HWT := hid hwt
        have hlt : let1 L ⟨1, hd⟩ = (setc L x.h 0, [x.h], []) := (let1_some hw).trans (by rw [if_neg h0, if_pos h1, h1]; rfl)
        have HLT := hid hlt
        rw [h1] at cx4
        generalize x.h = xh at *
        clear h hs hi htop hh hl hw hx hx0 hbx hcb h0 h1 hwt hlt
        go_enter Try.func66, Try.ntmps66
        go_wp2_with fail
        refine HW.out.mono ?_
        rintro e w1 ⟨rfl, rfl⟩
        go_wp2_with fail
        refine HF.out.mono ?_
        rintro e w1 ⟨rfl, rfl⟩
        go_wp2_with fail
        refine HWT.out.mono ?_
        rintro e w2 ⟨⟨v, rfl⟩, F', wv', k1, k2, k3, k4⟩
        have HK := hid (show LetPost w q p pa Sa AA F B top L gv ws gs fs ⟨1, hd⟩ (.returned (.tuple #[])) w2 from ⟨⟨_, rfl⟩, F', wv', fv, by rw [HLT.out]; exact k1, by rw [HLT.out]; simpa using k2, k3, k4⟩)
        clear k1 k2 k3 k4
        go_wp2
        go_end0
        obtain ⟨_, hk⟩ := HK.out
        exact ⟨⟨_, rfl⟩, hk⟩
      · have hlt : let1 L ⟨1, hd⟩ = (setc L x.h (x.count - 1), [], []) := (let1_some hw).trans (by rw [if_neg h0, if_neg h1])
        have hset := h.setc hi.nd hx (x.count - 1)
        have hfr : Fr (fun k => k = B x.h) w (w.setCell ⟨B x.h, 4, none⟩ (.int .u32 (x.count - 1))) := (Fr.refl _ _).setCell _ _ (fun _ => rfl)
        have hxb := (h.bd hx).1
        have hs2 : SwW (w.setCell ⟨B x.h, 4, none⟩ (.int .u32 (x.count - 1))) q p F wv gv fv ws gs fs := hs.fr hfr (fun k j e ek => by
          subst ek
          rw [hbx.fb] at e
          have := congrArg Prod.fst e
          simp at this
          omega) (fun _ _ => rfl)
        have hfin : LetPost w q p pa Sa AA F B top L gv ws gs fs ⟨1, hd⟩ (.returned (.tuple #[])) (w.setCell ⟨B x.h, 4, none⟩ (.int .u32 (x.count - 1))) :=
          ⟨⟨_, rfl⟩, F, wv, fv, by rw [hlt]; exact hset, by rw [hlt]; simpa using hs2, fun _ _ => rfl, hfr.mono (fun k hk _ => by
            rw [hk, hbx.fb]
            intro e
            have := congrArg Prod.fst e
            simp [outL] at this
            omega)⟩
        have HFIN := hid hfin
        have hwr : IntKind.u32.wrap (x.count - 1) = x.count - 1 := IntWalk.u32_in _ (by omega)
        have hd1 : decide (1 < x.count) = true := by simp; omega
        generalize x.count = cn at *
        generalize x.h = xh at *
        clear h hs hi htop hh hl hw hx hx0 hbx hcb h0 h1 hlt hset hfr hs2 hfin hxb
        go_enter Try.func66, Try.ntmps66
        go_wp2_with fail
        refine HW.out.mono ?_
        rintro e w1 ⟨rfl, rfl⟩
        go_wp2_with (refine HF.out.mono ?_; rintro e w1 ⟨rfl, rfl⟩)
        go_end0
        obtain ⟨_, hk⟩ := HFIN.out
        exact ⟨⟨_, rfl⟩, hk⟩
theorem LetPost.after {w1 : World} {F1 : Nat → Lab} {l : Lk} {e : Ending} (h : LetPost w1 q p pa Sa AA F1 B top L gv ws gs fs l e w') (hf : FrF F w w1) (hF : ∀ k, k < w.heap.size → F1 k = F k) : LetPost w q p pa Sa AA F B top L gv ws gs fs l e w' := by
  obtain ⟨h1, F', wv', fv', k1, k2, k3, k4⟩ := h
  exact ⟨h1, F', wv', fv', k1, k2, fun k hk => by rw [k3 k (Nat.lt_of_lt_of_le hk hf.size)]; exact hF k hk, FrF.trans hf k4 hF⟩
set_option maxRecDepth 100000 in
set_option maxHeartbeats 1000000 in
/-- letGo: any link. -/
theorem letGo_any (h : HpW w p pa Sa AA F B top L) (hs : SwW w q p F wv gv fv ws gs fs) (hi : HIn top L) (htop : top ≤ 4294967295) (l : Lk) (hh : Hn l.h) (hk : Nm l.kind) (hl : ws.length ≤ 1000000) (hlf : fs.length ≤ 1000000) :
    Calls Try.prog 52 #[.pointer (some ⟨q, 0, none⟩), .agg #[.int .i64 l.kind, .int .u64 l.h]] w (LetPost w q p pa Sa AA F B top L gv ws gs fs l) := by
  obtain ⟨lk, lh⟩ := l
  simp only at hh hk ⊢
  obtain ⟨w1, hw1⟩ : ∃ w1, w1 = w.alloc (.cells #[.int .i64 lk, .int .u64 lh] 67) := ⟨_, rfl⟩
  have hb1 : Below w.heap.size w w1 := by rw [hw1]; exact (Below.refl _ _).alloc (Nat.le_refl _) _
  have hbx : w1.heap[w.heap.size]? = some (.cells #[.int .i64 lk, .int .u64 lh] 67 (0, 0)) := by rw [hw1]; exact heap_alloc_new _ _
  have c0 : w1.cell? ⟨w.heap.size, 0, none⟩ = some (.int .i64 lk) := by rw [cell_of_row w1 _ 0 _ _ _ hbx]; rfl
  have c1 : w1.cell? ⟨w.heap.size, 1, none⟩ = some (.int .u64 lh) := by rw [cell_of_row w1 _ 1 _ _ _ hbx]; rfl
  have h1 : HpW w1 p pa Sa AA F B top L := h.fr (fp := fun _ => False) (Fr.of_below hb1) (fun e => e) (fun _ _ e => e) (fun _ _ _ _ _ e => e) (fun _ _ => rfl)
  have hs1 : SwW w1 q p F wv gv fv ws gs fs := hs.fr (fp := fun _ => False) (Fr.of_below hb1) (fun _ _ _ e => e) (fun _ _ => rfl)
  have hf1 : FrF F w w1 := Fr.of_below hb1
  by_cases k1 : lk = 1
  · subst k1
    have HO := hid (letObject_any h1 hs1 hi htop hh hl)
    have HF1 := hid hf1
    have HW1 := hid hw1
    clear h hs hi htop hk hl h1 hs1 hf1 hw1 hb1 hbx hlf
    go_enter Try.func52, Try.ntmps52
    go_upto_region 1 with fail
    rw [← HW1.out]
    go_wp2_with fail
    refine HO.out.mono ?_
    intro e w2 hp
    obtain ⟨v, rfl⟩ := hp.1
    have HP := hid (hp.after HF1.out (fun _ _ => rfl))
    clear hp
    go_wp2
    go_end0
    obtain ⟨_, hk⟩ := HP.out
    exact ⟨⟨_, rfl⟩, hk⟩
  · by_cases k2 : lk = 2
    · subst k2
      obtain ⟨i0, hii, hz0, hz1, hz2⟩ := info_parts infoU0
      have HI := hid hii
      have HZ0 := hid hz0
      have HZ1 := hid hz1
      have HZ2 := hid hz2
      have cq3 := hs1.c3
      have zq3 := hs1.fz 3
      have hql := hs1.lt
      have hnb : fv.ownBlock ≠ some w.heap.size := fun e => by have := (hs.hf.lt _ e).2; omega
      have hnf : fv.ownBlock ≠ some q := fun e => by have := hs1.lf _ e; rw [hs1.lq] at this; cases this
      obtain ⟨fa, fc, hfv⟩ := own_form hs1.hf
      subst hfv
      have HS1 := hid hs1
      have H1 := hid h1
      have HF1 := hid hf1
      have HW1 := hid hw1
      have HNF := hid hnf
      have HB1 := hid hb1
      have hbl : w.heap.size < w1.heap.size := by rw [hw1]; simp
      have HROW := hid hs1.hf
      obtain ⟨bx, hbxe⟩ : ∃ bx, bx = w.heap.size := ⟨_, rfl⟩
      rw [← hbxe] at c0 c1 hbl hnb
      have HNB := hid hnb
      have HBX := hid hbxe
      clear h hs hi htop hh hk hl h1 hs1 hf1 hw1 hb1 hbx hii hz0 hz1 hz2 hnf k1 hbxe hnb
      generalize hm : fs.length = m at *
      have HM := hid hm
      clear hm
      go_enter Try.func52, Try.ntmps52
      go_upto_region 1 with fail
      rw [← HW1.out, ← HBX.out]
      go_upto_region 5 with fail
      refine wp_region_mix [0, 0, 0, 0, 1, 0, 1, 2, 2, 0, 0, 3] (fun W => W.cell? ⟨q, 3, none⟩ = some (.slice fa m fc) ∧ W.cell? ⟨bx, 1, none⟩ = some (.int .u64 lh)) (by kernel_rfl) (by kernel_rfl) ⟨by simpa using cq3, by simpa using c1⟩ ?_
      repeat (first
        | (refine' wpMix_value _ rfl rfl _ _; rotate_left; (solve | (intro W; go_simp) | (intro W; go_simp; with_reducible rfl)); simp only [Act.put, List.setIfInBounds_toArray, List.set_cons_zero, List.set_cons_succ])
        | (refine' wpMix_read _ rfl rfl _ _; rotate_left; (solve | (rintro W ⟨h1, h2⟩; go_simp) | (rintro W ⟨h1, h2⟩; go_simp; with_reducible rfl)); simp only [Act.put, List.setIfInBounds_toArray, List.set_cons_zero, List.set_cons_succ]))
      obtain ⟨w2, hw2⟩ : ∃ w2, w2 = w1.drew := ⟨_, rfl⟩
      rw [← hw2]
      have q2 : w2.cell? ⟨q, 3, none⟩ = some (.slice fa m fc) := by rw [hw2]; simpa using cq3
      have x2 : w2.cell? ⟨bx, 1, none⟩ = some (.int .u64 lh) := by rw [hw2]; simpa using c1
      have e2 : w2.heap = w1.heap := by rw [hw2]; rfl
      have hq2 : q < w2.heap.size := by rw [e2]; exact hql
      have hx2 : bx < w2.heap.size := by rw [e2]; exact hbl
      have HR2 := hid (show w2.ownsRow 0 TU 1 (.slice fa m fc) m (fs.map u64v) by rw [hw2]; exact HROW.out)
      have HW2 := hid hw2
      have HE2 := hid e2
      clear hw2 e2
      refine wpMix_write (.slice (some ⟨w2.heap.size, 0, none⟩) 1 1) (w2.alloc (.cells #[.int .u64 lh] TU)) (by decide) rfl ?nrun1 ?nS1 ?nrest1
      case nrun1 => go_simp
      case nS1 => exact fun _ => ⟨by rw [World.cell?_of_block (Below.heap_alloc _ _ _ hq2)]; exact q2, by rw [World.cell?_of_block (Below.heap_alloc _ _ _ hx2)]; exact x2⟩
      simp only [Act.put, List.setIfInBounds_toArray, List.set_cons_zero, List.set_cons_succ]
      refine wpMix_append (by decide) rfl (.tmp 18) (.tmp 21) 43 rfl 0 TU i0 (.int .u64 0) 1 8 Try.underlying43 HI.out HZ0.out HZ1.out HZ2.out rfl (by decide) (.slice fa m fc) m (fs.map u64v) rfl (HR2.out.alloc _) ⟨w2.heap.size, 0, none⟩ 1 1 [.int .u64 lh] rfl rfl (cell_one_new _ _ _) (by simp [Value.oneCell']) (by decide) (by unfold maxLen; omega) (by omega) (Nat.zero_le _) (w2.heap.size + 1) (by simp) ?_
      intro g3 k3 w3 hown3 hgrow3 hat3 _
      have hb3 : w3.heap[q]? = w2.heap[q]? := by
        rw [hgrow3.block q (by simp; omega) (fun e => HNF.out e.symm)]; exact Below.heap_alloc _ _ _ hq2
      have q3 : w3.cell? ⟨q, 3, none⟩ = some (.slice fa m fc) := (World.cell?_of_block hb3).trans q2
      have z3 : w3.frozen? ⟨q, 3, none⟩ = false := by rw [World.frozen?_of_block hb3, HW2.out]; exact zq3
      have HO := hid hown3
      have HG := hid hgrow3
      have HA := hid hat3
      have HB3 := hid hb3
      refine ⟨fun e => ?_, ?_⟩
      · refine ⟨q3, ?_⟩
        rw [World.cell?_of_block (hgrow3.block bx (by simp; omega) (fun e => HNB.out e.symm)), World.cell?_of_block (Below.heap_alloc _ _ _ hx2)]; exact x2
      clear hown3 hgrow3 hat3 hb3 q2 x2
      simp only [Act.put, List.setIfInBounds_toArray, List.set_cons_zero, List.set_cons_succ]
      repeat (first
        | (refine' wpMix_value _ rfl rfl _ _; rotate_left; (solve | (intro W; go_simp) | (intro W; go_simp; with_reducible rfl)); simp only [Act.put, List.setIfInBounds_toArray, List.set_cons_zero, List.set_cons_succ]))
      refine wpMix_skip (w3.setCell ⟨q, 3, none⟩ (.slice (some ⟨g3, 0, none⟩) (m + 1) k3)) (by decide) rfl ?nrun2 (fun h => by cases h) ?nrest2
      case nrun2 => go_simp
      simp only [Act.put]
      refine wpMix_end ?_
      go_wp2
      go_end0
      have hs1 := HS1.out
      have hsz : w2.heap.size = w1.heap.size := by rw [HE2.out]
      have hfr : Fr (fun k => k = q ∨ (Value.slice fa m fc).ownBlock = some k) w1 (w3.setCell ⟨q, 3, none⟩ (.slice (some ⟨g3, 0, none⟩) (m + 1) k3)) := by
        have h0 : Fr (fun k => k = q ∨ (Value.slice fa m fc).ownBlock = some k) w1 w2 := by rw [HW2.out]; exact (Fr.refl _ _).drew
        exact ((h0.alloc _).grown HG.out (fun k hk _ => .inr hk)).setCell _ _ (fun _ => .inl rfl)
      have hlab : ∀ k, (k = q ∨ (Value.slice fa m fc).ownBlock = some k) → F k = (-2, 0) ∨ F k = (-2, 3) := fun k hk => by
        rcases hk with rfl | hk
        · exact .inl hs1.lq
        · exact .inr (hs1.lf k hk)
      refine ⟨⟨_, rfl⟩, nw F w1.heap.size (-2, 3), wv, .slice (some ⟨g3, 0, none⟩) (m + 1) k3, ?_, ?_, fun k hk => nw_lt (Nat.lt_of_lt_of_le hk HB1.out.size), ?_⟩
      · rw [let1_for]
        refine H1.out.fr hfr (fun e => ?_) (fun k e ek => ?_) (fun o ho k j e ek => ?_) (fun k hk => nw_lt hk)
        · rcases hlab p e with e2 | e2 <;> (rw [H1.out.fp] at e2; cases e2)
        · rcases hlab k ek with e2 | e2 <;> (rw [e] at e2; cases e2)
        · have hb := H1.out.bd ho
          rcases hlab k ek with e2 | e2 <;> (rw [e] at e2; have := congrArg Prod.fst e2; simp at this; omega)
      · rw [let1_for]
        refine ⟨?_, ?_, ?_, ?_, ?_, ?_, ?_, ?_⟩
        · have e1 := hs1.hq
          rw [← HE2.out, ← HB3.out] at e1
          rw [heap_setCell_same _ _ _ _ _ _ e1]; rfl
        · rw [List.append_nil]
          exact hs1.hw.fr hfr (fun k hk e => by
            have h1 := hs1.lw k hk
            rcases hlab k e with e2 | e2 <;> (rw [h1] at e2; cases e2))
        · exact hfr.owns hs1.hg (fun k hk e => by
            have h1 := hs1.lg k hk
            rcases hlab k e with e2 | e2 <;> (rw [h1] at e2; cases e2))
        · have h1 := HO.out
          rw [List.length_append, List.map_append, HM.out]
          refine ownsRow_setCell_other h1 (fun e => ?_) _
          simp [Value.ownBlock] at e
          rcases HA.out with e2 | e2
          · rw [e] at e2; exact HNF.out e2
          · omega
        · rw [nw_lt hql]; exact hs1.lq
        · intro k hk
          rw [nw_lt (hs1.hw.lt k hk)]; exact hs1.lw k hk
        · intro k hk
          rw [nw_lt (hs1.hg.lt k hk).2]; exact hs1.lg k hk
        · intro k hk
          simp [Value.ownBlock] at hk
          subst hk
          by_cases e : g3 < w1.heap.size
          · rw [nw_lt e]
            rcases HA.out with e2 | e2
            · exact hs1.lf _ e2
            · omega
          · exact nw_ge (by omega)
      · refine FrF.trans HF1.out (Fr.mono hfr (fun k hk _ => ?_)) (fun _ _ => rfl)
        rcases hlab k hk with e | e <;> (rw [e]; simp [outL])
    · have HP := hid ((LetPost.same h1 hs1 (let1_oth (l := ⟨lk, lh⟩) k1 k2) (.tuple #[])).after hf1 (fun _ _ => rfl))
      have d1 : (lk == 1) = false := by simpa using k1
      have d2 : (lk == 2) = false := by simpa using k2
      have HW1 := hid hw1
      clear h hs hi htop hh hk hl h1 hs1 hf1 hw1 hb1 hbx hlf k1 k2
      go_enter Try.func52, Try.ntmps52
      go_upto_region 1 with fail
      rw [← HW1.out]
      go_wp2
      go_end0
      obtain ⟨_, hk⟩ := HP.out
      exact ⟨⟨_, rfl⟩, hk⟩
end
end Go.Proofs.Ytmkajdfajcodjaa

namespace Go.Proofs.Ytmkajdfajcodjaa
open Go Go.ChangeShapes Go.WideShapes Go.ChangeAt Go.RowKit Go.Shelf
attribute [local go_sem] Oper.semAt_some

def encO (x : Int × Nat) : Array Value := #[.int .u64 x.1, .pointer (some ⟨x.2, 0, none⟩)]
def partsL (hd : Int) (b : Nat) (l : List Int) (Bf : Int → Nat) : List (Int × Nat) := (hd, b) :: l.map fun h => (h, Bf h)
/-- What it asks of the world between two rounds. -/
structure GdP (b1 b2 p b : Nat) (hd : Int) (iv : Value) (l : List Int) (Bf : Int → Nat) (pre : List (Int × Nat)) (W : World) : Prop where
  c1 : W.cell? ⟨b1, 0, none⟩ = some (.pointer (some ⟨p, 0, none⟩))
  c2 : W.cell? ⟨b2, 0, none⟩ = some (.int .u64 hd)
  ci : W.cell? ⟨b, 3, none⟩ = some iv
  row : W.ownsRow 0 TU 1 iv l.length (l.map u64v)
  fnd : ∀ x, pre ++ [x] <+: partsL hd b l Bf → Calls Try.prog 51 #[.pointer (some ⟨p, 0, none⟩), .int .u64 x.1] W fun e w' => e = .returned (.pointer (some ⟨x.2, 0, none⟩)) ∧ W = w'
theorem partsL_take (hd : Int) (b : Nat) (l : List Int) (Bf : Int → Nat) (q : Nat) (h : Int) (hq : l[q]? = some h) : (partsL hd b l Bf).take (q + 1) ++ [(h, Bf h)] = (partsL hd b l Bf).take (q + 1 + 1) := by
  unfold partsL
  rw [List.take_succ_cons, List.take_succ_cons, List.cons_append, List.take_add_one, List.getElem?_map, hq]
  rfl
def PartPost {α κ : Type} (J : κ → List α → World → Prop) (Jx : List α → World → Prop) (xs : List α) (e : Ending) (W' : World) : Prop := (∃ v, e = .returned v) ∧ ((∃ t, J t xs W') ∨ (∃ pre, pre <+: xs ∧ Jx pre W'))
set_option maxRecDepth 100000 in
set_option maxHeartbeats 1000000 in
theorem parts_it (n : Nat) (w : World) (b1 b2 p b : Nat) (hd : Int) (iv : Value) (l : List Int) (Bf : Int → Nat) (hl : l.length ≤ 1000000) :
    TellsX Fence.wide n Try.prog 73 #[.pointer (some ⟨b1, 0, none⟩), .pointer (some ⟨b2, 0, none⟩)] encO (fun (_ : Unit) W W' => W' = W) (fun _ _ _ => True) (GdP b1 b2 p b hd iv l Bf) (partsL hd b l Bf) w := by
  intro lp J Jx W _ _ _ hGd hG0 hY hOk
  show CallsIn Fence.wide n Try.prog 73 #[.func (.yield lp) #[] #[], .pointer (some ⟨b1, 0, none⟩), .pointer (some ⟨b2, 0, none⟩)] W (PartPost J Jx (partsL hd b l Bf))
  have HG := hid hGd
  have HY := hid hY
  have c1 := hG0.c1
  have c2 := hG0.c2
  have HF := hid (hG0.fnd (hd, b) ⟨l.map fun h => (h, Bf h), rfl⟩)
  have hy0 := hY () [] (hd, b) W (hOk () W rfl) ⟨l.map fun h => (h, Bf h), rfl⟩
  obtain ⟨fn, tmps, assign, body, hy, hRd⟩ := hy0
  have HR := hid hRd
  simp only [encO] at hy
  clear hGd hG0 hOk hRd hY
  refine callsIn_of_wp Try.func73 rfl trivial ?_ rfl
  simp only [Try.ntmps73, List.size_toArray, List.length_cons, List.length_nil, Nat.reduceAdd, Nat.reduceSub, Array.replicate_succ, Array.replicate_zero, List.push_toArray, List.append_toArray, List.nil_append, List.cons_append]
  gi_wp2
  refine ⟨trivial, (fun h => by cases h), (callsIn_wide.2 HF.out).mono ?_⟩
  rintro e w' ⟨rfl, rfl⟩
  gi_wp2
  refine ⟨(fun h => by cases h), HR.out.mono ?_⟩
  rintro e W3 (⟨rfl, hJ3, _, _⟩ | ⟨rfl, hJx3, _⟩)
  · have J3 := hid hJ3
    have hg3 := HG.out () _ _ hJ3
    have ci := hg3.ci
    obtain ⟨ia, ic, hiv⟩ := own_form hg3.row
    subst hiv
    clear hJ3 hg3 HF HR hy
    obtain ⟨N, hN⟩ : ∃ N, N = l.length := ⟨_, rfl⟩
    rw [← hN] at ci hl
    have HN := hid hN
    clear hN
    gi_wp2
    gi_loopw [24] (fun i wr => ∃ q : Nat, q ≤ N ∧ i = .int .i64 q ∧ RowKit.Hid (J () ((partsL hd b l Bf).take (q + 1)) wr)) (fun i _ => N - (intOf i).toNat)
    case atStart => exact ⟨0, Nat.zero_le _, rfl, hid (by simpa [partsL] using J3.out)⟩
    case round =>
      obtain ⟨q, hq, rfl, HJq⟩ := hrel
      by_cases hql : q < N
      · have hqL : q < l.length := by rw [← HN.out]; exact hql
        have hs : l[q]? = some l[q] := List.getElem?_eq_getElem hqL
        generalize l[q] = h at hs
        have hg := HG.out () _ _ HJq.out
        have hrow := hg.row
        rw [← HN.out] at hrow
        obtain ⟨g, k', hvf, _⟩ := hrow.form (by omega)
        simp only [Value.slice.injEq] at hvf
        obtain ⟨rfl, -, rfl⟩ := hvf
        have g0 : wr.cell? ⟨g, q, none⟩ = some (.int .u64 h) := by
          rw [hrow.cellAt q (by omega), List.getElem?_map, hs]; rfl
        have d1 := hg.c1
        have hpre := partsL_take hd b l Bf q h hs
        have hpx : (partsL hd b l Bf).take (q + 1) ++ [(h, Bf h)] <+: partsL hd b l Bf := by rw [hpre]; exact List.take_prefix _ _
        have HF := hid (hg.fnd _ hpx)
        have hy0 := HY.out () _ (h, Bf h) wr HJq.out hpx
        obtain ⟨fn, tmps, assign, body, hy, hRd⟩ := hy0
        have HR := hid hRd
        simp only [encO] at hy
        have HPRE := hid hpre
        have HPX := hid hpx
        clear hg hrow hRd hpre hpx hs hqL
        gi_wp2
        refine ⟨trivial, (fun h => by cases h), (callsIn_wide.2 HF.out).mono ?_⟩
        rintro e w' ⟨rfl, rfl⟩
        gi_wp2
        refine ⟨(fun h => by cases h), HR.out.mono ?_⟩
        rintro e W3 (⟨rfl, hJ3, _, _⟩ | ⟨rfl, hJx3, _⟩)
        · have J3 := hid hJ3
          clear hJ3
          gi_wp2
          go_roundw
          case rel => exact ⟨q + 1, by omega, by go_num, by rw [← HPRE.out]; exact J3⟩
          case measure => simp [intOf]; omega
        · have J3 := hid hJx3
          clear hJx3
          gi_wp2
          refine bodyPost_ret (results_none rfl _ _ _) rfl ?_
          exact ⟨⟨_, rfl⟩, .inr ⟨_, HPX.out, J3.out⟩⟩
      · obtain rfl : q = N := by omega
        have hall : (partsL hd b l Bf).take (q + 1) = partsL hd b l Bf := List.take_of_length_le (by have := HN.out; simp [partsL]; omega)
        have HA := hid hall
        clear hall
        gi_wp2
        go_end0
        exact ⟨⟨_, rfl⟩, .inl ⟨(), by have := HJq.out; rw [HA.out] at this; exact this⟩⟩
  · have J3 := hid hJx3
    clear hJx3
    gi_wp2
    refine bodyPost_ret (results_none rfl _ _ _) rfl ?_
    exact ⟨⟨_, rfl⟩, .inr ⟨[(hd, b)], ⟨l.map fun h => (h, Bf h), rfl⟩, J3.out⟩⟩
theorem parts_any (w : World) (p : Nat) (hd : Int) : Calls Try.prog 62 #[.pointer (some ⟨p, 0, none⟩), .int .u64 hd] w fun e w' => e = .returned (.func (.func 73) #[] #[.pointer (some ⟨w.heap.size, 0, none⟩), .pointer (some ⟨w.heap.size + 1, 0, none⟩)]) ∧ w' = (w.alloc (.cells #[.pointer (some ⟨p, 0, none⟩)] 24)).alloc (.cells #[.int .u64 hd] 34) := by
  go_enter Try.func62, Try.ntmps62
  go_wp2
  go_ret
  exact ⟨rfl, rfl⟩
end Go.Proofs.Ytmkajdfajcodjaa

namespace Go.Proofs.Ytmkajdfajcodjaa
open Go Go.ChangeShapes Go.WideShapes Go.ChangeAt Go.RowKit

/-- A block that holds no cells, or none, has turned. -/
def NoCells (W : World) (row : Option Nat) : Prop := ∀ r, row = some r → ∃ o : Obj, W.heap[r]? = some o ∧ o.isCells = false
section
variable {W W' : World} {row : Option Nat}
theorem kept_at {k : Nat} {cs : Array Value} {t : TypeId} {fz : Nat × Nat} (h : W.heap[k]? = some (.cells cs t fz)) (hg : W.grownBy W' row) (hr : NoCells W row) : W'.heap[k]? = some (.cells cs t fz) := heap_kept h hg (not_cells h hr)
theorem QRow.kept {v : Value} {xs : List Int} (h : QRow W v xs) (hg : W.grownBy W' row) (hr : NoCells W row) : QRow W' v xs := by
  rcases h with h | ⟨g, off, cap, cur, rfl, h1, h2⟩
  · exact .inl h
  · exact .inr ⟨g, off, cap, cur, rfl, kept_at h1 hg hr, h2⟩
theorem InS.kept {S : Nat → Prop} {p : Nat} {A : Ar} (h : InS S W p A) (hg : W.grownBy W' row) (hr : NoCells W row) : InS S W' p A := by
  obtain ⟨cv, fv, h1, h2, h3, h4, h5, h6⟩ := h
  exact ⟨cv, fv, ⟨kept_at h1.hp hg hr, owns_not_cells h1.hc hg hr, owns_not_cells h1.hf hg hr, h1.d1, h1.d2, h1.d3⟩, h2, h3, h4, h5, fun k hk => Nat.lt_of_lt_of_le (h6 k hk) hg.size⟩
theorem ObC.kept {F : Nat → Lab} {b : Nat} {sv iv : Value} {c : Int} {o : Ob} (h : ObC W F b sv iv c o) (hg : W.grownBy W' row) (hr : NoCells W row) : ObC W' F b sv iv c o :=
  ⟨kept_at h.hb hg hr, owns_not_cells h.hs hg hr, owns_not_cells h.hi hg hr, h.hc, h.fb, h.fs, h.fi⟩
theorem HpW.kept {p pa : Nat} {Sa : Nat → Prop} {AA : Ar} {F : Nat → Lab} {B : Int → Nat} {top : Int} {L : HL} (h : HpW W p pa Sa AA F B top L) (hg : W.grownBy W' row) (hr : NoCells W row) : HpW W' p pa Sa AA F B top L :=
  ⟨kept_at h.hp hg hr, h.ar.kept hg hr, h.fa, h.fp, fun o ho => by
    obtain ⟨sv, iv, c, hb⟩ := h.ob o ho
    exact ⟨sv, iv, c, hb.kept hg hr⟩, h.pl, h.co⟩
theorem SwW.kept {q p : Nat} {F : Nat → Lab} {wv gv fv : Value} {ws gs fs : List Int} (h : SwW W q p F wv gv fv ws gs fs) (hg : W.grownBy W' row) (hr : NoCells W row) : SwW W' q p F wv gv fv ws gs fs :=
  ⟨kept_at h.hq hg hr, h.hw.kept hg hr, owns_not_cells h.hg hg hr, owns_not_cells h.hf hg hr, h.lq, h.lw, h.lg, h.lf⟩
end
theorem KeepsOthers.of_fr {fp : Nat → Prop} {W W' : World} (hf : Fr fp W W') (hc : ∀ k o, fp k → W.heap[k]? = some o → o.isCells = true) : KeepsOthers W W' :=
  ⟨hf.size, fun k o hk ho => by
    rw [hf.block k (Array.getElem?_eq_some_iff.1 hk).1 (fun e => by rw [hc k o e hk] at ho; cases ho)]
    exact hk⟩
/-- An arena's blocks alone: all of them hold cells. -/
theorem InS.exact {S : Nat → Prop} {w : World} {p : Nat} {A : Ar} (h : InS S w p A) : ∃ S' : Nat → Prop, (∀ k, S' k → S k) ∧ InS S' w p A ∧ ∀ k o, S' k → w.heap[k]? = some o → o.isCells = true := by
  obtain ⟨cv, fv, h1, h2, h3, h4, h5, h6⟩ := h
  have own : ∀ {B e size n} {v : Value} {xs : List Value} {k : Nat} {o : Obj}, w.ownsRow B e size v n xs → v.ownBlock = some k → w.heap[k]? = some o → o.isCells = true := by
    intro B e size n v xs k o ho hv hk
    rcases ho.2 with ⟨rfl, _⟩ | ⟨g, cap, cur, rfl, _, hg, _⟩
    · simp [Value.ownBlock] at hv
    · simp [Value.ownBlock] at hv
      subst hv
      rw [hg] at hk
      cases hk
      rfl
  refine ⟨fun k => k = p ∨ cv.ownBlock = some k ∨ fv.ownBlock = some k, fun k hk => ?_, ⟨cv, fv, h1, h2, .inl rfl, fun k hk => .inr (.inl hk), fun k hk => .inr (.inr hk), fun k hk => ?_⟩, fun k o hk ho => ?_⟩
  · rcases hk with rfl | hk | hk
    · exact h3
    · exact h4 k hk
    · exact h5 k hk
  · rcases hk with rfl | hk | hk
    · exact h6 k h3
    · exact h6 k (h4 k hk)
    · exact h6 k (h5 k hk)
  · rcases hk with rfl | hk | hk
    · rw [h1.hp] at ho
      cases ho
      rfl
    · exact own h1.hc hk ho
    · exact own h1.hf hk ho
theorem Drop_any (S : Nat → Prop) (w : World) (p : Nat) (A : Ar) (i : Nat) (s : Spot) (hd : Int) (h : InS S w p A) (hf : Found A hd i s) :
    Calls Try.prog 75 #[.pointer (some ⟨p, 0, none⟩), .int .u64 hd] w fun e w' => (∃ v, e = .returned (.tuple #[v, .int .i64 0])) ∧ InS (ext S w w') w' p (dropAt A i s) ∧ Fr S w w' := by
  by_cases hw : s.g < 4294967295
  · exact (Drop_again S w p A i s hd h hf hw).mono fun e w' ⟨h1, h2, h3⟩ => ⟨⟨_, h1⟩, h2, h3⟩
  · exact (Drop_worn S w p A i s hd h hf hw).mono fun e w' ⟨h1, h2, h3⟩ => ⟨⟨_, h1⟩, h2.wider, h3⟩
theorem HpW.drop {w w' : World} {p pa : Nat} {Sa Sa' : Nat → Prop} {AA : Ar} {F : Nat → Lab} {B : Int → Nat} {top : Int} {L : HL} (h : HpW w p pa Sa AA F B top L) {hd : Int} {i : Nat} {sp : Spot} (hf : Found AA hd i sp) (ha : InS Sa' w' pa (dropAt AA i sp)) (hSa : ∀ k, Sa' k → Sa k ∨ w.heap.size ≤ k) (hfr : Fr Sa w w') :
    HpW w' p pa Sa' (dropAt AA i sp) (nw F w.heap.size (0, 0)) B top (L.filter fun o => !(o.h == hd)) := by
  have nosa : ∀ k l j, F k = (l, j) → l ≠ 0 → ¬ Sa k := fun k l j e hl hk => by
    rw [h.fa k hk] at e
    exact hl (congrArg Prod.fst e).symm
  have hmem : ∀ {o : Ob}, o ∈ L.filter (fun o => !(o.h == hd)) ↔ o ∈ L ∧ o.h ≠ hd := by intro o; rw [List.mem_filter]; simp
  have hAok := h.ar.ok
  refine ⟨by rw [hfr.block p h.lt (nosa p _ _ h.fp (by omega))]; exact h.hp, ha, fun k hk => ?_, by rw [nw_lt h.lt]; exact h.fp, fun o ho => ?_, fun o ho => ?_, fun j r h1 h2 => ?_⟩
  · rcases hSa k hk with e | e
    · rw [nw_lt (h.ar.lt k e)]; exact h.fa k e
    · exact nw_ge e
  · have hm := (hmem.1 ho).1
    have := h.bd hm
    exact (h.ob o hm).fr hfr (fun k j e => nosa k _ j e (by omega)) (fun k hk => nw_lt hk)
  · obtain ⟨hm, hne⟩ := hmem.1 ho
    obtain ⟨j, r, h1, h2, h3, h4⟩ := h.pl o hm
    refine ⟨j, r, (drop_at hf.1 j r h2).2 ⟨h1, fun e => ?_⟩, h2, h3, h4⟩
    subst e
    rw [hf.1] at h1
    cases h1
    exact hne (h3.trans hf.2.2.symm)
  · obtain ⟨h3, h4⟩ := (drop_at hf.1 j r h2).1 h1
    obtain ⟨o, ho, e⟩ := h.co j r h3 h2
    refine ⟨o, hmem.2 ⟨ho, fun e2 => h4 ?_⟩, e⟩
    have h5 := hAok.lt h3
    have h6 := hAok.lt hf.1
    exact (hand_inj2 (by omega) (by omega) (e.symm.trans (e2.trans hf.2.2))).1
theorem parts_all (hd : Int) (b : Nat) (l : List Int) (Bf : Int → Nat) : (partsL hd b l Bf).map (·.1) = hd :: l := by
  unfold partsL
  rw [List.map_cons, List.map_map]
  congr 1
  exact (List.map_congr_left (fun _ _ => rfl)).trans (List.map_id l)
theorem parts_next {hd : Int} {b : Nat} {l : List Int} {Bf : Int → Nat} (hn : (hd :: l).Nodup) (hb : b = Bf hd) {pre : List (Int × Nat)} {y : Int × Nat} (h : pre ++ [y] <+: partsL hd b l Bf) : y.2 = Bf y.1 ∧ y.1 ∈ hd :: l ∧ y.1 ∉ pre.map (·.1) := by
  have hm : y ∈ partsL hd b l Bf := h.subset (by simp)
  have h1 : y.2 = Bf y.1 ∧ y.1 ∈ hd :: l := by
    unfold partsL at hm
    rcases List.mem_cons.1 hm with rfl | hm
    · exact ⟨hb, by simp⟩
    · obtain ⟨x, hx, rfl⟩ := List.mem_map.1 hm
      exact ⟨rfl, by simp [hx]⟩
  refine ⟨h1.1, h1.2, fun hy => ?_⟩
  have h2 : (pre ++ [y]).map (·.1) <+: hd :: l := by
    have := h.map (·.1)
    rw [parts_all] at this
    exact this
  have h3 := hn.sublist h2.sublist
  rw [List.map_append, List.nodup_append] at h3
  exact h3.2.2 _ hy _ (by simp) rfl
theorem drr_more {A A1 A2 : Ar} {l m : List Int} (h : DrR A l A1) (k : DrR A1 m A2) : DrR A (l ++ m) A2 := by
  induction h with
  | nil => exact k
  | cons hf _ ih => exact .cons hf (ih k)
theorem held_all {L : HL} {x : Ob} (hx : fnd L x.h = some x) : (awa L x.h).2.1 = (x.h :: x.inners).flatMap (linksOf L) := by
  rw [awa_some hx]
  simp only [List.flatMap_cons]
  have h1 : linksOf L x.h = x.links := by unfold linksOf; rw [hx]
  rw [h1]
  congr 1
  generalize x.inners = l
  induction l with
  | nil => rfl
  | cons a l ih =>
    rw [List.filterMap_cons, List.flatMap_cons, ← ih]
    unfold linksOf
    cases fnd L a with
    | none => simp
    | some o => simp
theorem lab_low {F : Nat → Lab} {fp : Nat → Prop} (hl : ∀ k, fp k → (F k).1 ≤ -2) {k : Nat} {l : Int} {j : Nat} (e : F k = (l, j)) (h : -2 < l) : ¬ fp k := fun hk => by
  have := hl k hk
  rw [e] at this
  simp only at this
  omega
theorem HpW.low {w w' : World} {p pa : Nat} {Sa : Nat → Prop} {AA : Ar} {F F' : Nat → Lab} {B : Int → Nat} {top : Int} {L : HL} {fp : Nat → Prop} (h : HpW w p pa Sa AA F B top L) (hf : Fr fp w w') (hl : ∀ k, fp k → (F k).1 ≤ -2) (hF : ∀ k, k < w.heap.size → F' k = F k) : HpW w' p pa Sa AA F' B top L :=
  h.fr hf (lab_low hl h.fp (by omega)) (fun k e => lab_low hl e (by omega)) (fun o ho k j e => lab_low hl e (by have := (h.bd ho).1; omega)) hF
theorem own_cells {w : World} {B : Nat} {e : TypeId} {size n : Nat} {v : Value} {xs : List Value} {k : Nat} {o : Obj} (ho : w.ownsRow B e size v n xs) (hv : v.ownBlock = some k) (hk : w.heap[k]? = some o) : o.isCells = true := by
  rcases ho.2 with ⟨rfl, _⟩ | ⟨g, cap, cur, rfl, _, hg, _⟩
  · simp [Value.ownBlock] at hv
  · simp [Value.ownBlock] at hv
    subst hv
    rw [hg] at hk
    cases hk
    rfl
theorem SwW.pushg {w w' : World} {q p : Nat} {F : Nat → Lab} {wv gv gv' fv : Value} {ws gs fs : List Int} {h : Int} (hs : SwW w q p F wv gv fv ws gs fs) (hf : Fr (fun k => k = q ∨ gv.ownBlock = some k) w w')
    (hq : w'.heap[q]? = some (.cells #[.pointer (some ⟨p, 0, none⟩), wv, gv', fv] 118 (0, 0))) (hg : w'.ownsRow 0 TU 1 gv' (gs ++ [h]).length ((gs ++ [h]).map u64v)) (hb : ∀ k, gv'.ownBlock = some k → gv.ownBlock = some k ∨ w.heap.size ≤ k) :
    SwW w' q p (nw F w.heap.size (-2, 2)) wv gv' fv ws (gs ++ [h]) fs := by
  have hlab : ∀ k, (k = q ∨ gv.ownBlock = some k) → F k = (-2, 0) ∨ F k = (-2, 2) := fun k hk => by
    rcases hk with rfl | hk
    · exact .inl hs.lq
    · exact .inr (hs.lg k hk)
  refine ⟨hq, ?_, hg, ?_, by rw [nw_lt hs.lt]; exact hs.lq, fun k hk => by rw [nw_lt (hs.hw.lt k hk)]; exact hs.lw k hk, fun k hk => ?_, fun k hk => by rw [nw_lt (hs.hf.lt k hk).2]; exact hs.lf k hk⟩
  · exact hs.hw.fr hf (fun k hk e => by
      have h1 := hs.lw k hk
      rcases hlab k e with e2 | e2 <;> (rw [h1] at e2; cases e2))
  · exact hf.owns hs.hf (fun k hk e => by
      have h1 := hs.lf k hk
      rcases hlab k e with e2 | e2 <;> (rw [h1] at e2; cases e2))
  · by_cases e : k < w.heap.size
    · rw [nw_lt e]
      rcases hb k hk with e2 | e2
      · exact hs.lg k e2
      · omega
    · exact nw_ge (by omega)
/-- append of nothing. -/
theorem run_append_zero_nil {P : Program} (w : World) (base : Nat) (t ty e : TypeId) (i : TypeInfo) (size : Nat) (ht : P.underlying t = some (.slice e)) (hi : P.info? e = some i) (v : Value) (n : Nat) (xs : List Value) (hown : w.ownsRow base e size v n xs) :
    (Builtin.append_ #[t, t] ty #[v, .slice none 0 0]).run P w = .ok v w := by
  rcases hown.2 with ⟨rfl, rfl⟩ | ⟨g, cap, cur, rfl, _, _, hnc, _⟩
  · simp [Builtin.append_, run_underlying ht, sizeOf, typeInfo, hi, Builtin.lenOf, Builtin.firstCells]
  · simp [Builtin.append_, run_underlying ht, sizeOf, typeInfo, hi, Builtin.lenOf, Builtin.firstCells, loadCells, hnc, storeCells]
/-- append of links, as many as may be. -/
theorem append_links {w : World} {base : Nat} {t ty : TypeId} {i : TypeInfo} (ht : Try.prog.underlying t = some (.slice 67)) (hi : Try.prog.info? 67 = some i) (hz : i.zero = some (.agg #[.int .i64 0, .int .u64 0])) (hs : i.size = 2) (hb : i.bytes = 16)
    {v u : Value} {n : Nat} {xs : List Value} {l : List Lk} {B2 : Nat} (h1 : w.ownsRow base 67 2 v n xs) (h2 : w.ownsRow B2 67 2 u l.length (lkv l)) (hn : n + l.length ≤ 100000000) (hbase : base ≤ w.heap.size) :
    ∃ a c w', (Builtin.append_ #[t, t] ty #[v, u]).run Try.prog w = .ok (.slice a (n + l.length) c) w' ∧ w'.ownsRow base 67 2 (.slice a (n + l.length) c) (n + l.length) (xs ++ lkv l) ∧ w.grownBy w' v.ownBlock ∧ ((Value.slice a (n + l.length) c).ownBlock = v.ownBlock ∨ (Value.slice a (n + l.length) c).ownBlock = some w.heap.size) := by
  obtain ⟨v', w', r1, r2, r3, r4⟩ : ∃ v' w', (Builtin.append_ #[t, t] ty #[v, u]).run Try.prog w = .ok v' w' ∧ w'.ownsRow base 67 2 v' (n + l.length) (xs ++ lkv l) ∧ w.grownBy w' v.ownBlock ∧ (v'.ownBlock = v.ownBlock ∨ v'.ownBlock = some w.heap.size) := by
    obtain ⟨a, c, rfl⟩ := own_form h2
    cases a with
    | none =>
      have hl : l.length = 0 ∧ c = 0 := by
        rcases h2.2 with ⟨e1, e2⟩ | ⟨g, cap, cur, e, _⟩
        · simp at e1
          exact ⟨e2, e1.2⟩
        · cases e
      obtain ⟨hl0, rfl⟩ := hl
      have : l = [] := List.eq_nil_of_length_eq_zero hl0
      subst this
      exact ⟨v, w, run_append_zero_nil w base t ty _ i 2 ht hi v n xs h1, by simpa [lkv] using h1, ⟨rfl, rfl, rfl, Nat.le_refl _, fun _ _ _ => rfl⟩, .inl rfl⟩
    | some a =>
      obtain ⟨v', w', q1, q2, q3, _, q5⟩ := run_append_own_at (P := Try.prog) w base t ty _ i _ 2 16 ht hi hz hs hb rfl (by decide) v n xs h1 a l.length c (lkv l) (lkv_len l) (by
        rcases h2.2 with ⟨e1, _⟩ | ⟨g, cap, cur, e, _⟩
        · simp at e1
        · have := h2.cells (g := g) (by rw [e]; rfl)
          cases e
          exact this) (lkv_one l) (by unfold maxLen; omega) (by omega) hbase
      exact ⟨v', w', q1, q2, q3, q5⟩
  obtain ⟨a, c, rfl⟩ := own_form r2
  exact ⟨a, c, w', r1, r2, r3, r4⟩
theorem links_len8 {top : Int} {L : HL} (hi : HIn top L) (g : List Int) : (g.flatMap (linksOf L)).length ≤ g.length * 8 := by
  induction g with
  | nil => simp
  | cons a g ih =>
    rw [List.flatMap_cons, List.length_append, List.length_cons]
    have : (linksOf L a).length ≤ 8 := by
      unfold linksOf
      cases hf : fnd L a with
      | none => simp
      | some o => exact (hi.lnk o (fnd_some hf).1).1
    omega
end Go.Proofs.Ytmkajdfajcodjaa
