/- HqQ HqF HqG in one -/
import Derived.Test.YtmampaglemleoaaHqE
import Derived.Deep.AppendSrc
import Derived.Test.YtmampaglemleoaaMix
namespace Go.Proofs.Ytmampaglemleoaa
open Go Go.ChangeShapes Go.WideShapes Go.ChangeAt Go.RowKit

/-- A row that may begin behind its block's head. -/
def QRow (w : World) (v : Value) (xs : List Int) : Prop :=
  (v = .slice none 0 0 ∧ xs = []) ∨ ∃ g off cap cur, v = .slice (some ⟨g, off, none⟩) xs.length cap ∧ w.heap[g]? = some (.cells cur TU (0, 0)) ∧ xs.length ≤ cap ∧ cap ≤ maxLen ∧ off + cap ≤ cur.size ∧ ∀ (j : Nat) x, xs[j]? = some x → cur[off + j]? = some (u64v x)
section
variable {w w' : World} {v : Value} {xs : List Int} {fp : Nat → Prop}
theorem QRow.fr (h : QRow w v xs) (hf : Fr fp w w') (hv : ∀ k, v.ownBlock = some k → ¬ fp k) : QRow w' v xs := by
  rcases h with h | ⟨g, off, cap, cur, rfl, h1, h2⟩
  · exact .inl h
  · exact .inr ⟨g, off, cap, cur, rfl, by rw [hf.block g (Array.getElem?_eq_some_iff.1 h1).1 (hv g rfl)]; exact h1, h2⟩
theorem QRow.lt (h : QRow w v xs) : ∀ k, v.ownBlock = some k → k < w.heap.size := fun k hk => by
  rcases h with ⟨rfl, _⟩ | ⟨g, off, cap, cur, rfl, h1, _⟩
  · simp [Value.ownBlock] at hk
  · simp [Value.ownBlock] at hk
    subst hk
    exact (Array.getElem?_eq_some_iff.1 h1).1
theorem QRow.form (h : QRow w v xs) : ∃ a c, v = .slice a xs.length c ∧ (xs ≠ [] → ∃ g off, a = some ⟨g, off, none⟩) := by
  rcases h with ⟨rfl, rfl⟩ | ⟨g, off, cap, cur, rfl, _⟩
  · exact ⟨none, 0, rfl, fun h => absurd rfl h⟩
  · exact ⟨_, cap, rfl, fun _ => ⟨g, off, rfl⟩⟩
theorem QRow.set (h : QRow w v xs) (p : Addr) (u : Value) (hv : v.ownBlock ≠ some p.block) : QRow (w.setCell p u) v xs :=
  h.fr (fp := fun k => k = p.block) ((Fr.refl _ _).setCell _ _ (fun _ => rfl)) (fun k hk e => hv (by rw [hk, e]))
theorem run_append_q (t ty : TypeId) (i : TypeInfo) (ht : Try.prog.underlying t = some (.slice TU)) (hi : Try.prog.info? TU = some i) (hz : i.zero = some (.int .u64 0)) (hsz : i.size = 1) (hby : i.bytes = 8)
    (h : QRow w v xs) (hl : xs.length ≤ 1000000) (a : Addr) (c : Nat) (y : Int) (hn : ∀ (j : Nat) u, [u64v y][j]? = some u → w.cell? (a.add j) = some u) :
    ∃ a' c' w', (Builtin.append_ #[t, t] ty #[v, .slice (some a) 1 c]).run Try.prog w = .ok (.slice (some a') (xs.length + 1) c') w' ∧ QRow w' (.slice (some a') (xs.length + 1) c') (xs ++ [y]) ∧ w.grownBy w' v.ownBlock ∧ (v.ownBlock = some a'.block ∨ a'.block = w.heap.size) := by
  have hml : (9223372036854775807 : Nat) = maxLen := rfl
  rcases h with ⟨rfl, rfl⟩ | ⟨g, off, cap, cur, rfl, h1, h2, h3, h4, h5⟩
  · have hr := run_append_nil (P := Try.prog) w t ty TU i _ ht hi hz a 1 c [u64v y] (by simp [hsz]) hn (by omega) (by omega) (by rw [hby]; omega)
    refine ⟨_, _, _, hr, .inr ⟨_, 0, grownCap w 1 0 TU, _, rfl, heap_alloc_new w.drew _, grownCap_ge w 1 0 TU, grownCap_le_maxLen w 1 0 TU (by unfold maxLen; omega), ?_, ?_⟩, ⟨rfl, rfl, rfl, by simp, fun k hk _ => (by first | exact heap_alloc_old w.drew _ k hk | exact heap_alloc_old w.drew _ hk)⟩, .inr rfl⟩
    · have := grownCap_ge w 1 0 TU
      simp [Value.cells, size_zeroCells]
      omega
    · intro j x hj
      have : j = 0 := by
        have := (List.getElem?_eq_some_iff.1 hj).1
        simp at this
        exact this
      subst this
      simp at hj
      subst hj
      show (#[u64v y] ++ Builtin.zeroCells (Value.int IntKind.u64 0).cells (grownCap w 1 0 TU - 1))[0]? = some (u64v y)
      rw [Array.getElem?_append_left (by simp)]
      rfl
  · by_cases hroom : xs.length + 1 ≤ cap
    · have hlt : ∀ j, j < xs.length + 1 → off + j < cur.size := fun j hj => by omega
      have hc : ∀ j, j < [u64v y].length → (w.cell? ⟨g, off + xs.length * i.size + j, none⟩).isSome = true := fun j hj => by
        simp at hj
        subst hj
        rw [hsz, Nat.mul_one, Nat.add_zero, cell_of_row w g _ _ _ _ h1]
        have := hlt xs.length (by omega)
        simp [this]
      have hf : ∀ j, j < [u64v y].length → w.frozen? ⟨g, off + xs.length * i.size + j, none⟩ = false := fun j _ => frozen_of_row w g _ _ _ h1
      have hr := run_append_room_src (P := Try.prog) w t t ty TU i ht hi g off xs.length cap (.slice (some a) 1 c) 1 [u64v y] (Src.ofSlice w ht a 1 c [u64v y] (by simp [hsz]) hn (by simp [Value.oneCell'])) hroom hc hf
      rw [hsz, Nat.mul_one] at hr
      have hset : w.setCells g (off + xs.length) [u64v y] = w.setCell ⟨g, off + xs.length, none⟩ (u64v y) := rfl
      rw [hset] at hr
      refine ⟨_, _, _, hr, .inr ⟨g, off, cap, cur.setIfInBounds (off + xs.length) (u64v y), by simp, heap_setCell_same _ _ _ _ _ _ h1, by simp; omega, h3, by simpa using h4, ?_⟩, ⟨rfl, rfl, rfl, by simp, fun k _ hk => Below.heap_setCell _ _ _ _ (fun e => hk (by rw [e]; rfl))⟩, .inl rfl⟩
      intro j x hj
      by_cases e : j < xs.length
      · rw [List.getElem?_append_left e] at hj
        rw [Array.getElem?_setIfInBounds_ne (by omega)]
        exact h5 j x hj
      · have hj2 := (List.getElem?_eq_some_iff.1 hj).1
        simp at hj2
        have : j = xs.length := by omega
        subst this
        simp at hj
        subst hj
        rw [Array.getElem?_setIfInBounds_self]
        have := hlt xs.length (by omega)
        simp [this]
    · have holds : ∀ (j : Nat) u, (xs.map u64v)[j]? = some u → w.cell? ((⟨g, off, none⟩ : Addr).add j) = some u := fun j u hu => by
        rw [List.getElem?_map, Option.map_eq_some_iff] at hu
        obtain ⟨x, hx, rfl⟩ := hu
        rw [Addr.add_lit, cell_of_row w g _ _ _ _ h1]
        exact h5 j x hx
      have hr := run_append_grow (P := Try.prog) w t ty TU i _ ht hi hz ⟨g, off, none⟩ xs.length cap (xs.map u64v) (by simp [hsz]) holds a 1 c [u64v y] (by simp [hsz]) hn (by omega) (by omega) (growslice_fits (by omega) (by rw [hby]; omega))
      refine ⟨_, _, _, hr, .inr ⟨_, 0, grownCap w (xs.length + 1) cap TU, _, by rw [List.length_append]; rfl, heap_alloc_new w.drew _, by rw [List.length_append]; exact grownCap_ge w (xs.length + 1) cap TU, grownCap_le_maxLen w (xs.length + 1) cap TU (by unfold maxLen; omega), ?_, ?_⟩, ⟨rfl, rfl, rfl, by simp, fun k hk _ => (by first | exact heap_alloc_old w.drew _ k hk | exact heap_alloc_old w.drew _ hk)⟩, .inr rfl⟩
      · have := grownCap_ge w (xs.length + 1) cap TU
        simp [Value.cells, size_zeroCells]
        omega
      · intro j x hj
        have e : ((xs ++ [y]).map u64v)[j]? = some (u64v x) := by rw [List.getElem?_map, hj]; rfl
        rw [Nat.zero_add, ← Array.getElem?_toList]
        simp only [Array.toList_append]
        rw [List.getElem?_append_left (by
          have := (List.getElem?_eq_some_iff.1 hj).1
          simp at this ⊢
          omega)]
        simpa using e
theorem wpList_append_q {ops : Array Oper} {rest : List Oper} {o : Oper} {a : Act} {Q : Exit → Act → World → Prop} (hgd : o.guard = none) (s x : Operand) (t : TypeId)
    (ho : o.op = .call { callee := .builtin .append, args := #[s, x], argTypes := #[t, t] }) (i : TypeInfo) (ht : Try.prog.underlying t = some (.slice TU)) (hi : Try.prog.info? TU = some i) (hz : i.zero = some (.int .u64 0)) (hsz : i.size = 1) (hby : i.bytes = 8)
    (v : Value) (xs : List Int) (hs : a.eval s = v) (h : QRow w v xs) (hl : xs.length ≤ 1000000) (ad : Addr) (c : Nat) (y : Int) (hx : a.eval x = .slice (some ad) 1 c) (hn : ∀ (j : Nat) u, [u64v y][j]? = some u → w.cell? (ad.add j) = some u)
    (hK : ∀ a' c' w', QRow w' (.slice (some a') (xs.length + 1) c') (xs ++ [y]) → w.grownBy w' v.ownBlock → (v.ownBlock = some a'.block ∨ a'.block = w.heap.size) → wpList Try.prog ops Q rest (a.put o.dst (.slice (some a') (xs.length + 1) c')) w') :
    wpList Try.prog ops Q (o :: rest) a w := by
  refine wpList_plain hgd fun K hK2 => ?_
  obtain ⟨a', c', w', hr, h2, h3, h4⟩ := run_append_q t o.type i ht hi hz hsz hby h hl ad c y hn
  unfold Oper.wp execOp
  simp only [ho, resolve, invoke, builtin, Sem.run_bind, Sem.run_pure, Result.andThen_ok, List.map_toArray, List.map_cons, List.map_nil, hs, hx, hr]
  exact hK2 _ _ (hK a' c' w' h2 h3 h4)
end
/-- Who waits: wholes that are there, whose count is 0, each once. -/
structure WQ (L : HL) (ws : List Int) : Prop where
  nd : ws.Nodup
  is : ∀ x ∈ ws, ∃ o ∈ L, o.h = x ∧ o.outer = 0 ∧ o.count = 0
/-- What a call lets go of, in memory. -/
structure SwW (w : World) (q p : Nat) (F : Nat → Lab) (wv gv fv : Value) (ws gs fs : List Int) : Prop where
  hq : w.heap[q]? = some (.cells #[.pointer (some ⟨p, 0, none⟩), wv, gv, fv] 118 (0, 0))
  hw : QRow w wv ws
  hg : w.ownsRow 0 TU 1 gv gs.length (gs.map u64v)
  hf : w.ownsRow 0 TU 1 fv fs.length (fs.map u64v)
  lq : F q = (-2, 0)
  lw : ∀ k, wv.ownBlock = some k → F k = (-2, 1)
  lg : ∀ k, gv.ownBlock = some k → F k = (-2, 2)
  lf : ∀ k, fv.ownBlock = some k → F k = (-2, 3)
section
variable {w w' : World} {q p : Nat} {F F' : Nat → Lab} {wv gv fv : Value} {ws gs fs : List Int} {fp : Nat → Prop}
theorem SwW.c0 (h : SwW w q p F wv gv fv ws gs fs) : w.cell? ⟨q, 0, none⟩ = some (.pointer (some ⟨p, 0, none⟩)) := by rw [cell_of_row w q 0 _ _ _ h.hq]; rfl
theorem SwW.c1 (h : SwW w q p F wv gv fv ws gs fs) : w.cell? ⟨q, 1, none⟩ = some wv := by rw [cell_of_row w q 1 _ _ _ h.hq]; rfl
theorem SwW.c2 (h : SwW w q p F wv gv fv ws gs fs) : w.cell? ⟨q, 2, none⟩ = some gv := by rw [cell_of_row w q 2 _ _ _ h.hq]; rfl
theorem SwW.c3 (h : SwW w q p F wv gv fv ws gs fs) : w.cell? ⟨q, 3, none⟩ = some fv := by rw [cell_of_row w q 3 _ _ _ h.hq]; rfl
theorem SwW.fz (h : SwW w q p F wv gv fv ws gs fs) (k : Nat) : w.frozen? ⟨q, k, none⟩ = false := frozen_of_row w q k _ _ h.hq
theorem SwW.lt (h : SwW w q p F wv gv fv ws gs fs) : q < w.heap.size := (Array.getElem?_eq_some_iff.1 h.hq).1
theorem SwW.fr (h : SwW w q p F wv gv fv ws gs fs) (hf : Fr fp w w') (hd : ∀ k j, F k = (-2, j) → ¬ fp k) (hF : ∀ k, k < w.heap.size → F' k = F k) : SwW w' q p F' wv gv fv ws gs fs :=
  ⟨by rw [hf.block q h.lt (hd q 0 h.lq)]; exact h.hq, h.hw.fr hf (fun k hk => hd k 1 (h.lw k hk)), hf.owns h.hg (fun k hk => hd k 2 (h.lg k hk)), hf.owns h.hf (fun k hk => hd k 3 (h.lf k hk)),
    by rw [hF q h.lt]; exact h.lq, fun k hk => by rw [hF k (h.hw.lt k hk)]; exact h.lw k hk, fun k hk => by rw [hF k (h.hg.lt k hk).2]; exact h.lg k hk, fun k hk => by rw [hF k (h.hf.lt k hk).2]; exact h.lf k hk⟩
theorem SwW.relab (h : SwW w q p F wv gv fv ws gs fs) (hF : ∀ k, k < w.heap.size → F' k = F k) : SwW w q p F' wv gv fv ws gs fs :=
  h.fr (fp := fun _ => False) (Fr.refl _ _) (fun _ _ _ e => e) hF
end
/-- What is F's may have turned. -/
def FrF (F : Nat → Lab) (w w' : World) : Prop := Fr (fun k => F k ≠ outL) w w'
theorem FrF.refl (F : Nat → Lab) (w : World) : FrF F w w := Fr.refl _ _
theorem FrF.trans {F F1 : Nat → Lab} {w w1 w2 : World} (h : FrF F w w1) (k : FrF F1 w1 w2) (hF : ∀ k, k < w.heap.size → F1 k = F k) : FrF F w w2 :=
  Fr.trans h k (fun j hj hl => by rw [← hF j hl]; exact hj)
end Go.Proofs.Ytmampaglemleoaa

namespace Go.Proofs.Ytmampaglemleoaa
open Go Go.ChangeShapes Go.WideShapes Go.ChangeAt Go.RowKit

section
variable {w w' : World} {q p pa : Nat} {Sa : Nat → Prop} {AA : Ar} {F : Nat → Lab} {B : Int → Nat} {top : Int} {L : HL} {wv gv fv : Value} {ws gs fs : List Int}
theorem SwW.ne (h : SwW w q p F wv gv fv ws gs fs) {k : Nat} {l : Lab} (hk : F k = l) (hl : l.1 ≠ -2) : k ≠ q := fun e => by
  rw [e, h.lq] at hk
  subst hk
  exact hl rfl
def WaitPost (w : World) (q p pa : Nat) (Sa : Nat → Prop) (AA : Ar) (F : Nat → Lab) (B : Int → Nat) (top : Int) (L : HL) (gv fv : Value) (ws gs fs : List Int) (x : Int) (e : Ending) (w' : World) : Prop :=
  (∃ v, e = .returned v) ∧ ∃ F' wv', HpW w' p pa Sa AA F' B top (Go.Proofs.Ytmampaglemleoaa.setc L x 0) ∧ SwW w' q p F' wv' gv fv (ws ++ [x]) gs fs ∧ (∀ k, k < w.heap.size → F' k = F k) ∧ FrF F w w'
set_option maxRecDepth 100000 in
theorem wait_any (h : HpW w p pa Sa AA F B top L) (hs : SwW w q p F wv gv fv ws gs fs) (hn : Nd L) {x : Ob} (hx : x ∈ L) (hl : ws.length ≤ 1000000) :
    Calls Try.prog 56 #[.pointer (some ⟨q, 0, none⟩), .int .u64 x.h] w (WaitPost w q p pa Sa AA F B top L gv fv ws gs fs x.h) := by
  have hzx := h.bd hx
  obtain ⟨sv, iv, c, hbx⟩ := h.ob x hx
  have cq0 := hs.c0
  have cx4 := hbx.c4
  have zx4 := hbx.fz 4
  have hnq := hs.ne hbx.fb (by simp; omega)
  have h2 := h.setc hn hx 0
  have hfr : Fr (fun k => k = B x.h) w (w.setCell ⟨B x.h, 4, none⟩ (.int .u32 0)) := (Fr.refl _ _).setCell _ _ (fun _ => rfl)
  have hs2 : SwW (w.setCell ⟨B x.h, 4, none⟩ (.int .u32 0)) q p F wv gv fv ws gs fs := hs.fr hfr (fun k j e ek => by
    subst ek
    rw [hbx.fb] at e
    have := congrArg Prod.fst e
    simp at this
    omega) (fun _ _ => rfl)
  obtain ⟨i0, hi, hz0, hz1, hz2⟩ := info_parts infoU0
  have HI := hid hi
  have HZ0 := hid hz0
  have HZ1 := hid hz1
  have HZ2 := hid hz2
  have HF := hid (find_some h hx)
  have hfbx := hbx.fb
  obtain ⟨w1, hw1⟩ : ∃ w1, w1 = w.setCell ⟨B x.h, 4, none⟩ (.int .u32 0) := ⟨_, rfl⟩
  rw [← hw1] at h2 hfr hs2
  have cq1 := hs2.c1
  have zq1 := hs2.fz 1
  have hql := hs2.lt
  have hnw : wv.ownBlock ≠ some q := fun e => by have := hs2.lw _ e; rw [hs2.lq] at this; cases this
  have H2 := hid h2
  have HS2 := hid hs2
  have HFR := hid hfr
  have HW1 := hid hw1
  have HNW := hid hnw
  have HFB := hid hfbx
  have HQ := hid hs2.hw
  obtain ⟨wa, wc, hwv, _⟩ := hs2.hw.form
  subst hwv
  have HXB := hid hzx.1
  clear h hs hn hx hbx h2 hs2 hfr hw1 hi hz0 hz1 hz2 hnw hfbx
  generalize x.h = xh at *
  generalize hlen : ws.length = n at *
  have HL := hid hlen
  clear hlen
  go_enter Try.func56, Try.ntmps56
  go_wp2_with fail
  refine HF.out.mono ?_
  rintro e w0 ⟨rfl, rfl⟩
  go_upto_region 1 with fail
  rw [← HW1.out]
  go_wp2_with (at_builtin; go_loud (refine wpList_append_q rfl (.tmp 16) (.tmp 18) 43 rfl i0 Try.underlying43 HI.out HZ0.out HZ1.out HZ2.out (.slice wa n wc) ws rfl (QRow.fr (fp := fun _ => False) HQ.out ((Fr.refl _ _).alloc _) (fun _ _ e => e)) (by rw [HL.out]; exact hl) ⟨w1.heap.size, 0, none⟩ 1 xh rfl (cell_one_new _ _ _) ?_; intro a' c' w2 hq2 hg2 hat2; rw [HL.out] at hq2 ⊢; have hb2 : w2.heap[q]? = w1.heap[q]? := (by rw [hg2.block _ (by simp; omega) (fun e => HNW.out e.symm)]; exact Below.heap_alloc _ _ _ hql); have d1 : w2.cell? ⟨q, 1, none⟩ = some (.slice wa n wc) := (World.cell?_of_block hb2).trans cq1; have z1 : w2.frozen? ⟨q, 1, none⟩ = false := (World.frozen?_of_block hb2).trans zq1; have HQ2 := hid hq2; have HG2 := hid hg2; have HA2 := hid hat2; have HB2 := hid hb2; clear hq2 hg2 hat2 hb2))
  obtain ⟨v2, hv2⟩ : ∃ v2, v2 = Value.slice (some a') (n + 1) c' := ⟨_, rfl⟩
  rw [← hv2] at HQ2
  have hob : v2.ownBlock = some a'.block := by rw [hv2]; rfl
  have HV2 := hid hv2
  clear hv2
  go_end0
  rw [← HV2.out]
  have hs2 := HS2.out
  have hfr12 : Fr (fun k => k = q ∨ (Value.slice wa n wc).ownBlock = some k) w1 (w2.setCell ⟨q, 1, none⟩ v2) :=
    (((Fr.refl _ _).alloc _).grown HG2.out (fun k hk _ => .inr hk)).setCell _ _ (fun _ => .inl rfl)
  have hlab : ∀ k, (k = q ∨ (Value.slice wa n wc).ownBlock = some k) → F k = (-2, 0) ∨ F k = (-2, 1) := fun k hk => by
    rcases hk with rfl | hk
    · exact .inl hs2.lq
    · exact .inr (hs2.lw k hk)
  have hsz : w.heap.size = w1.heap.size := by rw [HW1.out]; simp
  have hxb := HXB.out
  refine ⟨⟨_, rfl⟩, nw F w1.heap.size (-2, 1), v2, H2.out.fr hfr12 (fun e => ?_) (fun k e ek => ?_) (fun o ho k j e ek => ?_) (fun k hk => nw_lt hk), ⟨?_, ?_, ?_, ?_, ?_, ?_, ?_, ?_⟩, fun k hk => nw_lt (by omega), ?_⟩
  · rcases hlab p e with e2 | e2 <;> (rw [H2.out.fp] at e2; cases e2)
  · rcases hlab k ek with e2 | e2 <;> (rw [e] at e2; cases e2)
  · have hb := H2.out.bd ho
    rcases hlab k ek with e2 | e2 <;> (rw [e] at e2; have := congrArg Prod.fst e2; simp at this; omega)
  · rw [heap_setCell_same _ _ _ _ _ _ (HB2.out.trans hs2.hq)]; rfl
  · exact HQ2.out.set _ _ (fun e => by
      rw [hob] at e
      simp only [Option.some.injEq] at e
      rcases HA2.out with e2 | e2
      · rw [e] at e2; exact HNW.out e2
      · simp at e2; omega)
  · exact hfr12.owns hs2.hg (fun k hk e => by
      have h1 := hs2.lg k hk
      rcases hlab k e with e2 | e2 <;> (rw [h1] at e2; cases e2))
  · exact hfr12.owns hs2.hf (fun k hk e => by
      have h1 := hs2.lf k hk
      rcases hlab k e with e2 | e2 <;> (rw [h1] at e2; cases e2))
  · rw [nw_lt hql]; exact hs2.lq
  · intro k hk
    rw [hob] at hk
    simp only [Option.some.injEq] at hk
    by_cases e : k < w1.heap.size
    · rw [nw_lt e]
      rcases HA2.out with e2 | e2
      · rw [hk] at e2; exact hs2.lw k e2
      · simp at e2; omega
    · exact nw_ge (by omega)
  · intro k hk
    rw [nw_lt (hs2.hg.lt k hk).2]; exact hs2.lg k hk
  · intro k hk
    rw [nw_lt (hs2.hf.lt k hk).2]; exact hs2.lf k hk
  · refine Fr.trans (HFR.out.mono (fp2 := fun k => F k ≠ outL) (fun k hk _ => ?_)) hfr12 (fun k hk _ => ?_)
    · rw [hk, HFB.out]
      intro e
      have := congrArg Prod.fst e
      simp [outL] at this
      omega
    · rcases hlab k hk with e | e <;> (rw [e]; simp [outL])
end
end Go.Proofs.Ytmampaglemleoaa

namespace Go.Proofs.Ytmampaglemleoaa
open Go Go.ChangeShapes Go.WideShapes Go.ChangeAt Go.RowKit

theorem let1_none {L : HL} {h : Int} (e : whl L h = none) : let1 L ⟨1, h⟩ = (L, [], []) := by
  unfold let1
  simp [e]
theorem let1_some {L : HL} {h : Int} {x : Ob} (e : whl L h = some x) : let1 L ⟨1, h⟩ = if x.count = 0 then (L, [], []) else (setc L x.h (x.count - 1), if x.count = 1 then [x.h] else [], []) := by
  unfold let1
  simp [e]
theorem let1_for {L : HL} {h : Int} : let1 L ⟨2, h⟩ = (L, [], [h]) := by
  unfold let1
  simp
theorem let1_oth {L : HL} {l : Lk} (h1 : l.kind ≠ 1) (h2 : l.kind ≠ 2) : let1 L l = (L, [], []) := by
  unfold let1
  simp [h1, h2]
def LetPost (w : World) (q p pa : Nat) (Sa : Nat → Prop) (AA : Ar) (F : Nat → Lab) (B : Int → Nat) (top : Int) (L : HL) (gv : Value) (ws gs fs : List Int) (l : Lk) (e : Ending) (w' : World) : Prop :=
  (∃ v, e = .returned v) ∧ ∃ F' wv' fv', HpW w' p pa Sa AA F' B top (let1 L l).1 ∧ SwW w' q p F' wv' gv fv' (ws ++ (let1 L l).2.1) gs (fs ++ (let1 L l).2.2) ∧ (∀ k, k < w.heap.size → F' k = F k) ∧ FrF F w w'
section
variable {w w' : World} {q p pa : Nat} {Sa : Nat → Prop} {AA : Ar} {F : Nat → Lab} {B : Int → Nat} {top : Int} {L : HL} {wv gv fv : Value} {ws gs fs : List Int}
theorem LetPost.same (h : HpW w p pa Sa AA F B top L) (hs : SwW w q p F wv gv fv ws gs fs) {l : Lk} (e : let1 L l = (L, [], [])) (v : Value) : LetPost w q p pa Sa AA F B top L gv ws gs fs l (.returned v) w := by
  refine ⟨⟨v, rfl⟩, F, wv, fv, ?_, ?_, fun _ _ => rfl, FrF.refl _ _⟩
  · rw [e]; exact h
  · rw [e]; simpa using hs
set_option maxRecDepth 100000 in
theorem letObject_any (h : HpW w p pa Sa AA F B top L) (hs : SwW w q p F wv gv fv ws gs fs) (hi : HIn top L) (htop : top ≤ 4294967295) {hd : Int} (hh : Hn hd) (hl : ws.length ≤ 1000000) :
    Calls Try.prog 66 #[.pointer (some ⟨q, 0, none⟩), .int .u64 hd] w (LetPost w q p pa Sa AA F B top L gv ws gs fs ⟨1, hd⟩) := by
  have cq0 := hs.c0
  cases hw : whl L hd with
  | none =>
    have HW := hid (Whole_none h ((whl_none hi).1 hw) hh)
    have HP := hid (LetPost.same h hs (let1_none hw))
    clear h hs hi htop hh hl hw
    go_enter Try.func66, Try.ntmps66
    go_wp2_with (refine HW.out.mono ?_; rintro e w1 ⟨rfl, rfl⟩)
    go_end0
    exact HP.out _
  | some x =>
    obtain ⟨hx, hx0⟩ := whl_some hi hw
    obtain ⟨sv, iv, c, hbx⟩ := h.ob x hx
    have hcb := hi.cnt x hx
    have cx4 := hbx.c4
    have zx4 := hbx.fz 4
    rw [hbx.hc hx0] at cx4
    have HW := hid (Whole_some h hi hw)
    have HF := hid (find_some h hx)
    by_cases h0 : x.count = 0
    · have HP := hid (LetPost.same h hs ((let1_some hw).trans (if_pos h0)))
      rw [h0] at cx4
      generalize x.h = xh at *
      clear h hs hi htop hh hl hw hx hx0 hbx hcb
      go_enter Try.func66, Try.ntmps66
      go_wp2_with fail
      refine HW.out.mono ?_
      rintro e w1 ⟨rfl, rfl⟩
      go_wp2_with (refine HF.out.mono ?_; rintro e w1 ⟨rfl, rfl⟩)
      go_end0
      exact HP.out _
    · by_cases h1 : x.count = 1
      · have hwt := wait_any h hs hi.nd hx hl
        have HWT := hid hwt
        have hlt : let1 L ⟨1, hd⟩ = (setc L x.h 0, [x.h], []) := (let1_some hw).trans (by rw [if_neg h0, if_pos h1, h1]; rfl)
        have HLT := hid hlt
        rw [h1] at cx4
        generalize x.h = xh at *
        clear h hs hi htop hh hl hw hx hx0 hbx hcb h0 h1 hwt hlt
        go_enter Try.func66, Try.ntmps66
        go_wp2_with fail
        refine HW.out.mono ?_
        rintro e w1 ⟨rfl, rfl⟩
        go_wp2_with fail
        refine HF.out.mono ?_
        rintro e w1 ⟨rfl, rfl⟩
        go_wp2_with fail
        refine HWT.out.mono ?_
        rintro e w2 ⟨⟨v, rfl⟩, F', wv', k1, k2, k3, k4⟩
        have HK := hid (show LetPost w q p pa Sa AA F B top L gv ws gs fs ⟨1, hd⟩ (.returned (.tuple #[])) w2 from ⟨⟨_, rfl⟩, F', wv', fv, by rw [HLT.out]; exact k1, by rw [HLT.out]; simpa using k2, k3, k4⟩)
        clear k1 k2 k3 k4
        go_wp2
        go_end0
        obtain ⟨_, hk⟩ := HK.out
        exact ⟨⟨_, rfl⟩, hk⟩
      · have hlt : let1 L ⟨1, hd⟩ = (setc L x.h (x.count - 1), [], []) := (let1_some hw).trans (by rw [if_neg h0, if_neg h1])
        have hset := h.setc hi.nd hx (x.count - 1)
        have hfr : Fr (fun k => k = B x.h) w (w.setCell ⟨B x.h, 4, none⟩ (.int .u32 (x.count - 1))) := (Fr.refl _ _).setCell _ _ (fun _ => rfl)
        have hxb := (h.bd hx).1
        have hs2 : SwW (w.setCell ⟨B x.h, 4, none⟩ (.int .u32 (x.count - 1))) q p F wv gv fv ws gs fs := hs.fr hfr (fun k j e ek => by
          subst ek
          rw [hbx.fb] at e
          have := congrArg Prod.fst e
          simp at this
          omega) (fun _ _ => rfl)
        have hfin : LetPost w q p pa Sa AA F B top L gv ws gs fs ⟨1, hd⟩ (.returned (.tuple #[])) (w.setCell ⟨B x.h, 4, none⟩ (.int .u32 (x.count - 1))) :=
          ⟨⟨_, rfl⟩, F, wv, fv, by rw [hlt]; exact hset, by rw [hlt]; simpa using hs2, fun _ _ => rfl, hfr.mono (fun k hk _ => by
            rw [hk, hbx.fb]
            intro e
            have := congrArg Prod.fst e
            simp [outL] at this
            omega)⟩
        have HFIN := hid hfin
        have hwr : IntKind.u32.wrap (x.count - 1) = x.count - 1 := IntWalk.u32_in _ (by omega)
        have hd1 : decide (1 < x.count) = true := by simp; omega
        generalize x.count = cn at *
        generalize x.h = xh at *
        clear h hs hi htop hh hl hw hx hx0 hbx hcb h0 h1 hlt hset hfr hs2 hfin hxb
        go_enter Try.func66, Try.ntmps66
        go_wp2_with fail
        refine HW.out.mono ?_
        rintro e w1 ⟨rfl, rfl⟩
        go_wp2_with (refine HF.out.mono ?_; rintro e w1 ⟨rfl, rfl⟩)
        go_end0
        obtain ⟨_, hk⟩ := HFIN.out
        exact ⟨⟨_, rfl⟩, hk⟩
theorem LetPost.after {w1 : World} {F1 : Nat → Lab} {l : Lk} {e : Ending} (h : LetPost w1 q p pa Sa AA F1 B top L gv ws gs fs l e w') (hf : FrF F w w1) (hF : ∀ k, k < w.heap.size → F1 k = F k) : LetPost w q p pa Sa AA F B top L gv ws gs fs l e w' := by
  obtain ⟨h1, F', wv', fv', k1, k2, k3, k4⟩ := h
  exact ⟨h1, F', wv', fv', k1, k2, fun k hk => by rw [k3 k (Nat.lt_of_lt_of_le hk hf.size)]; exact hF k hk, FrF.trans hf k4 hF⟩
set_option maxRecDepth 100000 in
set_option maxHeartbeats 1000000 in
/-- letGo: any link. -/
theorem letGo_any (h : HpW w p pa Sa AA F B top L) (hs : SwW w q p F wv gv fv ws gs fs) (hi : HIn top L) (htop : top ≤ 4294967295) (l : Lk) (hh : Hn l.h) (hk : Nm l.kind) (hl : ws.length ≤ 1000000) (hlf : fs.length ≤ 1000000) :
    Calls Try.prog 52 #[.pointer (some ⟨q, 0, none⟩), .agg #[.int .i64 l.kind, .int .u64 l.h]] w (LetPost w q p pa Sa AA F B top L gv ws gs fs l) := by
  obtain ⟨lk, lh⟩ := l
  simp only at hh hk ⊢
  obtain ⟨w1, hw1⟩ : ∃ w1, w1 = w.alloc (.cells #[.int .i64 lk, .int .u64 lh] 67) := ⟨_, rfl⟩
  have hb1 : Below w.heap.size w w1 := by rw [hw1]; exact (Below.refl _ _).alloc (Nat.le_refl _) _
  have hbx : w1.heap[w.heap.size]? = some (.cells #[.int .i64 lk, .int .u64 lh] 67 (0, 0)) := by rw [hw1]; exact heap_alloc_new _ _
  have c0 : w1.cell? ⟨w.heap.size, 0, none⟩ = some (.int .i64 lk) := by rw [cell_of_row w1 _ 0 _ _ _ hbx]; rfl
  have c1 : w1.cell? ⟨w.heap.size, 1, none⟩ = some (.int .u64 lh) := by rw [cell_of_row w1 _ 1 _ _ _ hbx]; rfl
  have h1 : HpW w1 p pa Sa AA F B top L := h.fr (fp := fun _ => False) (Fr.of_below hb1) (fun e => e) (fun _ _ e => e) (fun _ _ _ _ _ e => e) (fun _ _ => rfl)
  have hs1 : SwW w1 q p F wv gv fv ws gs fs := hs.fr (fp := fun _ => False) (Fr.of_below hb1) (fun _ _ _ e => e) (fun _ _ => rfl)
  have hf1 : FrF F w w1 := Fr.of_below hb1
  by_cases k1 : lk = 1
  · subst k1
    have HO := hid (letObject_any h1 hs1 hi htop hh hl)
    have HF1 := hid hf1
    have HW1 := hid hw1
    clear h hs hi htop hk hl h1 hs1 hf1 hw1 hb1 hbx hlf
    go_enter Try.func52, Try.ntmps52
    go_upto_region 1 with fail
    rw [← HW1.out]
    go_wp2_with fail
    refine HO.out.mono ?_
    intro e w2 hp
    obtain ⟨v, rfl⟩ := hp.1
    have HP := hid (hp.after HF1.out (fun _ _ => rfl))
    clear hp
    go_wp2
    go_end0
    obtain ⟨_, hk⟩ := HP.out
    exact ⟨⟨_, rfl⟩, hk⟩
  · by_cases k2 : lk = 2
    · subst k2
      obtain ⟨i0, hii, hz0, hz1, hz2⟩ := info_parts infoU0
      have HI := hid hii
      have HZ0 := hid hz0
      have HZ1 := hid hz1
      have HZ2 := hid hz2
      have cq3 := hs1.c3
      have zq3 := hs1.fz 3
      have hql := hs1.lt
      have hnb : fv.ownBlock ≠ some w.heap.size := fun e => by have := (hs.hf.lt _ e).2; omega
      have hnf : fv.ownBlock ≠ some q := fun e => by have := hs1.lf _ e; rw [hs1.lq] at this; cases this
      obtain ⟨fa, fc, hfv⟩ := own_form hs1.hf
      subst hfv
      have HS1 := hid hs1
      have H1 := hid h1
      have HF1 := hid hf1
      have HW1 := hid hw1
      have HNF := hid hnf
      have HB1 := hid hb1
      have hbl : w.heap.size < w1.heap.size := by rw [hw1]; simp
      have HROW := hid hs1.hf
      obtain ⟨bx, hbxe⟩ : ∃ bx, bx = w.heap.size := ⟨_, rfl⟩
      rw [← hbxe] at c0 c1 hbl hnb
      have HNB := hid hnb
      have HBX := hid hbxe
      clear h hs hi htop hh hk hl h1 hs1 hf1 hw1 hb1 hbx hii hz0 hz1 hz2 hnf k1 hbxe hnb
      generalize hm : fs.length = m at *
      have HM := hid hm
      clear hm
      go_enter Try.func52, Try.ntmps52
      go_upto_region 1 with fail
      rw [← HW1.out, ← HBX.out]
      go_upto_region 5 with fail
      refine wp_region_mix [0, 0, 0, 0, 1, 0, 1, 2, 2, 0, 0, 3] (fun W => W.cell? ⟨q, 3, none⟩ = some (.slice fa m fc) ∧ W.cell? ⟨bx, 1, none⟩ = some (.int .u64 lh)) (by kernel_rfl) (by kernel_rfl) ⟨by simpa using cq3, by simpa using c1⟩ ?_
      repeat (first
        | (refine' wpMix_value _ rfl rfl _ _; rotate_left; (solve | (intro W; go_simp) | (intro W; go_simp; with_reducible rfl)); simp only [Act.put, List.setIfInBounds_toArray, List.set_cons_zero, List.set_cons_succ])
        | (refine' wpMix_read _ rfl rfl _ _; rotate_left; (solve | (rintro W ⟨h1, h2⟩; go_simp) | (rintro W ⟨h1, h2⟩; go_simp; with_reducible rfl)); simp only [Act.put, List.setIfInBounds_toArray, List.set_cons_zero, List.set_cons_succ]))
      obtain ⟨w2, hw2⟩ : ∃ w2, w2 = w1.drew := ⟨_, rfl⟩
      rw [← hw2]
      have q2 : w2.cell? ⟨q, 3, none⟩ = some (.slice fa m fc) := by rw [hw2]; simpa using cq3
      have x2 : w2.cell? ⟨bx, 1, none⟩ = some (.int .u64 lh) := by rw [hw2]; simpa using c1
      have e2 : w2.heap = w1.heap := by rw [hw2]; rfl
      have hq2 : q < w2.heap.size := by rw [e2]; exact hql
      have hx2 : bx < w2.heap.size := by rw [e2]; exact hbl
      have HR2 := hid (show w2.ownsRow 0 TU 1 (.slice fa m fc) m (fs.map u64v) by rw [hw2]; exact HROW.out)
      have HW2 := hid hw2
      have HE2 := hid e2
      clear hw2 e2
      refine wpMix_write (.slice (some ⟨w2.heap.size, 0, none⟩) 1 1) (w2.alloc (.cells #[.int .u64 lh] TU)) (by decide) rfl ?nrun1 ?nS1 ?nrest1
      case nrun1 => go_simp
      case nS1 => exact fun _ => ⟨by rw [World.cell?_of_block (Below.heap_alloc _ _ _ hq2)]; exact q2, by rw [World.cell?_of_block (Below.heap_alloc _ _ _ hx2)]; exact x2⟩
      simp only [Act.put, List.setIfInBounds_toArray, List.set_cons_zero, List.set_cons_succ]
      refine wpMix_append (by decide) rfl (.tmp 18) (.tmp 21) 43 rfl 0 TU i0 (.int .u64 0) 1 8 Try.underlying43 HI.out HZ0.out HZ1.out HZ2.out rfl (by decide) (.slice fa m fc) m (fs.map u64v) rfl (HR2.out.alloc _) ⟨w2.heap.size, 0, none⟩ 1 1 [.int .u64 lh] rfl rfl (cell_one_new _ _ _) (by simp [Value.oneCell']) (by decide) (by unfold maxLen; omega) (by omega) (Nat.zero_le _) (w2.heap.size + 1) (by simp) ?_
      intro g3 k3 w3 hown3 hgrow3 hat3 _
      have hb3 : w3.heap[q]? = w2.heap[q]? := by
        rw [hgrow3.block q (by simp; omega) (fun e => HNF.out e.symm)]; exact Below.heap_alloc _ _ _ hq2
      have q3 : w3.cell? ⟨q, 3, none⟩ = some (.slice fa m fc) := (World.cell?_of_block hb3).trans q2
      have z3 : w3.frozen? ⟨q, 3, none⟩ = false := by rw [World.frozen?_of_block hb3, HW2.out]; exact zq3
      have HO := hid hown3
      have HG := hid hgrow3
      have HA := hid hat3
      have HB3 := hid hb3
      refine ⟨fun e => ?_, ?_⟩
      · refine ⟨q3, ?_⟩
        rw [World.cell?_of_block (hgrow3.block bx (by simp; omega) (fun e => HNB.out e.symm)), World.cell?_of_block (Below.heap_alloc _ _ _ hx2)]; exact x2
      clear hown3 hgrow3 hat3 hb3 q2 x2
      simp only [Act.put, List.setIfInBounds_toArray, List.set_cons_zero, List.set_cons_succ]
      repeat (first
        | (refine' wpMix_value _ rfl rfl _ _; rotate_left; (solve | (intro W; go_simp) | (intro W; go_simp; with_reducible rfl)); simp only [Act.put, List.setIfInBounds_toArray, List.set_cons_zero, List.set_cons_succ]))
      refine wpMix_skip (w3.setCell ⟨q, 3, none⟩ (.slice (some ⟨g3, 0, none⟩) (m + 1) k3)) (by decide) rfl ?nrun2 (fun h => by cases h) ?nrest2
      case nrun2 => go_simp
      simp only [Act.put]
      refine wpMix_end ?_
      go_wp2
      go_end0
      have hs1 := HS1.out
      have hsz : w2.heap.size = w1.heap.size := by rw [HE2.out]
      have hfr : Fr (fun k => k = q ∨ (Value.slice fa m fc).ownBlock = some k) w1 (w3.setCell ⟨q, 3, none⟩ (.slice (some ⟨g3, 0, none⟩) (m + 1) k3)) := by
        have h0 : Fr (fun k => k = q ∨ (Value.slice fa m fc).ownBlock = some k) w1 w2 := by rw [HW2.out]; exact (Fr.refl _ _).drew
        exact ((h0.alloc _).grown HG.out (fun k hk _ => .inr hk)).setCell _ _ (fun _ => .inl rfl)
      have hlab : ∀ k, (k = q ∨ (Value.slice fa m fc).ownBlock = some k) → F k = (-2, 0) ∨ F k = (-2, 3) := fun k hk => by
        rcases hk with rfl | hk
        · exact .inl hs1.lq
        · exact .inr (hs1.lf k hk)
      refine ⟨⟨_, rfl⟩, nw F w1.heap.size (-2, 3), wv, .slice (some ⟨g3, 0, none⟩) (m + 1) k3, ?_, ?_, fun k hk => nw_lt (Nat.lt_of_lt_of_le hk HB1.out.size), ?_⟩
      · rw [let1_for]
        refine H1.out.fr hfr (fun e => ?_) (fun k e ek => ?_) (fun o ho k j e ek => ?_) (fun k hk => nw_lt hk)
        · rcases hlab p e with e2 | e2 <;> (rw [H1.out.fp] at e2; cases e2)
        · rcases hlab k ek with e2 | e2 <;> (rw [e] at e2; cases e2)
        · have hb := H1.out.bd ho
          rcases hlab k ek with e2 | e2 <;> (rw [e] at e2; have := congrArg Prod.fst e2; simp at this; omega)
      · rw [let1_for]
        refine ⟨?_, ?_, ?_, ?_, ?_, ?_, ?_, ?_⟩
        · have e1 := hs1.hq
          rw [← HE2.out, ← HB3.out] at e1
          rw [heap_setCell_same _ _ _ _ _ _ e1]; rfl
        · rw [List.append_nil]
          exact hs1.hw.fr hfr (fun k hk e => by
            have h1 := hs1.lw k hk
            rcases hlab k e with e2 | e2 <;> (rw [h1] at e2; cases e2))
        · exact hfr.owns hs1.hg (fun k hk e => by
            have h1 := hs1.lg k hk
            rcases hlab k e with e2 | e2 <;> (rw [h1] at e2; cases e2))
        · have h1 := HO.out
          rw [List.length_append, List.map_append, HM.out]
          refine ownsRow_setCell_other h1 (fun e => ?_) _
          simp [Value.ownBlock] at e
          rcases HA.out with e2 | e2
          · rw [e] at e2; exact HNF.out e2
          · omega
        · rw [nw_lt hql]; exact hs1.lq
        · intro k hk
          rw [nw_lt (hs1.hw.lt k hk)]; exact hs1.lw k hk
        · intro k hk
          rw [nw_lt (hs1.hg.lt k hk).2]; exact hs1.lg k hk
        · intro k hk
          simp [Value.ownBlock] at hk
          subst hk
          by_cases e : g3 < w1.heap.size
          · rw [nw_lt e]
            rcases HA.out with e2 | e2
            · exact hs1.lf _ e2
            · omega
          · exact nw_ge (by omega)
      · refine FrF.trans HF1.out (Fr.mono hfr (fun k hk _ => ?_)) (fun _ _ => rfl)
        rcases hlab k hk with e | e <;> (rw [e]; simp [outL])
    · have HP := hid ((LetPost.same h1 hs1 (let1_oth (l := ⟨lk, lh⟩) k1 k2) (.tuple #[])).after hf1 (fun _ _ => rfl))
      have d1 : (lk == 1) = false := by simpa using k1
      have d2 : (lk == 2) = false := by simpa using k2
      have HW1 := hid hw1
      clear h hs hi htop hh hk hl h1 hs1 hf1 hw1 hb1 hbx hlf k1 k2
      go_enter Try.func52, Try.ntmps52
      go_upto_region 1 with fail
      rw [← HW1.out]
      go_wp2
      go_end0
      obtain ⟨_, hk⟩ := HP.out
      exact ⟨⟨_, rfl⟩, hk⟩
end
end Go.Proofs.Ytmampaglemleoaa
