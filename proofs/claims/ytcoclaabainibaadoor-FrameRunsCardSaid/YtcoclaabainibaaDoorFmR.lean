/-
  The plain twin's frame in memory; pop.
-/
import Derived.Test.YtcoclaabainibaaDoorFmE
namespace Go.Proofs.YtcoclaabainibaaDoor
open Go Go.ChangeShapes Go.WideShapes Go.ChangeAt Go.RowKit

abbrev TTw : TypeId := 34
structure TwW (w : World) (S : Nat → Prop) (p : Nat) (f : Fs) (qv sv : Value) : Prop where
  hp : w.heap[p]? = some (.cells #[qv, iv f.arg, nI f.p, sv, .bool f.calls, .bool f.over] TTw (0, 0))
  code : w.ownsRow 0 TIn 3 qv f.code.length (f.code.flatMap insc)
  row : w.ownsRow 0 TL 1 sv f.st.length (f.st.map iv)
  sp : S p
  sq : ∀ k, qv.ownBlock = some k → S k
  sr : ∀ k, sv.ownBlock = some k → S k
  sl : ∀ k, S k → k < w.heap.size
section
variable {w w' : World} {S fp : Nat → Prop} {p : Nat} {f : Fs} {qv sv : Value}
theorem TwW.c0 (h : TwW w S p f qv sv) : w.cell? ⟨p, 0, none⟩ = some qv := by rw [cell_of_row w p 0 _ _ _ h.hp]; rfl
theorem TwW.c1 (h : TwW w S p f qv sv) : w.cell? ⟨p, 1, none⟩ = some (iv f.arg) := by rw [cell_of_row w p 1 _ _ _ h.hp]; rfl
theorem TwW.c2 (h : TwW w S p f qv sv) : w.cell? ⟨p, 2, none⟩ = some (nI f.p) := by rw [cell_of_row w p 2 _ _ _ h.hp]; rfl
theorem TwW.c3 (h : TwW w S p f qv sv) : w.cell? ⟨p, 3, none⟩ = some sv := by rw [cell_of_row w p 3 _ _ _ h.hp]; rfl
theorem TwW.c4 (h : TwW w S p f qv sv) : w.cell? ⟨p, 4, none⟩ = some (.bool f.calls) := by rw [cell_of_row w p 4 _ _ _ h.hp]; rfl
theorem TwW.c5 (h : TwW w S p f qv sv) : w.cell? ⟨p, 5, none⟩ = some (.bool f.over) := by rw [cell_of_row w p 5 _ _ _ h.hp]; rfl
theorem TwW.fz (h : TwW w S p f qv sv) (k : Nat) : w.frozen? ⟨p, k, none⟩ = false := frozen_of_row w p k _ _ h.hp
theorem TwW.lt (h : TwW w S p f qv sv) : p < w.heap.size := (Array.getElem?_eq_some_iff.1 h.hp).1
theorem TwW.fr (h : TwW w S p f qv sv) (hf : Fr fp w w') (hd : ∀ k, S k → ¬ fp k) : TwW w' S p f qv sv :=
  ⟨(hf.block p h.lt (hd p h.sp)).trans h.hp, hf.owns h.code (fun k hk => hd k (h.sq k hk)), hf.owns h.row (fun k hk => hd k (h.sr k hk)), h.sp, h.sq, h.sr, fun k hk => Nat.lt_of_lt_of_le (h.sl k hk) hf.size⟩
theorem TwW.no (h : TwW w S p f qv sv) (hf : Fr (fun _ => False) w w') : TwW w' S p f qv sv := h.fr hf (fun _ _ e => e)
theorem TwW.up {S2 : Nat → Prop} (h : TwW w S p f qv sv) (h1 : ∀ k, S k → S2 k) (h2 : ∀ k, S2 k → k < w.heap.size) : TwW w S2 p f qv sv :=
  ⟨h.hp, h.code, h.row, h1 _ h.sp, fun k hk => h1 k (h.sq k hk), fun k hk => h1 k (h.sr k hk), h2⟩
theorem TwW.nr (h : TwW w S p f qv sv) {g : Nat} (hg : sv.ownBlock = some g) : g ≠ p := typ_ne h.hp h.row (by decide) hg
theorem TwW.nq (h : TwW w S p f qv sv) {g : Nat} (hg : qv.ownBlock = some g) : g ≠ p := typ_ne h.hp h.code (by decide) hg
/-- The instruction at a place, in memory. -/
theorem TwW.ins (h : TwW w S p f qv sv) {i : Nat} {x : Ins} (hx : f.code[i]? = some x) : ∃ b o c, qv = .slice (some ⟨b, o, none⟩) f.code.length c ∧ ∀ W, Fr (fun _ => False) w W → AtL W b (o + i * 3) (insc x) := by
  have hi := (List.getElem?_eq_some_iff.1 hx).1
  obtain ⟨g, c, rfl, _⟩ := h.code.form (by omega)
  exact ⟨g, 0, c, rfl, fun W hW => (RwI.of_own (hW.owns h.code (fun _ _ e => e))).rows g 0 rfl i x hx⟩
end
/-- A twin at work, since the world w1. -/
structure TwI (w1 : World) (S : Nat → Prop) (p : Nat) (f : Fs) (qv sv : Value) (W : World) : Prop where
  tw : TwW W (exS S w1 W) p f qv sv
  fr : Fr S w1 W
theorem exS.mono {S : Nat → Prop} {w w1 w2 : World} (h : w1.heap.size ≤ w2.heap.size) {k : Nat} (hk : exS S w w1 k) : exS S w w2 k := by
  rcases hk with e | e
  · exact .inl e
  · exact .inr ⟨e.1, by omega⟩
theorem exS.lt {S : Nat → Prop} {w w1 : World} (h : ∀ j, S j → j < w1.heap.size) {k : Nat} (hk : exS S w w1 k) : k < w1.heap.size := by
  rcases hk with e | e
  · exact h k e
  · exact e.2
section
variable {w1 W W2 : World} {S : Nat → Prop} {p : Nat} {f : Fs} {qv sv : Value}
theorem TwI.sl (h : TwI w1 S p f qv sv W) : ∀ k, S k → k < W.heap.size := fun k hk => h.tw.sl k (.inl hk)
theorem TwI.no (h : TwI w1 S p f qv sv W) (hf : Fr (fun _ => False) W W2) : TwI w1 S p f qv sv W2 :=
  ⟨(h.tw.no hf).up (fun _ hk => exS.mono hf.size hk) (fun _ hk => exS.lt (fun k hk => Nat.lt_of_lt_of_le (h.sl k hk) hf.size) hk), h.fr.trans hf (fun _ e _ => e.elim)⟩
/-- Its block, and blocks of its stack, may have turned. -/
theorem TwI.mk2 (h : TwI w1 S p f qv sv W) {f2 : Fs} {qv2 sv2 : Value} {fp : Nat → Prop} (hf : Fr fp W W2) (hfp : ∀ k, fp k → exS S w1 W k ∨ W.heap.size ≤ k) (hp2 : W2.heap[p]? = some (.cells #[qv2, iv f2.arg, nI f2.p, sv2, .bool f2.calls, .bool f2.over] TTw (0, 0)))
    (hc : W2.ownsRow 0 TIn 3 qv2 f2.code.length (f2.code.flatMap insc)) (hr : W2.ownsRow 0 TL 1 sv2 f2.st.length (f2.st.map iv)) (hq : ∀ k, qv2.ownBlock = some k → exS S w1 W k) (hs : ∀ k, sv2.ownBlock = some k → exS S w1 W k ∨ W.heap.size ≤ k) : TwI w1 S p f2 qv2 sv2 W2 := by
  have hsz := h.fr.size
  have hlt : ∀ k, S k → k < W2.heap.size := fun k hk => Nat.lt_of_lt_of_le (h.sl k hk) hf.size
  refine ⟨⟨hp2, hc, hr, exS.mono hf.size h.tw.sp, fun k hk => exS.mono hf.size (hq k hk), fun k hk => ?_, fun k hk => exS.lt hlt hk⟩, h.fr.trans hf (fun k hk hl => ?_)⟩
  · rcases hs k hk with e | e
    · exact exS.mono hf.size e
    · exact .inr ⟨by omega, (hr.lt k hk).2⟩
  · rcases hfp k hk with (e | e) | e
    · exact e
    · exact absurd e.1 (by omega)
    · omega
theorem TwI.put1 (h : TwI w1 S p f qv sv W) (j : Nat) (u : Value) {f2 : Fs} (he : ((#[qv, iv f.arg, nI f.p, sv, .bool f.calls, .bool f.over] : Array Value).setIfInBounds j u) = #[qv, iv f2.arg, nI f2.p, sv, .bool f2.calls, .bool f2.over]) (hc : f2.code = f.code) (hs : f2.st = f.st) :
    TwI w1 S p f2 qv sv (W.setCell ⟨p, j, none⟩ u) ∧ Fr (fun b => b = p) W (W.setCell ⟨p, j, none⟩ u) := by
  have h1 : Fr (fun b => b = p) W (W.setCell ⟨p, j, none⟩ u) := (Fr.refl _ _).setCell _ _ (fun _ => rfl)
  refine ⟨h.mk2 h1 (fun k hk => .inl (by rw [hk]; exact h.tw.sp)) ?_ ?_ ?_ (fun k hk => h.tw.sq k hk) (fun k hk => .inl (h.tw.sr k hk)), h1⟩
  · rw [heap_setCell_same W p j _ _ u h.tw.hp, he]
  · rw [hc]; exact h1.owns h.tw.code (fun k hk => h.tw.nq hk)
  · rw [hs]; exact h1.owns h.tw.row (fun k hk => h.tw.nr hk)
/-- A copied row is laid into it. -/
theorem TwI.cut (h : TwI w1 S p f qv sv W) {u : Value} {r : List Int} (hu : RowL W r u W2) : W2.heap[p]? = some (.cells #[qv, iv f.arg, nI f.p, sv, .bool f.calls, .bool f.over] TTw (0, 0)) ∧ TwI w1 S p (f.wSt r) qv u (W2.setCell ⟨p, 3, none⟩ u) ∧ Fr (fun b => b = p) W (W2.setCell ⟨p, 3, none⟩ u) := by
  have hp2 := (hu.2.block p h.tw.lt).trans h.tw.hp
  have h1 : Fr (fun b => b = p) W2 (W2.setCell ⟨p, 3, none⟩ u) := (Fr.refl _ _).setCell _ _ (fun _ => rfl)
  have h2 : Fr (fun b => b = p) W (W2.setCell ⟨p, 3, none⟩ u) := (Fr.of_below hu.2).trans h1 (fun k hk _ => hk)
  refine ⟨hp2, h.mk2 h2 (fun k hk => .inl (by rw [hk]; exact h.tw.sp)) ?_ ?_ ?_ (fun k hk => h.tw.sq k hk) (fun k hk => .inr (hu.1.lt k hk).1), h2⟩
  · rw [heap_setCell_same W2 p 3 _ _ u hp2]; rfl
  · exact h2.owns h.tw.code (fun k hk => h.tw.nq hk)
  · exact h1.owns (own_base (Nat.zero_le _) hu.1) (fun k hk e => by have := (hu.1.lt k hk).1; have := h.tw.lt; omega)
/-- A number is laid. -/
theorem TwI.app (h : TwI w1 S p f qv sv W) {Wd : World} {v2 : Value} {x : Int} {o : Obj} {n : Nat} (hd : Fr (fun _ => False) W Wd) (hn : n = (f.st ++ [x]).length) (k1 : W2.ownsRow 0 TL 1 v2 n ((f.st ++ [x]).map iv)) (k2 : (Wd.alloc o).grownBy W2 sv.ownBlock) (k3 : v2.ownBlock = sv.ownBlock ∨ v2.ownBlock = some (Wd.alloc o).heap.size) :
    W2.heap[p]? = some (.cells #[qv, iv f.arg, nI f.p, sv, .bool f.calls, .bool f.over] TTw (0, 0)) ∧ TwI w1 S p (f.wSt (f.st ++ [x])) qv v2 (W2.setCell ⟨p, 3, none⟩ v2) := by
  have hf : Fr (fun k => sv.ownBlock = some k) W W2 := ((hd.mono (fp2 := fun k => sv.ownBlock = some k) (fun _ e _ => e.elim)).alloc o).grown k2 (fun k hk _ => hk)
  have hp2 := (hf.block p h.tw.lt (fun e => h.tw.nr e rfl)).trans h.tw.hp
  have h1 : Fr (fun b => b = p) W2 (W2.setCell ⟨p, 3, none⟩ v2) := (Fr.refl _ _).setCell _ _ (fun _ => rfl)
  have hb : ∀ k, v2.ownBlock = some k → k ≠ p ∧ (exS S w1 W k ∨ W.heap.size ≤ k) := fun k hk => by
    rcases k3 with e | e
    · rw [e] at hk; exact ⟨h.tw.nr hk, .inl (h.tw.sr k hk)⟩
    · rw [e] at hk
      have := h.tw.lt
      have := hd.size
      simp at hk
      exact ⟨by omega, .inr (by omega)⟩
  have h2 : Fr (fun k => k = p ∨ sv.ownBlock = some k) W (W2.setCell ⟨p, 3, none⟩ v2) := (hf.mono (fp2 := fun k => k = p ∨ sv.ownBlock = some k) (fun k hk _ => .inr hk)).trans h1 (fun k hk _ => .inl hk)
  refine ⟨hp2, h.mk2 h2 (fun k hk => ?_) ?_ ?_ ?_ (fun k hk => h.tw.sq k hk) (fun k hk => (hb k hk).2)⟩
  · rcases hk with e | e
    · exact .inl (by rw [e]; exact h.tw.sp)
    · exact .inl (h.tw.sr k e)
  · rw [heap_setCell_same W2 p 3 _ _ v2 hp2]; rfl
  · exact h2.owns h.tw.code (fun k hk e => by
      rcases e with e | e
      · exact h.tw.nq hk e
      · exact row_ne h.tw.code h.tw.row (by decide) hk e)
  · have := h1.owns k1 (fun k hk => (hb k hk).1)
    rw [hn] at this
    exact this
end
theorem run_appL {w : World} (ty : TypeId) (B : Nat) (v : Value) (xs ys : List Int) (hown : w.ownsRow B TL 1 v xs.length (xs.map iv)) (g o' n c : Nat) (hn : n = ys.length) (hc : ∀ (j : Nat) y, ys[j]? = some y → w.cell? ⟨g, o' + j, none⟩ = some (iv y)) (hl : xs.length + ys.length ≤ 1000000) (hB : B ≤ w.heap.size) :
    ∃ v' w', (Builtin.append_ #[23, 23] ty #[v, .slice (some ⟨g, o', none⟩) n c]).run Tryd.prog w = .ok v' w' ∧ w'.ownsRow B TL 1 v' (xs ++ ys).length ((xs ++ ys).map iv) ∧ w.grownBy w' v.ownBlock := by
  obtain ⟨i, h1, h2, h3, h4⟩ := info_split infoL
  have hml : (9223372036854775807 : Nat) = maxLen := rfl
  obtain ⟨v', w', r1, r2, r3, _, _⟩ := run_append_own_at (P := Tryd.prog) w B 23 ty TL i (.int .i64 0) 1 8 Tryd.underlying23 h1 h2 h3 h4 rfl (by decide) v _ (xs.map iv) hown ⟨g, o', none⟩ n c (ys.map iv) (by simp [hn]) (fun j u hu => by
    rw [List.getElem?_map, Option.map_eq_some_iff] at hu
    obtain ⟨y, hy, rfl⟩ := hu
    rw [Addr.add_lit]
    exact hc j y hy) (by simp [Value.oneCell']) (by omega) (by omega) hB
  refine ⟨v', w', r1, ?_, r3⟩
  rw [List.length_append, List.map_append, ← hn]
  exact r2
theorem exec_indexL {o : Oper} {f : Operand → Value} {W : World} {p q : Operand} {b off n cap k : Nat} (ho : o.op = .indexAddr 23 p q) (hp : f p = .slice (some ⟨b, off, none⟩) n cap) (hl : f q = .int .i64 (k : Int)) (h1 : k < n) :
    (execOp f o).run Tryd.prog W = .ok (.value (.pointer (some ⟨b, off + k, none⟩))) W := by
  unfold execOp
  simp only [ho, hp, hl]
  go_simp
theorem exec_nilrow {o : Oper} {f : Operand → Value} {W : World} (ho : o.op = .buildSlice 23 0 #[]) : (execOp f o).run Tryd.prog W = .ok (.value (.slice (some ⟨W.heap.size, 0, none⟩) 0 0)) (W.alloc (.cells #[] TL)) := by
  unfold execOp
  simp only [ho]
  go_simp
set_option maxRecDepth 100000 in
set_option maxHeartbeats 4000000 in
/-- pop. -/
theorem pop_any {w : World} {v : Value} {r : List Int} {y : Int} (h : Tl iv w.heap.size w v (r ++ [y])) (hl : r.length ≤ 1000) : Calls Tryd.prog 24 #[v] w fun e w' => ∃ u, e = .returned (.tuple #[iv y, u]) ∧ RowL w r u w' := by
  obtain ⟨a, c, rfl, hc, _, hat⟩ := h.ex
  obtain ⟨n, hn⟩ : ∃ n, n = r.length := ⟨_, rfl⟩
  have hlen : (r ++ [y]).length = n + 1 := by rw [hn]; simp
  rw [hlen] at hc hat ⊢
  obtain ⟨b, o, rfl, hb, hj⟩ := hat (by omega)
  have e0 : w.drew.cell? ⟨b, o + n, none⟩ = some (iv y) := hj n y (by rw [List.getElem?_append_right (by omega), hn, Nat.sub_self]; rfl)
  have hw1 := IntWalk.i64_in ((n : Nat) : Int) (by omega)
  have hs : (((n + 1 : Nat) : Int) - 1) = (n : Int) := by omega
  have hcs : ∀ (j : Nat) z, r[j]? = some z → (w.drew.alloc (.cells #[] TL)).cell? ⟨b, o + j, none⟩ = some (iv z) := fun j z hz => by
    have hjl := (List.getElem?_eq_some_iff.1 hz).1
    exact (World.cell?_of_block (w := w) (w' := w.drew.alloc (.cells #[] TL)) (a := ⟨b, o + j, none⟩) (((Fr.refl (fun _ => False) w).drew.alloc _).block b hb (fun e => e))).trans (hj j z (by rw [List.getElem?_append_left hjl]; exact hz))
  obtain ⟨u, w3, r1, r2, r3⟩ := run_appL (w := w.drew.alloc (.cells #[] TL)) 23 w.heap.size (.slice (some ⟨w.drew.heap.size, 0, none⟩) 0 0) [] r (World.ownsRow_made w.drew #[] 0 (Nat.le_refl _) (Nat.zero_le _) rfl) b o n c hn hcs (by simp; omega) (by simp)
  have e3 : w3.cell? ⟨b, o + n, none⟩ = some (iv y) := (World.cell?_of_block (w := w.drew) (w' := w3) (a := ⟨b, o + n, none⟩) ((((Fr.refl (fun _ => False) w.drew).alloc _).grown r3 (fun k hk hkl => by have : w.drew.heap.size = w.heap.size := rfl; simp [Value.ownBlock] at hk; omega)).block b hb (fun e => e))).trans e0
  have e2 : (w.drew.alloc (.cells #[] TL)).cell? ⟨b, o + n, none⟩ = some (iv y) := (World.cell?_of_block (w := w.drew) (w' := w.drew.alloc (.cells #[] TL)) (a := ⟨b, o + n, none⟩) (((Fr.refl (fun _ => False) w.drew).alloc _).block b hb (fun e => e))).trans e0
  have hb3 : Below w.heap.size w w3 := ((⟨rfl, rfl, rfl, Nat.le_refl _, fun _ _ => rfl⟩ : Below w.heap.size w w.drew).alloc (Nat.le_refl _) _).grown r3 (by simp) (fun k hk => by simp [Value.ownBlock] at hk; subst hk; exact Nat.le_refl _)
  have HB := hid hb3
  have R2 := hid r2
  have HN := hid hn
  clear h hat hj hn hlen hcs r2 r3 hb hb3 hl
  obtain ⟨ua, uc, rfl⟩ := own_form R2.out
  go_enter Tryd.func24, Tryd.ntmps24
  go_upto_region 2 with fail
  refine D.wp_region_mix [0, 0, 0, 1, 2, 0, 0, 0, 2, 0, 0] (fun W => W.cell? ⟨b, o + n, none⟩ = some (iv y)) (by kernel_rfl) (by kernel_rfl) e0 ?_
  repeat (first
    | ((with_reducible refine C.atM ⟨some 10, _, _, _, _, _⟩ ?_); refine C.wpMix_value (.pointer (some ⟨b, o + n, none⟩)) rfl rfl (fun W => exec_indexL (n := n + 1) (k := n) rfl rfl rfl (by omega)) ?_; simp only [Act.put, List.setIfInBounds_toArray, List.set_cons_zero, List.set_cons_succ])
    | ((with_reducible refine C.atM ⟨some 12, _, _, _, _, _⟩ ?_); refine C.wpMix_write _ (w.drew.alloc (.cells #[] TL)) (by decide) rfl (exec_nilrow rfl) (fun _ => e2) ?_; simp only [Act.put, List.setIfInBounds_toArray, List.set_cons_zero, List.set_cons_succ])
    | ((with_reducible refine C.atM ⟨some 15, _, _, _, _, _⟩ ?_); refine C.wpMix_value _ rfl rfl (fun W => exec_cutL (k := n) rfl rfl rfl (by omega)) ?_; simp only [Act.put, List.setIfInBounds_toArray, List.set_cons_zero, List.set_cons_succ])
    | ((with_reducible refine C.atM ⟨some 16, _, _, _, _, _⟩ ?_); refine C.wpMix_write _ w3 (by decide) rfl (exec_append rfl rfl rfl r1) (fun _ => e3) ?_; simp only [Act.put, List.setIfInBounds_toArray, List.set_cons_zero, List.set_cons_succ])
    | (refine' C.wpMix_value _ rfl rfl _ _; rotate_left; (solve | (intro W; go_simp) | (intro W; go_simp; with_reducible rfl)); simp only [Act.put, List.setIfInBounds_toArray, List.set_cons_zero, List.set_cons_succ])
    | (refine' C.wpMix_read _ rfl rfl _ _; rotate_left; (solve | (rintro W h1; go_simp) | (rintro W h1; go_simp; with_reducible rfl)); simp only [Act.put, List.setIfInBounds_toArray, List.set_cons_zero, List.set_cons_succ]))
  refine C.wpMix_end ?_
  clear e0 e2 e3 r1
  go_wp2_with fail
  go_ret2
  exact ⟨_, rfl, R2.out, HB.out⟩
end Go.Proofs.YtcoclaabainibaaDoor
