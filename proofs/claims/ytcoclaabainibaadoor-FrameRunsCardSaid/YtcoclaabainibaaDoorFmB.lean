/-
  A frame in memory: what it is; take, lay, At.
-/
import Derived.Test.YtcoclaabainibaaDoorFmA
import Derived.Test.YtcoclaabainibaaDoorFmM
import Derived.Test.YtcoclaabainibaaDoorMixD
import Derived.Deep.Cut
namespace Go.Proofs.YtcoclaabainibaaDoor
open Go Go.ChangeShapes Go.WideShapes Go.ChangeAt Go.RowKit

abbrev TFm : TypeId := 53
/-- A set of blocks, and what has been laid since. -/
def exS (S : Nat → Prop) (w w' : World) (k : Nat) : Prop := S k ∨ (w.heap.size ≤ k ∧ k < w'.heap.size)
theorem exS.tr {S : Nat → Prop} {w w1 w2 : World} (h1 : w.heap.size ≤ w1.heap.size) (h2 : w1.heap.size ≤ w2.heap.size) {k : Nat} (h : exS (exS S w w1) w1 w2 k) : exS S w w2 k := by
  rcases h with (h | h) | h
  · exact .inl h
  · exact .inr ⟨h.1, by omega⟩
  · exact .inr ⟨by omega, h.2⟩
/-- A frame in memory: qv its instructions' row, sv its stack's. -/
structure FmW (w : World) (S : Nat → Prop) (p : Nat) (f : Fs) (qv sv : Value) : Prop where
  hp : w.heap[p]? = some (.cells #[qv, iv f.arg, nI f.p, sv, .bool f.calls] TFm (0, 0))
  code : (f.over = true ∧ qv = .slice none 0 0) ∨ (f.over = false ∧ w.ownsRow 0 TIn 3 qv f.code.length (f.code.flatMap insc))
  row : w.ownsRow 0 TL 1 sv f.st.length (f.st.map iv)
  sp : S p
  sq : ∀ k, qv.ownBlock = some k → S k
  sr : ∀ k, sv.ownBlock = some k → S k
  sl : ∀ k, S k → k < w.heap.size
section
variable {w w' : World} {S fp : Nat → Prop} {p : Nat} {f : Fs} {qv sv : Value}
theorem FmW.c0 (h : FmW w S p f qv sv) : w.cell? ⟨p, 0, none⟩ = some qv := by rw [cell_of_row w p 0 _ _ _ h.hp]; rfl
theorem FmW.c1 (h : FmW w S p f qv sv) : w.cell? ⟨p, 1, none⟩ = some (iv f.arg) := by rw [cell_of_row w p 1 _ _ _ h.hp]; rfl
theorem FmW.c2 (h : FmW w S p f qv sv) : w.cell? ⟨p, 2, none⟩ = some (nI f.p) := by rw [cell_of_row w p 2 _ _ _ h.hp]; rfl
theorem FmW.c3 (h : FmW w S p f qv sv) : w.cell? ⟨p, 3, none⟩ = some sv := by rw [cell_of_row w p 3 _ _ _ h.hp]; rfl
theorem FmW.c4 (h : FmW w S p f qv sv) : w.cell? ⟨p, 4, none⟩ = some (.bool f.calls) := by rw [cell_of_row w p 4 _ _ _ h.hp]; rfl
theorem FmW.fz (h : FmW w S p f qv sv) (k : Nat) : w.frozen? ⟨p, k, none⟩ = false := frozen_of_row w p k _ _ h.hp
theorem FmW.lt (h : FmW w S p f qv sv) : p < w.heap.size := (Array.getElem?_eq_some_iff.1 h.hp).1
theorem FmW.fr (h : FmW w S p f qv sv) (hf : Fr fp w w') (hd : ∀ k, S k → ¬ fp k) : FmW w' S p f qv sv :=
  ⟨(hf.block p h.lt (hd p h.sp)).trans h.hp, h.code.imp id (fun ⟨a, b⟩ => ⟨a, hf.owns b (fun k hk => hd k (h.sq k hk))⟩), hf.owns h.row (fun k hk => hd k (h.sr k hk)), h.sp, h.sq, h.sr, fun k hk => Nat.lt_of_lt_of_le (h.sl k hk) hf.size⟩
theorem FmW.no (h : FmW w S p f qv sv) (hf : Fr (fun _ => False) w w') : FmW w' S p f qv sv := h.fr hf (fun _ _ e => e)
theorem FmW.up {S2 : Nat → Prop} (h : FmW w S p f qv sv) (h1 : ∀ k, S k → S2 k) (h2 : ∀ k, S2 k → k < w.heap.size) : FmW w S2 p f qv sv :=
  ⟨h.hp, h.code, h.row, h1 _ h.sp, fun k hk => h1 k (h.sq k hk), fun k hk => h1 k (h.sr k hk), h2⟩
theorem FmW.ex (h : FmW w S p f qv sv) (hf : Fr (fun _ => False) w w') : FmW w' (exS S w w') p f qv sv :=
  (h.no hf).up (fun k hk => .inl hk) (fun k hk => by
    rcases hk with e | e
    · exact (h.no hf).sl k e
    · exact e.2)
/-- The same, seen from an earlier world. -/
theorem FmW.to {w0 : World} (h : FmW w' (exS (exS S w0 w) w w') p f qv sv) (h1 : w0.heap.size ≤ w.heap.size) (h2 : w.heap.size ≤ w'.heap.size) (h3 : ∀ k, S k → k < w'.heap.size) : FmW w' (exS S w0 w') p f qv sv :=
  h.up (fun _ hk => exS.tr h1 h2 hk) (fun k hk => by
    rcases hk with e | e
    · exact h3 k e
    · exact e.2)
theorem typ_ne {w : World} {p n k : Nat} {T T2 : TypeId} {cs : Array Value} {v : Value} {xs : List Value} (hp : w.heap[p]? = some (.cells cs T (0, 0))) (h : w.ownsRow 0 T2 k v n xs) (hT : T2 ≠ T) {g : Nat} (hg : v.ownBlock = some g) : g ≠ p := fun e => by
  subst e
  rcases h.2 with ⟨rfl, _⟩ | ⟨g', cap, cur, rfl, _, hgb, _⟩
  · cases hg
  · cases hg
    rw [hp] at hgb
    simp only [Option.some.injEq, Obj.cells.injEq] at hgb
    exact hT hgb.2.1.symm
theorem FmW.nr (h : FmW w S p f qv sv) {g : Nat} (hg : sv.ownBlock = some g) : g ≠ p := typ_ne h.hp h.row (by decide) hg
theorem FmW.nq (h : FmW w S p f qv sv) {g : Nat} (hg : qv.ownBlock = some g) : g ≠ p := by
  rcases h.code with ⟨_, rfl⟩ | ⟨_, h1⟩
  · cases hg
  · exact typ_ne h.hp h1 (by decide) hg
/-- Two rows of unlike elements lie in unlike blocks. -/
theorem row_ne {w : World} {n k n2 k2 : Nat} {T T2 : TypeId} {v v2 : Value} {xs ys : List Value} (h : w.ownsRow 0 T k v n xs) (h2 : w.ownsRow 0 T2 k2 v2 n2 ys) (hT : T2 ≠ T) {g : Nat} (hg : v.ownBlock = some g) : v2.ownBlock ≠ some g := fun e => by
  rcases h.2 with ⟨rfl, _⟩ | ⟨g', cap, cur, rfl, _, hgb, _⟩
  · cases hg
  · cases hg
    exact typ_ne hgb h2 hT e rfl
/-- Its cells are turned: the instructions' row stays or goes, the stack's is cut. -/
theorem FmW.set (h : FmW w S p f qv sv) {f2 : Fs} {qv2 sv2 : Value} {w2 : World} (hf : Fr S w w2) (hp2 : w2.heap[p]? = some (.cells #[qv2, iv f2.arg, nI f2.p, sv2, .bool f2.calls] TFm (0, 0)))
    (hc : (f2.over = true ∧ qv2 = .slice none 0 0) ∨ (f2.over = false ∧ w2.ownsRow 0 TIn 3 qv2 f2.code.length (f2.code.flatMap insc))) (hr : w2.ownsRow 0 TL 1 sv2 f2.st.length (f2.st.map iv))
    (hq : ∀ k, qv2.ownBlock = some k → S k ∨ (w.heap.size ≤ k)) (hs : ∀ k, sv2.ownBlock = some k → S k ∨ (w.heap.size ≤ k)) : FmW w2 (exS S w w2) p f2 qv2 sv2 := by
  refine ⟨hp2, hc, hr, .inl h.sp, fun k hk => ?_, fun k hk => ?_, fun k hk => ?_⟩
  · rcases hq k hk with e | e
    · exact .inl e
    · refine .inr ⟨e, ?_⟩
      rcases hc with ⟨_, e2⟩ | ⟨_, e2⟩
      · rw [e2] at hk; cases hk
      · exact (e2.lt k hk).2
  · rcases hs k hk with e | e
    · exact .inl e
    · exact .inr ⟨e, (hr.lt k hk).2⟩
  · rcases hk with e | e
    · exact Nat.lt_of_lt_of_le (h.sl k e) hf.size
    · exact e.2
/-- What a store to the cells of the frame's own block leaves. -/
theorem FmW.put (h : FmW w S p f qv sv) (j : Nat) (u : Value) : Fr S w (w.setCell ⟨p, j, none⟩ u) ∧ (w.setCell ⟨p, j, none⟩ u).heap[p]? = some (.cells ((#[qv, iv f.arg, nI f.p, sv, .bool f.calls] : Array Value).setIfInBounds j u) TFm (0, 0)) ∧
    ((f.over = true ∧ qv = .slice none 0 0) ∨ (f.over = false ∧ (w.setCell ⟨p, j, none⟩ u).ownsRow 0 TIn 3 qv f.code.length (f.code.flatMap insc))) ∧ (w.setCell ⟨p, j, none⟩ u).ownsRow 0 TL 1 sv f.st.length (f.st.map iv) := by
  have h1 : Fr (fun b => b = p) w (w.setCell ⟨p, j, none⟩ u) := (Fr.refl _ _).setCell _ _ (fun _ => rfl)
  refine ⟨h1.mono (fun k hk _ => by rw [hk]; exact h.sp), heap_setCell_same w p j _ _ u h.hp, ?_, h1.owns h.row (fun k hk => h.nr hk)⟩
  exact h.code.imp id (fun ⟨a, b⟩ => ⟨a, h1.owns b (fun k hk => h.nq hk)⟩)
/-- A store to one cell that keeps both rows. -/
theorem FmW.put1 (h : FmW w S p f qv sv) (j : Nat) (u : Value) {f2 : Fs} (he : ((#[qv, iv f.arg, nI f.p, sv, .bool f.calls] : Array Value).setIfInBounds j u) = #[qv, iv f2.arg, nI f2.p, sv, .bool f2.calls]) (hc : f2.code = f.code) (ho : f2.over = f.over) (hs : f2.st = f.st) :
    FmW (w.setCell ⟨p, j, none⟩ u) S p f2 qv sv ∧ Fr S w (w.setCell ⟨p, j, none⟩ u) := by
  obtain ⟨h1, h2, h3, h4⟩ := h.put j u
  rw [he] at h2
  exact ⟨⟨h2, by rw [hc, ho]; exact h3, by rw [hs]; exact h4, h.sp, h.sq, h.sr, fun k hk => Nat.lt_of_lt_of_le (h.sl k hk) h1.size⟩, h1⟩
end
def Fs.wSt (f : Fs) (l : List Int) : Fs := ⟨f.code, f.arg, f.p, l, f.calls, f.over⟩
def Fs.wP (f : Fs) (p : Nat) : Fs := ⟨f.code, f.arg, p, f.st, f.calls, f.over⟩
def Fs.wC (f : Fs) (c : Bool) : Fs := ⟨f.code, f.arg, f.p, f.st, c, f.over⟩
section
variable {w w' : World} {S fp : Nat → Prop} {p : Nat} {f : Fs} {qv sv : Value}
theorem exec_cutL {o : Oper} {f : Operand → Value} {W : World} {p q : Operand} {a : Option Addr} {n cap k : Nat} (ho : o.op = .slice 23 p none (some q) none) (hp : f p = .slice a n cap) (hl : f q = .int .i64 (k : Int)) (h1 : k ≤ cap) :
    (execOp f o).run Tryd.prog W = .ok (.value (.slice a k cap)) W := by
  unfold execOp
  simp only [ho, hp]
  simp only [Option.map, hl]
  cases a with
  | none => go_simp
  | some a => go_simp
set_option maxHeartbeats 2000000 in
/-- take. -/
theorem take_any {l : List Int} {x : Int} (h : FmW w S p f qv sv) (hl : f.st = l ++ [x]) (h9 : l.length ≤ 1000) : Calls Tryd.prog 27 #[.pointer (some ⟨p, 0, none⟩)] w fun e w' =>
    e = .returned (iv x) ∧ (∃ sv2, FmW w' S p (f.wSt l) qv sv2) ∧ Fr S w w' := by
  have c3 := h.c3
  have z3 := h.fz 3
  obtain ⟨n, hn⟩ : ∃ n, n = l.length := ⟨_, rfl⟩
  have hlen : f.st.length = n + 1 := by rw [hl, hn]; simp
  have hrow := h.row
  rw [hlen] at hrow
  obtain ⟨g, c, rfl, _⟩ := hrow.form (by omega)
  have hcap := own_cap hrow
  have e0 : w.cell? ⟨g, n, none⟩ = some (iv x) := by
    rw [hrow.cellAt n (by omega), List.getElem?_map, hl, List.getElem?_append_right (by omega), hn, Nat.sub_self]; rfl
  have hw1 := IntWalk.i64_in ((n : Nat) : Int) (by omega)
  have hs : (((n + 1 : Nat) : Int) - 1) = (n : Int) := by omega
  have HH := hid h
  have HL := hid hl
  have HN := hid hn
  have HLEN := hid hlen
  clear h hrow hl hn hlen
  go_enter Tryd.func27, Tryd.ntmps27
  go_wp2_with (first
    | ((with_reducible refine at_op ⟨some 24, _, _, _, _, _⟩ ?_); go_loud (refine wpList_runN rfl _ _ (exec_cutL (k := n) rfl rfl rfl (by omega)) ?_))
    | fail)
  go_ret
  obtain ⟨k1, k2, k3, k4⟩ := HH.out.put 3 (.slice (some ⟨g, 0, none⟩) n c)
  refine ⟨rfl, ⟨_, k2, k3, ?_, HH.out.sp, HH.out.sq, fun k hk => HH.out.sr k hk, fun k hk => Nat.lt_of_lt_of_le (HH.out.sl k hk) k1.size⟩, k1⟩
  rw [HLEN.out, HL.out, List.map_append] at k4
  have k5 := owns_cut (m := n) k4 (by rw [List.length_map, HN.out, Nat.mul_one]) (by omega)
  have e5 : n = (f.wSt l).st.length := HN.out
  rw [← e5]
  exact k5
set_option maxHeartbeats 2000000 in
/-- lay. -/
theorem lay_any (x : Int) (h : FmW w S p f qv sv) (h9 : f.st.length ≤ 1000) : Calls Tryd.prog 21 #[.pointer (some ⟨p, 0, none⟩), iv x] w fun e w' =>
    (∃ v, e = .returned v) ∧ (∃ sv2, FmW w' (exS S w w') p (f.wSt (f.st ++ [x])) qv sv2) ∧ Fr S w w' := by
  have c3 := h.c3
  obtain ⟨a, c, hlv⟩ := own_form h.row
  rw [hlv] at c3
  have HH := hid h
  have HLV := hid hlv
  obtain ⟨n, hn⟩ : ∃ n, n = f.st.length := ⟨_, rfl⟩
  rw [← hn] at c3 h9
  have HN := hid hn
  have HR := hid (show w.ownsRow 0 TL 1 (.slice a n c) f.st.length (f.st.map iv) by rw [hn, ← hlv]; exact h.row)
  clear h hlv hn
  go_enter Tryd.func21, Tryd.ntmps21
  go_wp2_with (first
    | ((with_reducible refine at_op ⟨some 11, _, _, _, _, _⟩ ?_); go_loud (refine wpList_appZ rfl (.tmp 8) (.tmp 10) rfl 0 (.slice a n c) f.st [x] rfl (HR.out.alloc _) w.heap.size 0 1 1 rfl rfl (fun j y hy => new_one w x j y hy) (by have := HN.out; simp; omega) (Nat.zero_le _) ?_); intro v2 w2 k1 k2 k3; obtain ⟨ln, hln⟩ : ∃ ln, ln = (f.st ++ [x]).length := ⟨_, rfl⟩; rw [← hln] at k1; obtain ⟨va, vc, hv2⟩ := own_form k1; subst hv2; have HLN := hid hln; clear hln; have hf2 : Fr (fun k => sv.ownBlock = some k) w w2 := ((Fr.refl _ w).alloc _).grown k2 (fun k hk _ => by rw [HLV.out, ← HN.out]; exact hk); have hp2 := (hf2.block p HH.out.lt (fun e => HH.out.nr e rfl)).trans HH.out.hp; have hb2 : ∀ k, (Value.slice va ln vc).ownBlock = some k → (k ≠ p ∧ (S k ∨ w.heap.size ≤ k)) := (fun k hk => by
        rcases k3 with e | e
        · rw [e] at hk; have hk2 : sv.ownBlock = some k := by rw [HLV.out, ← HN.out]; exact hk
          exact ⟨HH.out.nr hk2, .inl (HH.out.sr k hk2)⟩
        · rw [e] at hk; have := HH.out.lt; simp at hk; exact ⟨by omega, .inr (by omega)⟩); have hq2 : ∀ k, qv.ownBlock = some k → sv.ownBlock ≠ some k := (fun k hk => by
        rcases HH.out.code with ⟨_, e⟩ | ⟨_, e⟩
        · rw [e] at hk; cases hk
        · exact row_ne e HH.out.row (by decide) hk); have HQ2 := hid hq2; have K1 := hid k1; have HF2 := hid hf2; have HB2 := hid hb2; have d2 := cell_of_row w2 p 3 _ _ _ hp2; have z2 := frozen_of_row w2 p 3 _ _ hp2; simp only [List.getElem?_toArray, List.getElem?_cons_succ, List.getElem?_cons_zero] at d2; have HP2 := hid hp2; clear k1 k2 k3 hp2 hb2 hf2 hq2 c3)
    | fail)
  go_end0
  have h2 : Fr (fun b => b = p) w2 (w2.setCell ⟨p, 3, none⟩ (.slice va ln vc)) := (Fr.refl _ _).setCell _ _ (fun _ => rfl)
  have hfS : Fr S w (w2.setCell ⟨p, 3, none⟩ (.slice va ln vc)) := (HF2.out.mono (fun k hk _ => HH.out.sr k hk)).trans h2 (fun k hk _ => by rw [hk]; exact HH.out.sp)
  refine ⟨⟨_, rfl⟩, ⟨_, HH.out.set hfS (f2 := f.wSt (f.st ++ [x])) (heap_setCell_same w2 p 3 _ _ _ HP2.out) ?_ ?_ (fun k hk => .inl (HH.out.sq k hk)) (fun k hk => (HB2.out k hk).2)⟩, hfS⟩
  · exact HH.out.code.imp id (fun ⟨a1, b1⟩ => ⟨a1, h2.owns (HF2.out.owns b1 (fun k hk => HQ2.out k hk)) (fun k hk => HH.out.nq hk)⟩)
  · have := h2.owns K1.out (fun k hk => (HB2.out k hk).1)
    rw [HLN.out] at this ⊢
    exact this
theorem At_any (h : FmW w S p f qv sv) : Calls Tryd.prog 13 #[.pointer (some ⟨p, 0, none⟩)] w fun e w' => e = .returned (nI f.p) ∧ w = w' := by
  have c2 := h.c2
  clear h
  go_enter Tryd.func13, Tryd.ntmps13
  go_wp2
  go_ret
  exact ⟨rfl, rfl⟩
theorem At_nil (w : World) : Calls Tryd.prog 13 #[.pointer none] w fun e w' => e = .returned (.int .i64 0) ∧ w = w' := by
  go_enter Tryd.func13, Tryd.ntmps13
  go_wp2
  go_ret
  exact ⟨rfl, rfl⟩
end
end Go.Proofs.YtcoclaabainibaaDoor
