/-
  A table of weak blocks in memory; the contracts of find, Up, Lock, Die.
-/
import Derived.Test.YtmampaglemleoabWkM
import Derived.Test.YtmampaglemleoabMpO
import Derived.Test.YtmampaglemleoabAeD
import Derived.Test.YtmampaglemleoabHpR
import Derived.Test.YtmampaglemleoabNum
namespace Go.Proofs.Ytmampaglemleoab
open Go Go.ChangeShapes Go.WideShapes Go.ChangeAt Go.RowKit Go.Maps

theorem lawU : Keyed Try.prog TU := int_keyed Try.underlying35
theorem zeroU (w : World) : (zeroValue TU).run Try.prog w = .ok (.int .u64 0) w := by kernel_rfl
theorem wf_u64 {k : Int} (h : U64 k) : (Lit.int .u64 k).wf = true := WalkArith.wf_u64 ⟨h.1, h.2⟩
abbrev TM : TypeId := 66
/-- The live blocks of a list, by their targets. -/
def lvh (L : WL) (t : Int) : Option Int := (lv L t).map (·.h)
def alive (L : WL) : WL := L.filter fun b => !b.dead
/-- A table in memory. -/
structure WkW (w : World) (p pa pm : Nat) (Sa : Nat → Prop) (AA : Ar) (D : DataW Unit) (B : Int → Nat) (L : WL) : Prop where
  hp : w.heap[p]? = some (.cells #[.pointer (some ⟨pa, 0, none⟩), .map (some pm)] 68 (0, 0))
  ar : InS Sa w pa AA
  mp : w.ownsMap Try.prog TU (plainElem (H := Unit) Try.prog TU) pm (alive L).length D
  mo : MapOf .u64 .u64 D (lvh L) (alive L).length
  ob : ∀ b ∈ L, w.heap[B b.h]? = some (.cells #[.int .u64 b.t, .int .u32 b.n] 85 (0, 0))
  pl : ∀ b ∈ L, ∃ i sp, AA.L[i]? = some sp ∧ sp.t = true ∧ b.h = hand i sp.g ∧ sp.x = ((B b.h + 1 : Nat) : Int)
  co : ∀ (i : Nat) sp, AA.L[i]? = some sp → sp.t = true → ∃ b ∈ L, b.h = hand i sp.g
  inj : ∀ b ∈ L, ∀ c ∈ L, B b.h = B c.h → b.h = c.h
  d1 : ¬ Sa p
  d2 : ¬ Sa pm
  d3 : pm ≠ p
  d4 : ∀ b ∈ L, B b.h ≠ p ∧ B b.h ≠ pm ∧ ¬ Sa (B b.h)
section
variable {w w' : World} {p pa pm : Nat} {Sa : Nat → Prop} {AA : Ar} {D : DataW Unit} {B : Int → Nat} {L : WL} {fp : Nat → Prop}
theorem WkW.c0 (h : WkW w p pa pm Sa AA D B L) : w.cell? ⟨p, 0, none⟩ = some (.pointer (some ⟨pa, 0, none⟩)) := by rw [cell_of_row w p 0 _ _ _ h.hp]; rfl
theorem WkW.c1 (h : WkW w p pa pm Sa AA D B L) : w.cell? ⟨p, 1, none⟩ = some (.map (some pm)) := by rw [cell_of_row w p 1 _ _ _ h.hp]; rfl
theorem WkW.lt (h : WkW w p pa pm Sa AA D B L) : p < w.heap.size := (Array.getElem?_eq_some_iff.1 h.hp).1
theorem WkW.ltb (h : WkW w p pa pm Sa AA D B L) {b : Bl} (hb : b ∈ L) : B b.h < w.heap.size := (Array.getElem?_eq_some_iff.1 (h.ob b hb)).1
theorem WkW.o0 (h : WkW w p pa pm Sa AA D B L) {b : Bl} (hb : b ∈ L) : w.cell? ⟨B b.h, 0, none⟩ = some (.int .u64 b.t) := by rw [cell_of_row w _ 0 _ _ _ (h.ob b hb)]; rfl
theorem WkW.o1 (h : WkW w p pa pm Sa AA D B L) {b : Bl} (hb : b ∈ L) : w.cell? ⟨B b.h, 1, none⟩ = some (.int .u32 b.n) := by rw [cell_of_row w _ 1 _ _ _ (h.ob b hb)]; rfl
theorem WkW.of (h : WkW w p pa pm Sa AA D B L) {b : Bl} (hb : b ∈ L) (k : Nat) : w.frozen? ⟨B b.h, k, none⟩ = false := frozen_of_row w _ k _ _ (h.ob b hb)
theorem WkW.fr (h : WkW w p pa pm Sa AA D B L) (hf : Fr fp w w') (h1 : ¬ fp p) (h2 : ¬ fp pm) (h3 : ∀ k, Sa k → ¬ fp k) (h4 : ∀ b ∈ L, ¬ fp (B b.h)) : WkW w' p pa pm Sa AA D B L :=
  ⟨by rw [hf.block p h.lt h1]; exact h.hp, h.ar.fr hf h3, hf.ownsMap h.mp h2, h.mo, fun b hb => by rw [hf.block _ (h.ltb hb) (h4 b hb)]; exact h.ob b hb, h.pl, h.co, h.inj, h.d1, h.d2, h.d3, h.d4⟩
theorem WkW.no (h : WkW w p pa pm Sa AA D B L) (hf : Fr (fun _ => False) w w') : WkW w' p pa pm Sa AA D B L := h.fr hf (fun e => e) (fun e => e) (fun _ _ e => e) (fun _ _ e => e)
theorem alive_setn (L : WL) (x n : Int) : (alive (setn L x n)).length = (alive L).length := by
  unfold alive setn
  rw [List.filter_map, List.length_map]
  congr 2
  funext b
  simp only [Function.comp]
  split <;> rfl
theorem lvh_setn (L : WL) (x n t : Int) : lvh (setn L x n) t = lvh L t := by
  unfold lvh lv setn
  rw [List.find?_map, Option.map_map]
  have e1 : ((fun b : Bl => b.t == t && !b.dead) ∘ fun b => if b.h = x then { b with n := n } else b) = fun b => b.t == t && !b.dead := by
    funext b; simp only [Function.comp]; split <;> rfl
  rw [e1]
  congr 1
  funext b
  simp only [Function.comp]
  split <;> rfl
/-- A block's count is another one. -/
theorem WkW.cnt (h : WkW w p pa pm Sa AA D B L) (hn : (L.map (·.h)).Nodup) {b : Bl} (hb : b ∈ L) (n : Int) : WkW (w.setCell ⟨B b.h, 1, none⟩ (.int .u32 n)) p pa pm Sa AA D B (setn L b.h n) ∧ Fr (fun k => k = B b.h) w (w.setCell ⟨B b.h, 1, none⟩ (.int .u32 n)) := by
  have hfr : Fr (fun k => k = B b.h) w (w.setCell ⟨B b.h, 1, none⟩ (.int .u32 n)) := (Fr.refl _ _).setCell _ _ (fun _ => rfl)
  obtain ⟨e1, e2, e3⟩ := h.d4 b hb
  have key : ∀ o ∈ setn L b.h n, ∃ q ∈ L, o.h = q.h := fun o ho => by
    obtain ⟨q, hq, e⟩ := mem_setn.1 ho
    exact ⟨q, hq, by rw [e]; split <;> rfl⟩
  refine ⟨⟨by rw [hfr.block p h.lt (fun e => e1 e.symm)]; exact h.hp, h.ar.fr hfr (fun k hk e => e3 (e ▸ hk)), by rw [alive_setn]; exact hfr.ownsMap h.mp (fun e => e2 e.symm), by rw [alive_setn]; exact h.mo.congr (fun t => (lvh_setn L b.h n t).symm) rfl, fun o ho => ?_, fun o ho => ?_, fun i sp g1 g2 => ?_, fun o ho q hq => ?_, h.d1, h.d2, h.d3, fun o ho => ?_⟩, hfr⟩
  · obtain ⟨q, hq, e⟩ := mem_setn.1 ho
    by_cases hx : q.h = b.h
    · rw [if_pos hx] at e
      have hqb := bl_eq hn hq hb hx
      subst hqb
      rw [e]
      simp only
      rw [heap_setCell_same _ _ _ _ _ _ (h.ob q hq)]
      rfl
    · rw [if_neg hx] at e
      rw [e, hfr.block _ (h.ltb hq) (fun k => hx (h.inj q hq b hb k))]
      exact h.ob q hq
  · obtain ⟨q, hq, e⟩ := key o ho
    rw [e]; exact h.pl q hq
  · obtain ⟨q, hq, e⟩ := h.co i sp g1 g2
    exact ⟨_, mem_setn.2 ⟨q, hq, rfl⟩, by split <;> exact e⟩
  · obtain ⟨o', ho', e⟩ := key o ho
    obtain ⟨q', hq', e'⟩ := key q hq
    rw [e, e']; exact h.inj o' ho' q' hq'
  · obtain ⟨q, hq, e⟩ := key o ho
    rw [e]; exact h.d4 q hq
/-- find: a block. -/
theorem wfind_some (h : WkW w p pa pm Sa AA D B L) {b : Bl} (hb : b ∈ L) :
    Calls Try.prog 30 #[.pointer (some ⟨p, 0, none⟩), .int .u64 b.h] w fun e w' => e = .returned (.pointer (some ⟨B b.h, 0, none⟩)) ∧ w = w' := by
  obtain ⟨i, sp, h1, h2, h3, h4⟩ := h.pl b hb
  have hg := Get_some Sa w pa AA i sp b.h h.ar ⟨h1, h2, h3⟩
  rw [show encE sp.x = .pointer (some ⟨B b.h, 0, none⟩) by rw [h4]; rfl] at hg
  have c0 := h.c0
  have HG := hid hg
  clear hg h h1 h2 h3 h4
  generalize b.h = hd at *
  go_enter Try.func30, Try.ntmps30
  go_wp2_with fail
  refine HG.out.mono ?_
  rintro e w1 ⟨rfl, rfl⟩
  go_wp2
  go_ret
  exact ⟨rfl, rfl⟩
/-- find: there is none. -/
theorem wfind_none (h : WkW w p pa pm Sa AA D B L) {hd : Int} (hn : fb L hd = none) (h0 : U64 hd) :
    Calls Try.prog 30 #[.pointer (some ⟨p, 0, none⟩), .int .u64 hd] w fun e w' => e = .returned (.pointer none) ∧ w = w' := by
  have hg := Get_stale Sa w pa AA hd h.ar (fun i s hf => by
    obtain ⟨o, ho, e⟩ := h.co i s hf.1 hf.2.1
    exact fb_none.1 hn o ho (e.trans hf.2.2.symm)) h0.1 h0.2
  have c0 := h.c0
  have HG := hid hg
  clear hg h hn h0
  go_enter Try.func30, Try.ntmps30
  go_wp2_with fail
  refine HG.out.mono ?_
  rintro e w1 ⟨rfl, rfl⟩
  go_wp2
  go_ret
  exact ⟨rfl, rfl⟩
theorem wfind_nil (w : World) (hd : Int) : Calls Try.prog 30 #[.pointer none, .int .u64 hd] w fun e w' => e = .returned (.pointer none) ∧ w = w' := by
  go_enter Try.func30, Try.ntmps30
  go_wp2
  go_ret
  exact ⟨rfl, rfl⟩
/-- Up. -/
theorem wup_stale (h : WkW w p pa pm Sa AA D B L) {hd : Int} (hn : fb L hd = none) (h0 : U64 hd) :
    Calls Try.prog 21 #[.pointer (some ⟨p, 0, none⟩), .int .u64 hd] w fun e w' => e = .returned (.tuple #[.int .u32 0, .int .i64 2]) ∧ w = w' := by
  have HF := hid (wfind_none h hn h0)
  clear h hn h0
  go_enter Try.func21, Try.ntmps21
  go_wp2_with (refine HF.out.mono ?_; rintro e w1 ⟨rfl, rfl⟩)
  go_ret2
  exact ⟨rfl, rfl⟩
theorem wup_top (h : WkW w p pa pm Sa AA D B L) {b : Bl} (hb : b ∈ L) (hn : b.n = 4294967295) :
    Calls Try.prog 21 #[.pointer (some ⟨p, 0, none⟩), .int .u64 b.h] w fun e w' => e = .returned (.tuple #[.int .u32 0, .int .i64 4]) ∧ w = w' := by
  have HF := hid (wfind_some h hb)
  have o1 := h.o1 hb
  rw [hn] at o1
  clear h hn hb
  go_enter Try.func21, Try.ntmps21
  go_wp2_with (refine HF.out.mono ?_; rintro e w1 ⟨rfl, rfl⟩)
  go_ret2
  exact ⟨rfl, rfl⟩
theorem wup_ok (h : WkW w p pa pm Sa AA D B L) (hi : (L.map (·.h)).Nodup) {b : Bl} (hb : b ∈ L) (hn : 1 ≤ b.n ∧ b.n < 4294967295) :
    Calls Try.prog 21 #[.pointer (some ⟨p, 0, none⟩), .int .u64 b.h] w fun e w' => e = .returned (.tuple #[.int .u32 (b.n + 1), .int .i64 0]) ∧ WkW w' p pa pm Sa AA D B (setn L b.h (b.n + 1)) ∧ Fr (fun k => k = B b.h) w w' := by
  have HF := hid (wfind_some h hb)
  have o1 := h.o1 hb
  have z1 := h.of hb 1
  have HC := hid (h.cnt hi hb (b.n + 1))
  have hw : IntKind.u32.wrap (b.n + 1) = b.n + 1 := IntWalk.u32_in _ (by omega)
  have hq : (b.n == 4294967295) = false := by simp; omega
  clear h hi hb hn
  obtain ⟨nn, hnn⟩ : ∃ nn, nn = b.n := ⟨_, rfl⟩
  rw [← hnn] at o1 hw hq HC ⊢
  clear hnn
  go_enter Try.func21, Try.ntmps21
  go_wp2_with (refine HF.out.mono ?_; rintro e w1 ⟨rfl, rfl⟩)
  go_ret2
  exact ⟨rfl, HC.out.1, HC.out.2⟩
end
end Go.Proofs.Ytmampaglemleoab
