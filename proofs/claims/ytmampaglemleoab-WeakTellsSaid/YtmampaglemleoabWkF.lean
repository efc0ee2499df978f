/- WkA WkB WkC WkD WkE WkF in one -/
import Derived.Test.YtmampaglemleoabWkN
import Derived.Test.YtmampaglemleoabMpO
import Derived.Test.YtmampaglemleoabAeD
import Derived.Test.YtmampaglemleoabHpR
import Derived.Test.YtmampaglemleoabNum
import Derived.Test.YtmampaglemleoabMix
import Derived.BigQuiet
namespace Go.Proofs.Ytmampaglemleoab
open Go Go.ChangeShapes Go.WideShapes Go.ChangeAt Go.RowKit Go.Maps

theorem lawU : Keyed Try.prog TU := int_keyed Try.underlying35
theorem zeroU (w : World) : (zeroValue TU).run Try.prog w = .ok (.int .u64 0) w := by kernel_rfl
theorem wf_u64 {k : Int} (h : U64 k) : (Lit.int .u64 k).wf = true := WalkArith.wf_u64 ⟨h.1, h.2⟩
abbrev TM : TypeId := 66
/-- The live blocks of a list, by their targets. -/
def lvh (L : WL) (t : Int) : Option Int := (lv L t).map (·.h)
def alive (L : WL) : WL := L.filter fun b => !b.dead
/-- A table in memory. -/
structure WkW (w : World) (p pa pm : Nat) (Sa : Nat → Prop) (AA : Ar) (D : DataW Unit) (B : Int → Nat) (L : WL) : Prop where
  hp : w.heap[p]? = some (.cells #[.pointer (some ⟨pa, 0, none⟩), .map (some pm)] 68 (0, 0))
  ar : InS Sa w pa AA
  mp : w.ownsMap Try.prog TU (plainElem (H := Unit) Try.prog TU) pm (alive L).length D
  mo : MapOf .u64 .u64 D (lvh L) (alive L).length
  ob : ∀ b ∈ L, w.heap[B b.h]? = some (.cells #[.int .u64 b.t, .int .u32 b.n] 85 (0, 0))
  pl : ∀ b ∈ L, ∃ i sp, AA.L[i]? = some sp ∧ sp.t = true ∧ b.h = hand i sp.g ∧ sp.x = ((B b.h + 1 : Nat) : Int)
  co : ∀ (i : Nat) sp, AA.L[i]? = some sp → sp.t = true → ∃ b ∈ L, b.h = hand i sp.g
  inj : ∀ b ∈ L, ∀ c ∈ L, B b.h = B c.h → b.h = c.h
  d1 : ¬ Sa p
  d2 : ¬ Sa pm
  d3 : pm ≠ p
  d4 : ∀ b ∈ L, B b.h ≠ p ∧ B b.h ≠ pm ∧ ¬ Sa (B b.h)
section
variable {w w' : World} {p pa pm : Nat} {Sa : Nat → Prop} {AA : Ar} {D : DataW Unit} {B : Int → Nat} {L : WL} {fp : Nat → Prop}
theorem WkW.c0 (h : WkW w p pa pm Sa AA D B L) : w.cell? ⟨p, 0, none⟩ = some (.pointer (some ⟨pa, 0, none⟩)) := by rw [cell_of_row w p 0 _ _ _ h.hp]; rfl
theorem WkW.c1 (h : WkW w p pa pm Sa AA D B L) : w.cell? ⟨p, 1, none⟩ = some (.map (some pm)) := by rw [cell_of_row w p 1 _ _ _ h.hp]; rfl
theorem WkW.lt (h : WkW w p pa pm Sa AA D B L) : p < w.heap.size := (Array.getElem?_eq_some_iff.1 h.hp).1
theorem WkW.ltb (h : WkW w p pa pm Sa AA D B L) {b : Bl} (hb : b ∈ L) : B b.h < w.heap.size := (Array.getElem?_eq_some_iff.1 (h.ob b hb)).1
theorem WkW.o0 (h : WkW w p pa pm Sa AA D B L) {b : Bl} (hb : b ∈ L) : w.cell? ⟨B b.h, 0, none⟩ = some (.int .u64 b.t) := by rw [cell_of_row w _ 0 _ _ _ (h.ob b hb)]; rfl
theorem WkW.o1 (h : WkW w p pa pm Sa AA D B L) {b : Bl} (hb : b ∈ L) : w.cell? ⟨B b.h, 1, none⟩ = some (.int .u32 b.n) := by rw [cell_of_row w _ 1 _ _ _ (h.ob b hb)]; rfl
theorem WkW.of (h : WkW w p pa pm Sa AA D B L) {b : Bl} (hb : b ∈ L) (k : Nat) : w.frozen? ⟨B b.h, k, none⟩ = false := frozen_of_row w _ k _ _ (h.ob b hb)
theorem WkW.fr (h : WkW w p pa pm Sa AA D B L) (hf : Fr fp w w') (h1 : ¬ fp p) (h2 : ¬ fp pm) (h3 : ∀ k, Sa k → ¬ fp k) (h4 : ∀ b ∈ L, ¬ fp (B b.h)) : WkW w' p pa pm Sa AA D B L :=
  ⟨by rw [hf.block p h.lt h1]; exact h.hp, h.ar.fr hf h3, hf.ownsMap h.mp h2, h.mo, fun b hb => by rw [hf.block _ (h.ltb hb) (h4 b hb)]; exact h.ob b hb, h.pl, h.co, h.inj, h.d1, h.d2, h.d3, h.d4⟩
theorem WkW.no (h : WkW w p pa pm Sa AA D B L) (hf : Fr (fun _ => False) w w') : WkW w' p pa pm Sa AA D B L := h.fr hf (fun e => e) (fun e => e) (fun _ _ e => e) (fun _ _ e => e)
theorem alive_setn (L : WL) (x n : Int) : (alive (setn L x n)).length = (alive L).length := by
  unfold alive setn
  rw [List.filter_map, List.length_map]
  congr 2
  funext b
  simp only [Function.comp]
  split <;> rfl
theorem lvh_setn (L : WL) (x n t : Int) : lvh (setn L x n) t = lvh L t := by
  unfold lvh lv setn
  rw [List.find?_map, Option.map_map]
  have e1 : ((fun b : Bl => b.t == t && !b.dead) ∘ fun b => if b.h = x then { b with n := n } else b) = fun b => b.t == t && !b.dead := by
    funext b; simp only [Function.comp]; split <;> rfl
  rw [e1]
  congr 1
  funext b
  simp only [Function.comp]
  split <;> rfl
/-- A block's count is another one. -/
theorem WkW.cnt (h : WkW w p pa pm Sa AA D B L) (hn : (L.map (·.h)).Nodup) {b : Bl} (hb : b ∈ L) (n : Int) : WkW (w.setCell ⟨B b.h, 1, none⟩ (.int .u32 n)) p pa pm Sa AA D B (setn L b.h n) ∧ Fr (fun k => k = B b.h) w (w.setCell ⟨B b.h, 1, none⟩ (.int .u32 n)) := by
  have hfr : Fr (fun k => k = B b.h) w (w.setCell ⟨B b.h, 1, none⟩ (.int .u32 n)) := (Fr.refl _ _).setCell _ _ (fun _ => rfl)
  obtain ⟨e1, e2, e3⟩ := h.d4 b hb
  have key : ∀ o ∈ setn L b.h n, ∃ q ∈ L, o.h = q.h := fun o ho => by
    obtain ⟨q, hq, e⟩ := mem_setn.1 ho
    exact ⟨q, hq, by rw [e]; split <;> rfl⟩
  refine ⟨⟨by rw [hfr.block p h.lt (fun e => e1 e.symm)]; exact h.hp, h.ar.fr hfr (fun k hk e => e3 (e ▸ hk)), by rw [alive_setn]; exact hfr.ownsMap h.mp (fun e => e2 e.symm), by rw [alive_setn]; exact h.mo.congr (fun t => (lvh_setn L b.h n t).symm) rfl, fun o ho => ?_, fun o ho => ?_, fun i sp g1 g2 => ?_, fun o ho q hq => ?_, h.d1, h.d2, h.d3, fun o ho => ?_⟩, hfr⟩
  · obtain ⟨q, hq, e⟩ := mem_setn.1 ho
    by_cases hx : q.h = b.h
    · rw [if_pos hx] at e
      have hqb := bl_eq hn hq hb hx
      subst hqb
      rw [e]
      simp only
      rw [heap_setCell_same _ _ _ _ _ _ (h.ob q hq)]
      rfl
    · rw [if_neg hx] at e
      rw [e, hfr.block _ (h.ltb hq) (fun k => hx (h.inj q hq b hb k))]
      exact h.ob q hq
  · obtain ⟨q, hq, e⟩ := key o ho
    rw [e]; exact h.pl q hq
  · obtain ⟨q, hq, e⟩ := h.co i sp g1 g2
    exact ⟨_, mem_setn.2 ⟨q, hq, rfl⟩, by split <;> exact e⟩
  · obtain ⟨o', ho', e⟩ := key o ho
    obtain ⟨q', hq', e'⟩ := key q hq
    rw [e, e']; exact h.inj o' ho' q' hq'
  · obtain ⟨q, hq, e⟩ := key o ho
    rw [e]; exact h.d4 q hq
/-- find: a block. -/
theorem wfind_some (h : WkW w p pa pm Sa AA D B L) {b : Bl} (hb : b ∈ L) :
    Calls Try.prog 30 #[.pointer (some ⟨p, 0, none⟩), .int .u64 b.h] w fun e w' => e = .returned (.pointer (some ⟨B b.h, 0, none⟩)) ∧ w = w' := by
  obtain ⟨i, sp, h1, h2, h3, h4⟩ := h.pl b hb
  have hg := Get_some Sa w pa AA i sp b.h h.ar ⟨h1, h2, h3⟩
  rw [show encE sp.x = .pointer (some ⟨B b.h, 0, none⟩) by rw [h4]; rfl] at hg
  have c0 := h.c0
  have HG := hid hg
  clear hg h h1 h2 h3 h4
  generalize b.h = hd at *
  go_enter Try.func30, Try.ntmps30
  go_wp2_with fail
  refine HG.out.mono ?_
  rintro e w1 ⟨rfl, rfl⟩
  go_wp2
  go_ret
  exact ⟨rfl, rfl⟩
/-- find: there is none. -/
theorem wfind_none (h : WkW w p pa pm Sa AA D B L) {hd : Int} (hn : fb L hd = none) (h0 : U64 hd) :
    Calls Try.prog 30 #[.pointer (some ⟨p, 0, none⟩), .int .u64 hd] w fun e w' => e = .returned (.pointer none) ∧ w = w' := by
  have hg := Get_stale Sa w pa AA hd h.ar (fun i s hf => by
    obtain ⟨o, ho, e⟩ := h.co i s hf.1 hf.2.1
    exact fb_none.1 hn o ho (e.trans hf.2.2.symm)) h0.1 h0.2
  have c0 := h.c0
  have HG := hid hg
  clear hg h hn h0
  go_enter Try.func30, Try.ntmps30
  go_wp2_with fail
  refine HG.out.mono ?_
  rintro e w1 ⟨rfl, rfl⟩
  go_wp2
  go_ret
  exact ⟨rfl, rfl⟩
theorem wfind_nil (w : World) (hd : Int) : Calls Try.prog 30 #[.pointer none, .int .u64 hd] w fun e w' => e = .returned (.pointer none) ∧ w = w' := by
  go_enter Try.func30, Try.ntmps30
  go_wp2
  go_ret
  exact ⟨rfl, rfl⟩
/-- Up. -/
theorem wup_stale (h : WkW w p pa pm Sa AA D B L) {hd : Int} (hn : fb L hd = none) (h0 : U64 hd) :
    Calls Try.prog 21 #[.pointer (some ⟨p, 0, none⟩), .int .u64 hd] w fun e w' => e = .returned (.tuple #[.int .u32 0, .int .i64 2]) ∧ w = w' := by
  have HF := hid (wfind_none h hn h0)
  clear h hn h0
  go_enter Try.func21, Try.ntmps21
  go_wp2_with (refine HF.out.mono ?_; rintro e w1 ⟨rfl, rfl⟩)
  go_ret2
  exact ⟨rfl, rfl⟩
theorem wup_top (h : WkW w p pa pm Sa AA D B L) {b : Bl} (hb : b ∈ L) (hn : b.n = 4294967295) :
    Calls Try.prog 21 #[.pointer (some ⟨p, 0, none⟩), .int .u64 b.h] w fun e w' => e = .returned (.tuple #[.int .u32 0, .int .i64 4]) ∧ w = w' := by
  have HF := hid (wfind_some h hb)
  have o1 := h.o1 hb
  rw [hn] at o1
  clear h hn hb
  go_enter Try.func21, Try.ntmps21
  go_wp2_with (refine HF.out.mono ?_; rintro e w1 ⟨rfl, rfl⟩)
  go_ret2
  exact ⟨rfl, rfl⟩
theorem wup_ok (h : WkW w p pa pm Sa AA D B L) (hi : (L.map (·.h)).Nodup) {b : Bl} (hb : b ∈ L) (hn : 1 ≤ b.n ∧ b.n < 4294967295) :
    Calls Try.prog 21 #[.pointer (some ⟨p, 0, none⟩), .int .u64 b.h] w fun e w' => e = .returned (.tuple #[.int .u32 (b.n + 1), .int .i64 0]) ∧ WkW w' p pa pm Sa AA D B (setn L b.h (b.n + 1)) ∧ Fr (fun k => k = B b.h) w w' := by
  have HF := hid (wfind_some h hb)
  have o1 := h.o1 hb
  have z1 := h.of hb 1
  have HC := hid (h.cnt hi hb (b.n + 1))
  have hw : IntKind.u32.wrap (b.n + 1) = b.n + 1 := IntWalk.u32_in _ (by omega)
  have hq : (b.n == 4294967295) = false := by simp; omega
  clear h hi hb hn
  obtain ⟨nn, hnn⟩ : ∃ nn, nn = b.n := ⟨_, rfl⟩
  rw [← hnn] at o1 hw hq HC ⊢
  clear hnn
  go_enter Try.func21, Try.ntmps21
  go_wp2_with (refine HF.out.mono ?_; rintro e w1 ⟨rfl, rfl⟩)
  go_ret2
  exact ⟨rfl, HC.out.1, HC.out.2⟩
end
end Go.Proofs.Ytmampaglemleoab

namespace Go.Proofs.Ytmampaglemleoab
open Go Go.ChangeShapes Go.WideShapes Go.ChangeAt Go.RowKit Go.Maps

section
variable {w w' : World} {p pa pm : Nat} {Sa : Nat → Prop} {AA : Ar} {D : DataW Unit} {B : Int → Nat} {L : WL} {fp : Nat → Prop}
theorem WkW.look (h : WkW w p pa pm Sa AA D B L) {t : Int} (ht : U64 t) : (Instr.lookup TM (.map (some pm)) (.int .u64 t) false).run Try.prog w = .ok (.int .u64 ((lvh L t).getD 0)) w :=
  h.mo.look Try.underlying66 Try.underlying35 Try.underlying35 (zeroU w) h.mp (wf_u64 ht)
theorem WkW.look_ok (h : WkW w p pa pm Sa AA D B L) {t : Int} (ht : U64 t) : (Instr.lookup TM (.map (some pm)) (.int .u64 t) true).run Try.prog w = .ok (.tuple #[.int .u64 ((lvh L t).getD 0), .bool (lvh L t).isSome]) w :=
  h.mo.look_ok Try.underlying66 Try.underlying35 Try.underlying35 (zeroU w) h.mp (wf_u64 ht)
/-- Of whom a live target's block is. -/
theorem lvh_mine {A : Ar} (hi : WkJ ⟨A, L⟩) {b : Bl} (hb : b ∈ L) : ((lvh L b.t).getD 0 = b.h) ↔ b.dead = false := by
  have hz := (hi.hbd hb).1
  constructor
  · intro e
    unfold lvh at e
    cases hl : lv L b.t with
    | none => rw [hl] at e; simp at e; omega
    | some c =>
      rw [hl] at e
      simp at e
      obtain ⟨h1, h2, h3⟩ := lv_some hl
      rw [← bl_eq hi.nd h1 hb e]
      exact h3
  · intro hd
    unfold lvh
    rw [hi.lv_mem hb hd]
    rfl
/-- Lock. -/
theorem wlock_stale (h : WkW w p pa pm Sa AA D B L) {hd : Int} (hn : fb L hd = none) (h0 : U64 hd) :
    Calls Try.prog 20 #[.pointer (some ⟨p, 0, none⟩), .int .u64 hd] w fun e w' => e = .returned (.tuple #[.int .u64 0, .int .i64 2]) ∧ w = w' := by
  have HF := hid (wfind_none h hn h0)
  clear h hn h0
  go_enter Try.func20, Try.ntmps20
  go_wp2_with (refine HF.out.mono ?_; rintro e w1 ⟨rfl, rfl⟩)
  go_ret2
  exact ⟨rfl, rfl⟩
set_option maxHeartbeats 1000000 in
theorem wlock_some (h : WkW w p pa pm Sa AA D B L) {A : Ar} (hi : WkI ⟨A, L⟩) {b : Bl} (hb : b ∈ L) :
    Calls Try.prog 20 #[.pointer (some ⟨p, 0, none⟩), .int .u64 b.h] w fun e w' => e = .returned (.tuple (if b.dead then #[.int .u64 0, .int .i64 10] else #[.int .u64 b.t, .int .i64 0])) ∧ Fr (fun _ => False) w w' := by
  have HF := hid (wfind_some h hb)
  have o0 := h.o0 hb
  have c1 := h.c1
  have hlk : ∀ W, Fr (fun _ => False) w W → (Instr.lookup TM (.map (some pm)) (.int .u64 b.t) false).run Try.prog W = .ok (.int .u64 ((lvh L b.t).getD 0)) W := fun W hf => (h.no hf).look (hi.bd b hb).1
  have hm := lvh_mine hi.toWkJ hb
  obtain ⟨dd, hdd⟩ : ∃ dd, dd = b.dead := ⟨_, rfl⟩
  rw [← hdd] at hm ⊢
  clear hdd
  have HLK := hid hlk
  clear h hi hb hlk
  obtain ⟨q, hq⟩ : ∃ q, q = B b.h := ⟨_, rfl⟩
  rw [← hq] at o0 HF
  clear hq
  obtain ⟨x, hx⟩ : ∃ x, x = (lvh L b.t).getD 0 := ⟨_, rfl⟩
  rw [← hx] at hm HLK
  clear hx
  generalize b.h = hd at *
  generalize b.t = tt at *
  go_enter Try.func20, Try.ntmps20
  go_wp2_with fail
  refine HF.out.mono ?_
  rintro e w1 ⟨rfl, rfl⟩
  go_wp2
  refine wp_region_mix [0, 0, 0, 1, 0, 0, 0, 1, 1, 0, 0] (fun W => W.cell? ⟨p, 1, none⟩ = some (.map (some pm)) ∧ W.cell? ⟨q, 0, none⟩ = some (.int .u64 tt) ∧ (Instr.lookup TM (.map (some pm)) (.int .u64 tt) false).run Try.prog W = .ok (.int .u64 x) W) (by kernel_rfl) (by kernel_rfl) ⟨by simpa using c1, by simpa using o0, by first | exact HLK.out _ (Fr.refl _ _) | exact HLK.out _ ((Fr.refl _ _).drewN _)⟩ ?_
  repeat (first
    | (refine' wpMix_value _ rfl rfl _ _; rotate_left; (solve | (intro W; go_simp) | (intro W; go_simp; with_reducible rfl)); simp only [Act.put, List.setIfInBounds_toArray, List.set_cons_zero, List.set_cons_succ])
    | (refine' wpMix_read _ rfl rfl _ _; rotate_left; (solve | (rintro W ⟨h1, h2, h3⟩; go_simp) | (rintro W ⟨h1, h2, h3⟩; go_simp; with_reducible rfl)); simp only [Act.put, List.setIfInBounds_toArray, List.set_cons_zero, List.set_cons_succ]))
  refine wpMix_end ?_
  have HM := hid hm
  clear hm
  cases dd with
  | true =>
    have hne : (x != hd) = true := by
      have : x ≠ hd := fun e => by have := HM.out.1 e; cases this
      simpa using this
    go_wp2
    go_ret2
    exact ⟨rfl, (Fr.refl _ _).drewN _⟩
  | false =>
    have hne : (x != hd) = false := by
      have : x = hd := HM.out.2 rfl
      simpa using this
    go_wp2
    go_ret2
    exact ⟨rfl, (Fr.refl _ _).drewN _⟩
theorem alive_kill {A : Ar} (hi : WkJ ⟨A, L⟩) {b : Bl} (hb : b ∈ L) (hd : b.dead = false) : (alive (kill L b.h)).length + 1 = (alive L).length := by
  have hn := hi.nd
  simp only at hn
  clear hi
  induction L with
  | nil => cases hb
  | cons c L ih =>
    rw [List.map_cons, List.nodup_cons] at hn
    have hk : kill (c :: L) b.h = (if c.h = b.h then { c with dead := true } else c) :: kill L b.h := rfl
    rw [hk]
    rcases List.mem_cons.1 hb with rfl | hb'
    · rw [if_pos rfl]
      have e : kill L b.h = L := by
        unfold kill
        refine (List.map_congr_left fun o ho => ?_).trans (List.map_id _)
        rw [if_neg (fun e => hn.1 (List.mem_map.2 ⟨o, ho, e⟩))]
        rfl
      rw [e]
      simp [alive, hd]
    · have hne : c.h ≠ b.h := fun e => hn.1 (List.mem_map.2 ⟨b, hb', e.symm⟩)
      rw [if_neg hne]
      have := ih hb' hn.2
      unfold alive at *
      rw [List.filter_cons, List.filter_cons]
      split
      · simp only [List.length_cons]; omega
      · exact this
theorem lvh_kill {A : Ar} (hi : WkJ ⟨A, L⟩) {b : Bl} (hb : b ∈ L) (hd : b.dead = false) (t : Int) : lvh (kill L b.h) t = if t = b.t then none else lvh L t := by
  by_cases e : t = b.t
  · subst e
    rw [if_pos rfl]
    unfold lvh
    rw [lv_none.2, Option.map_none]
    intro o ho hod ht
    obtain ⟨q, hq, e⟩ := mem_kill.1 ho
    by_cases hx : q.h = b.h
    · rw [if_pos hx] at e; rw [e] at hod; cases hod
    · rw [if_neg hx] at e
      subst e
      exact hx (by rw [hi.one o hq b hb hod hd ht])
  · rw [if_neg e]
    unfold lvh
    congr 1
    unfold lv kill
    have : ∀ M : WL, (∀ o ∈ M, o ∈ L) → (M.map fun o => if o.h = b.h then { o with dead := true } else o).find? (fun o => o.t == t && !o.dead) = M.find? (fun o => o.t == t && !o.dead) := by
      intro M hM
      induction M with
      | nil => rfl
      | cons c M ih =>
        rw [List.map_cons, List.find?_cons, List.find?_cons, ih (fun o ho => hM o (by simp [ho]))]
        by_cases hx : c.h = b.h
        · have hcb : c = b := bl_eq hi.nd (hM c (by simp)) hb hx
          subst hcb
          have : (c.t == t) = false := by simpa using fun k => e k.symm
          rw [if_pos rfl]
          simp [this]
        · rw [if_neg hx]
    exact this L (fun o ho => ho)
/-- A block's target has died; the map is told so. -/
theorem WkW.kill {A : Ar} (h : WkW w p pa pm Sa AA D B L) (hi : WkJ ⟨A, L⟩) {b : Bl} (hb : b ∈ L) (hd : b.dead = false) {D' : DataW Unit} {n : Nat} (hm : w'.ownsMap Try.prog TU (plainElem (H := Unit) Try.prog TU) pm n (D.del (.int .u64 b.t))) (hf : Fr (fun k => k = pm) w w') (e : D' = D.del (.int .u64 b.t)) :
    WkW w' p pa pm Sa AA D' B (Go.Proofs.Ytmampaglemleoab.kill L b.h) := by
  subst e
  have hmo := (h.mo.del b.t).congr (g := lvh (Go.Proofs.Ytmampaglemleoab.kill L b.h)) (d := (alive (Go.Proofs.Ytmampaglemleoab.kill L b.h)).length) (fun t => (lvh_kill hi hb hd t).symm) (by
    have h1 := alive_kill hi hb hd
    have h2 : (lvh L b.t).isSome = true := by unfold lvh; rw [hi.lv_mem hb hd]; rfl
    rw [if_pos h2]
    omega)
  have key : ∀ o ∈ Go.Proofs.Ytmampaglemleoab.kill L b.h, ∃ q ∈ L, o.h = q.h ∧ o.t = q.t ∧ o.n = q.n := fun o ho => by
    obtain ⟨q, hq, e⟩ := mem_kill.1 ho
    exact ⟨q, hq, by rw [e]; split <;> rfl, by rw [e]; split <;> rfl, by rw [e]; split <;> rfl⟩
  have hm2 := ownsMap_fit hm
  rw [hmo.sz] at hm2
  refine ⟨by rw [hf.block p h.lt (fun e => h.d3 e.symm)]; exact h.hp, h.ar.fr hf (fun k hk e => h.d2 (e ▸ hk)), hm2, hmo, fun o ho => ?_, fun o ho => ?_, fun i sp g1 g2 => ?_, fun o ho q hq => ?_, h.d1, h.d2, h.d3, fun o ho => ?_⟩
  · obtain ⟨q, hq, e1, e2, e3⟩ := key o ho
    rw [e1, e2, e3, hf.block _ (h.ltb hq) (fun e => (h.d4 q hq).2.1 e)]
    exact h.ob q hq
  · obtain ⟨q, hq, e, _⟩ := key o ho
    rw [e]; exact h.pl q hq
  · obtain ⟨q, hq, e⟩ := h.co i sp g1 g2
    exact ⟨_, mem_kill.2 ⟨q, hq, rfl⟩, by split <;> exact e⟩
  · obtain ⟨o', ho', e, _⟩ := key o ho
    obtain ⟨q', hq', e', _⟩ := key q hq
    rw [e, e']; exact h.inj o' ho' q' hq'
  · obtain ⟨q, hq, e, _⟩ := key o ho
    rw [e]; exact h.d4 q hq
/-- The map is as it was. -/
theorem WkW.same (h : WkW w p pa pm Sa AA D B L) {t : Int} (hl : lv L t = none) {n : Nat} (hm : w'.ownsMap Try.prog TU (plainElem (H := Unit) Try.prog TU) pm n (D.del (.int .u64 t))) (hf : Fr (fun k => k = pm) w w') :
    WkW w' p pa pm Sa AA (D.del (.int .u64 t)) B L := by
  have hmo := (h.mo.del t).congr (g := lvh L) (d := (alive L).length) (fun s => by
    by_cases e : s = t
    · rw [if_pos e, e]; unfold lvh; rw [hl]; rfl
    · rw [if_neg e]) (by
    have h2 : (lvh L t).isSome = false := by unfold lvh; rw [hl]; rfl
    rw [h2]; rfl)
  have hm2 := ownsMap_fit hm
  rw [hmo.sz] at hm2
  exact ⟨by rw [hf.block p h.lt (fun e => h.d3 e.symm)]; exact h.hp, h.ar.fr hf (fun k hk e => h.d2 (e ▸ hk)), hm2, hmo, fun o ho => by rw [hf.block _ (h.ltb ho) (fun e => (h.d4 o ho).2.1 e)]; exact h.ob o ho, h.pl, h.co, h.inj, h.d1, h.d2, h.d3, h.d4⟩
def DiePost (p pa pm : Nat) (Sa : Nat → Prop) (AA : Ar) (B : Int → Nat) (L : WL) (t : Int) (w : World) (e : Ending) (w' : World) : Prop :=
  e = .returned (.bool (lv L t).isSome) ∧ (∃ D', WkW w' p pa pm Sa AA D' B (dieL L t)) ∧ Fr (fun k => k = pm) w w'
/-- Die. -/
theorem wdie_any (h : WkW w p pa pm Sa AA D B L) {A : Ar} (hi : WkJ ⟨A, L⟩) {t : Int} (ht : U64 t) :
    Calls Try.prog 18 #[.pointer (some ⟨p, 0, none⟩), .int .u64 t] w (DiePost p pa pm Sa AA B L t w) := by
  have hlk := h.look_ok ht
  have HK := hid (keyOf_int_mk (P := Try.prog) Try.underlying35 (wf_u64 ht))
  have c1 := h.c1
  have HM := hid h.mp
  have e1 : (lvh L t).isSome = (lv L t).isSome := by unfold lvh; rw [Option.isSome_map]
  rw [e1] at hlk
  unfold DiePost
  have HP := hid (show ∀ w1 n, w1.ownsMap Try.prog TU (plainElem (H := Unit) Try.prog TU) pm n (D.del (.int .u64 t)) → w.mapTurned w1 pm → (∃ D', WkW w1 p pa pm Sa AA D' B (dieL L t)) ∧ Fr (fun k => k = pm) w w1 from fun w1 n ho hturn => by
    have hf := fr_mapTurned hturn
    refine ⟨?_, hf⟩
    unfold dieL
    cases hl : lv L t with
    | none => exact ⟨_, h.same hl ho hf⟩
    | some b =>
      obtain ⟨h1, h2, h3⟩ := lv_some hl
      subst h2
      exact ⟨_, h.kill hi h1 h3 ho hf rfl⟩)
  obtain ⟨x, hx⟩ : ∃ x, x = (lvh L t).getD 0 := ⟨_, rfl⟩
  rw [← hx] at hlk
  obtain ⟨y, hy⟩ : ∃ y, y = (lv L t).isSome := ⟨_, rfl⟩
  rw [← hy] at hlk ⊢
  clear h hi hx hy e1
  go_enter Try.func18, Try.ntmps18
  go_wp2_with (at_delete; refine wpList_delete_own _ rfl _ _ TM TU rfl TU lawU Try.underlying66 _ pm _ _ rfl HM.out _ _ rfl HK.out ?_; intro w1 hown1 hturn1)
  go_ret
  obtain ⟨q1, q2⟩ := HP.out _ _ hown1 hturn1
  exact ⟨rfl, q1, q2⟩
end
end Go.Proofs.Ytmampaglemleoab

namespace Go.Proofs.Ytmampaglemleoab
open Go Go.ChangeShapes Go.WideShapes Go.ChangeAt Go.RowKit Go.Maps

section
variable {w w' : World} {p pa pm : Nat} {Sa : Nat → Prop} {AA : Ar} {D : DataW Unit} {B : Int → Nat} {L : WL} {fp : Nat → Prop}
theorem cutb_kill (L : WL) (x : Int) : cutb (kill L x) x = cutb L x := by
  unfold cutb kill
  induction L with
  | nil => rfl
  | cons c L ih =>
    rw [List.map_cons, List.filter_cons, List.filter_cons, ih]
    by_cases e : c.h = x
    · simp [e]
    · simp [e]
theorem cutb_setn (L : WL) (x n : Int) : cutb (setn L x n) x = cutb L x := by
  unfold cutb setn
  induction L with
  | nil => rfl
  | cons c L ih =>
    rw [List.map_cons, List.filter_cons, List.filter_cons, ih]
    by_cases e : c.h = x
    · simp [e]
    · simp [e]
theorem filter_cut (L : WL) (x : Int) (f : Bl → Bool) (h : ∀ o ∈ L, o.h = x → f o = false) : (cutb L x).filter f = L.filter f := by
  unfold cutb
  rw [List.filter_filter]
  refine List.filter_congr fun o ho => ?_
  by_cases e : o.h = x
  · rw [h o ho e]; rfl
  · simp [e]
theorem find_cut (L : WL) (x : Int) (f : Bl → Bool) (h : ∀ o ∈ L, o.h = x → f o = false) : (cutb L x).find? f = L.find? f := by
  rw [← List.head?_filter, ← List.head?_filter, filter_cut L x f h]
/-- A dead block's place is dropped. -/
theorem WkW.cut (h : WkW w p pa pm Sa AA D B L) {x : Int} {i : Nat} {sp : Spot} (hdead : ∀ o ∈ L, o.h = x → o.dead = true) (hF : Found AA x i sp) (h1 : InS (ext Sa w w') w' pa (dropAt AA i sp)) (hf : Fr Sa w w') :
    WkW w' p pa pm (ext Sa w w') (dropAt AA i sp) D B (cutb L x) := by
  have hA := h.ar.ok
  have ea : alive (cutb L x) = alive L := filter_cut L x _ fun o ho e => by rw [hdead o ho e]; rfl
  have el : ∀ t, lvh (cutb L x) t = lvh L t := fun t => by
    unfold lvh lv
    rw [find_cut L x _ fun o ho e => by rw [hdead o ho e]; simp]
  have hlt : ∀ {k}, k < w.heap.size → ¬ Sa k → ¬ ext Sa w w' k := fun hk hn e => by
    rcases e with e | e
    · exact hn e
    · omega
  refine ⟨by rw [hf.block p h.lt h.d1]; exact h.hp, h1, by rw [ea]; exact hf.ownsMap h.mp h.d2, by rw [ea]; exact h.mo.congr (fun t => (el t).symm) rfl, fun b hb => ?_, fun b hb => ?_, fun j r g1 g2 => ?_, fun b hb c hc => h.inj b (mem_cutb.1 hb).1 c (mem_cutb.1 hc).1, hlt h.lt h.d1, hlt h.mp.lt h.d2, h.d3, fun b hb => ?_⟩
  · have hb := (mem_cutb.1 hb).1
    rw [hf.block _ (h.ltb hb) (h.d4 b hb).2.2]; exact h.ob b hb
  · obtain ⟨hb, hne⟩ := mem_cutb.1 hb
    obtain ⟨j, r, f1, f2, f3, f4⟩ := h.pl b hb
    refine ⟨j, r, (drop_at hF.1 j r f2).2 ⟨f1, fun e => ?_⟩, f2, f3, f4⟩
    subst e
    rw [hF.1] at f1
    cases f1
    exact hne (f3.trans hF.2.2.symm)
  · obtain ⟨g3, g4⟩ := (drop_at hF.1 j r g2).1 g1
    obtain ⟨b, hb, e⟩ := h.co j r g3 g2
    refine ⟨b, mem_cutb.2 ⟨hb, fun k => g4 ?_⟩, e⟩
    have k1 := hA.lt g3
    have k2 := hA.lt hF.1
    exact (hand_inj2 (by omega) (by omega) ((e.symm.trans k).trans hF.2.2)).1
  · have hb := (mem_cutb.1 hb).1
    obtain ⟨e1, e2, e3⟩ := h.d4 b hb
    exact ⟨e1, e2, hlt (h.ltb hb) e3⟩
theorem Drop_any (S : Nat → Prop) (w : World) (p : Nat) (A : Ar) (i : Nat) (s : Spot) (hd : Int) (h : InS S w p A) (hf : Found A hd i s) :
    Calls Try.prog 39 #[.pointer (some ⟨p, 0, none⟩), .int .u64 hd] w fun e w' => e = .returned (.tuple #[encE s.x, .int .i64 0]) ∧ InS (ext S w w') w' p (dropAt A i s) ∧ Fr S w w' := by
  by_cases hw : s.g < 4294967295
  · exact Drop_again S w p A i s hd h hf hw
  · refine (Drop_worn S w p A i s hd h hf hw).mono ?_
    rintro e w' ⟨h1, h2, h3⟩
    exact ⟨h1, h2.wider, h3⟩
def EndPost (p pa pm : Nat) (Sa : Nat → Prop) (AA : Ar) (B : Int → Nat) (L : WL) (x : Int) (w : World) (e : Ending) (w' : World) : Prop :=
  (∃ v, e = .returned v) ∧ (∃ Sa' D' i sp, Found AA x i sp ∧ WkW w' p pa pm Sa' (dropAt AA i sp) D' B (cutb L x) ∧ (∀ k, Sa' k → Sa k ∨ (w.heap.size ≤ k ∧ k < w'.heap.size))) ∧ Fr (fun k => k = pm ∨ Sa k) w w'
set_option maxHeartbeats 1000000 in
/-- end. -/
theorem wend_any (h : WkW w p pa pm Sa AA D B L) {A : Ar} (hi : WkJ ⟨A, L⟩) {b : Bl} (hb : b ∈ L) (ht : U64 b.t) :
    Calls Try.prog 31 #[.pointer (some ⟨p, 0, none⟩), .int .u64 b.h, .int .u64 b.t] w (EndPost p pa pm Sa AA B L b.h w) := by
  have hlk := h.look ht
  have HK := hid (keyOf_int_mk (P := Try.prog) Try.underlying35 (wf_u64 ht))
  have c0 := h.c0
  have c1 := h.c1
  have HM := hid h.mp
  have hm := lvh_mine hi hb
  obtain ⟨i, sp, h1, h2, h3, h4⟩ := h.pl b hb
  have hF : Found AA b.h i sp := ⟨h1, h2, h3⟩
  have HH := hid h
  have HI := hid hi
  have HB := hid hb
  have HF := hid hF
  obtain ⟨x, hx⟩ : ∃ x, x = (lvh L b.t).getD 0 := ⟨_, rfl⟩
  rw [← hx] at hlk hm
  have HMM := hid hm
  have HD := hid (fun W hI => Drop_any Sa W pa AA i sp b.h hI hF)
  clear h hi hb hm hx h1 h2 h3 h4 hF
  have hne : (x == b.h) = !b.dead := by
    have := HMM.out
    cases hd : b.dead with
    | true => have : x ≠ b.h := fun e => by have := this.1 e; rw [hd] at this; cases this
              simpa using this
    | false => simpa using this.2 hd
  cases hd : b.dead with
  | false =>
    rw [hd] at hne
    have HKL := hid (show ∀ w1 n, w1.ownsMap Try.prog TU (plainElem (H := Unit) Try.prog TU) pm n (D.del (.int .u64 b.t)) → w.mapTurned w1 pm → WkW w1 p pa pm Sa AA (D.del (.int .u64 b.t)) B (kill L b.h) ∧ Fr (fun k => k = pm) w w1 from fun w1 n ho hturn => ⟨HH.out.kill HI.out HB.out hd ho (fr_mapTurned hturn) rfl, fr_mapTurned hturn⟩)
    have hdd : ∀ o ∈ kill L b.h, o.h = b.h → o.dead = true := fun o ho e => by
      obtain ⟨q, hq, e2⟩ := mem_kill.1 ho
      by_cases hx : q.h = b.h
      · rw [e2, if_pos hx]
      · rw [if_neg hx] at e2; rw [e2] at e; exact absurd e hx
    have HDD := hid hdd
    clear hdd HH HI HB HMM hd
    generalize b.h = hh at *
    generalize b.t = tt at *
    go_enter Try.func31, Try.ntmps31
    go_wp2_with (at_delete; refine wpList_delete_own _ rfl _ _ TM TU rfl TU lawU Try.underlying66 _ pm _ _ rfl HM.out _ _ rfl HK.out ?_; intro w1 hown1 hturn1; obtain ⟨q1, q2⟩ := HKL.out _ _ hown1 hturn1; have d0 := q1.c0; have Q1 := hid q1; have Q2 := hid q2; clear q1 q2 hown1 hturn1)
    refine (HD.out _ Q1.out.ar).mono ?_
    rintro e w2 ⟨rfl, r1, r2⟩
    have R1 := hid r1
    have R2 := hid r2
    clear r1 r2
    go_wp2
    refine bodyPost_end (results_none rfl _ _ _) rfl ?_
    have hcut := Q1.out.cut HDD.out HF.out R1.out R2.out
    rw [cutb_kill] at hcut
    exact ⟨⟨_, rfl⟩, ⟨_, _, i, sp, HF.out, hcut, fun k hk => by
      rcases hk with hk | hk
      · exact .inl hk
      · exact .inr ⟨Nat.le_trans Q2.out.size hk.1, hk.2⟩⟩, (Q2.out.mono (fun k e _ => .inl e)).trans R2.out (fun k hk _ => .inr hk)⟩
  | true =>
    rw [hd] at hne
    have hdd : ∀ o ∈ L, o.h = b.h → o.dead = true := fun o ho e => by rw [bl_eq HI.out.nd ho HB.out e]; exact hd
    have HDD := hid hdd
    have hD := HD.out w HH.out.ar
    clear hdd HI HB HMM hd HD
    generalize b.h = hh at *
    generalize b.t = tt at *
    go_enter Try.func31, Try.ntmps31
    go_wp2_with fail
    refine hD.mono ?_
    rintro e w2 ⟨rfl, r1, r2⟩
    have R1 := hid r1
    have R2 := hid r2
    clear r1 r2
    go_wp2
    refine bodyPost_end (results_none rfl _ _ _) rfl ?_
    exact ⟨⟨_, rfl⟩, ⟨_, _, i, sp, HF.out, HH.out.cut HDD.out HF.out R1.out R2.out, fun k hk => hk⟩, R2.out.mono (fun k e _ => .inr e)⟩
end
end Go.Proofs.Ytmampaglemleoab

namespace Go.Proofs.Ytmampaglemleoab
open Go Go.ChangeShapes Go.WideShapes Go.ChangeAt Go.RowKit Go.Maps

section
variable {w w' : World} {p pa pm : Nat} {Sa : Nat → Prop} {AA : Ar} {D : DataW Unit} {B : Int → Nat} {L : WL} {fp : Nat → Prop}
/-- Down. -/
theorem wdown_stale (h : WkW w p pa pm Sa AA D B L) {hd : Int} (hn : fb L hd = none) (h0 : U64 hd) :
    Calls Try.prog 19 #[.pointer (some ⟨p, 0, none⟩), .int .u64 hd] w fun e w' => e = .returned (.tuple #[.int .u32 0, .int .i64 2]) ∧ w = w' := by
  have HF := hid (wfind_none h hn h0)
  clear h hn h0
  go_enter Try.func19, Try.ntmps19
  go_wp2_with (refine HF.out.mono ?_; rintro e w1 ⟨rfl, rfl⟩)
  go_ret2
  exact ⟨rfl, rfl⟩
theorem wdown_more (h : WkW w p pa pm Sa AA D B L) (hi : (L.map (·.h)).Nodup) {b : Bl} (hb : b ∈ L) (hn : 1 < b.n ∧ b.n ≤ 4294967295) :
    Calls Try.prog 19 #[.pointer (some ⟨p, 0, none⟩), .int .u64 b.h] w fun e w' => e = .returned (.tuple #[.int .u32 (b.n - 1), .int .i64 0]) ∧ WkW w' p pa pm Sa AA D B (setn L b.h (b.n - 1)) ∧ Fr (fun k => k = B b.h) w w' := by
  have HF := hid (wfind_some h hb)
  have o1 := h.o1 hb
  have z1 := h.of hb 1
  have HC := hid (h.cnt hi hb (b.n - 1))
  have hw : IntKind.u32.wrap (b.n - 1) = b.n - 1 := IntWalk.u32_in _ (by omega)
  have hq : (b.n - 1 == 0) = false := by simp; omega
  clear h hi hb hn
  obtain ⟨nn, hnn⟩ : ∃ nn, nn = b.n := ⟨_, rfl⟩
  rw [← hnn] at o1 hw hq HC ⊢
  clear hnn
  obtain ⟨mm, hmm⟩ : ∃ mm, mm = nn - 1 := ⟨_, rfl⟩
  rw [← hmm] at hw hq HC ⊢
  have hw2 : IntKind.u32.wrap (nn - 1) = mm := by rw [← hmm]; exact hw
  clear hmm hw
  go_enter Try.func19, Try.ntmps19
  go_wp2_with (refine HF.out.mono ?_; rintro e w1 ⟨rfl, rfl⟩)
  go_ret2
  exact ⟨rfl, HC.out.1, HC.out.2⟩
def DownPost (p pa pm : Nat) (Sa : Nat → Prop) (AA : Ar) (B : Int → Nat) (L : WL) (x : Int) (w : World) (e : Ending) (w' : World) : Prop :=
  e = .returned (.tuple #[.int .u32 0, .int .i64 0]) ∧ (∃ Sa' D' i sp, Found AA x i sp ∧ WkW w' p pa pm Sa' (dropAt AA i sp) D' B (cutb L x) ∧ (∀ k, Sa' k → Sa k ∨ (w.heap.size ≤ k ∧ k < w'.heap.size))) ∧ Fr (fun k => k = pm ∨ Sa k ∨ k = B x) w w'
theorem wdown_last (h : WkW w p pa pm Sa AA D B L) {A : Ar} (hi : WkJ ⟨A, L⟩) {b : Bl} (hb : b ∈ L) (hn : b.n = 1) (ht : U64 b.t) :
    Calls Try.prog 19 #[.pointer (some ⟨p, 0, none⟩), .int .u64 b.h] w (DownPost p pa pm Sa AA B L b.h w) := by
  have HF := hid (wfind_some h hb)
  have o0 := h.o0 hb
  have o1 := h.o1 hb
  have z1 := h.of hb 1
  have hd4 := (h.d4 b hb).2
  obtain ⟨hc1, hc2⟩ := h.cnt hi.nd hb 0
  obtain ⟨w1, hw1⟩ : ∃ w1, w1 = w.setCell ⟨B b.h, 1, none⟩ (.int .u32 0) := ⟨_, rfl⟩
  rw [← hw1] at hc1 hc2
  have hm : ({ b with n := 0 } : Bl) ∈ setn L b.h 0 := mem_setn.2 ⟨b, hb, by rw [if_pos rfl]⟩
  have HE := hid (wend_any hc1 (WkJ.cnts hi (x := b.h) (n := 0)) hm ht)
  have hk := hc1.o1 hm
  simp only at hk
  have HK := hid hk
  have HLT := hid (h.ltb hb)
  have HSZ := hid (show w1.heap.size = w.heap.size by rw [hw1]; simp)
  have HC2 := hid hc2
  have HW := hid hw1
  rw [hn] at o1
  clear h hi hb hn hc1 hc2 hw1 hm hk ht
  obtain ⟨q, hq⟩ : ∃ q, q = B b.h := ⟨_, rfl⟩
  rw [← hq] at HF o0 o1 z1 HC2 HW HLT HK hd4
  have HQ := hid hq
  clear hq
  obtain ⟨hh, hhh⟩ : ∃ hh, hh = b.h := ⟨_, rfl⟩
  rw [← hhh] at HF HE HQ ⊢
  clear hhh
  obtain ⟨tt, htt⟩ : ∃ tt, tt = b.t := ⟨_, rfl⟩
  rw [← htt] at HE o0
  clear htt
  have HD4 := hid hd4
  clear hd4
  go_enter Try.func19, Try.ntmps19
  go_wp2_with fail
  refine HF.out.mono ?_
  rintro e w1 ⟨rfl, rfl⟩
  go_wp2_with fail
  rw [← HW.out]
  refine HE.out.mono ?_
  rintro e w2 ⟨⟨v, rfl⟩, ⟨Sa', D', i, sp, a1, a2, a3⟩, a4⟩
  have hk2 : w2.cell? ⟨q, 1, none⟩ = some (.int .u32 0) := by
    rw [World.cell?_of_block (a4.block q (by have := HSZ.out; have := HLT.out; omega) (fun e => by
      rcases e with e | e
      · exact HD4.out.1 e
      · exact HD4.out.2 e))]
    exact HK.out
  have A2 := hid a2
  have A4 := hid a4
  have A1 := hid a1
  clear a2 a4 a1
  rw [cutb_setn] at A2
  go_wp2
  go_ret2
  exact ⟨rfl, ⟨Sa', D', i, sp, A1.out, A2.out, fun k hk => by rw [← HSZ.out]; exact a3 k hk⟩, (HC2.out.mono (fun k e _ => .inr (.inr (by rw [e, HQ.out])))).trans A4.out (fun k hk _ => by
    rcases hk with hk | hk
    · exact .inl hk
    · exact .inr (.inl hk))⟩
/-- A new block, laid behind the others; the map does not name it yet. -/
theorem lvh_new (L : WL) (h t s : Int) (hl : lv L t = none) : lvh (L ++ [⟨h, t, false, 1⟩]) s = if s = t then some h else lvh L s := by
  unfold lvh lv at *
  rw [List.find?_append]
  by_cases e : s = t
  · subst e
    rw [hl, if_pos rfl]
    simp
  · rw [if_neg e]
    have : (t == s) = false := by simpa using fun k => e k.symm
    cases hq : L.find? fun b => b.t == s && !b.dead with
    | some b => simp
    | none => simp [this]
theorem alive_new (L : WL) (h t : Int) : (alive (L ++ [⟨h, t, false, 1⟩])).length = (alive L).length + 1 := by
  simp [alive]
/-- A block is laid, and the map told. -/
theorem WkW.add {w1 w2 : World} (h : WkW w p pa pm Sa AA D B L) {t : Int} (hl : lv L t = none) {AA' : Ar} {i g : Nat} (hp : Put AA ((w.heap.size + 1 : Nat) : Int) i g AA') (hn : ∀ b ∈ L, b.h ≠ hand i g)
    (hw1 : w1 = w.alloc (.cells #[.int .u64 t, .int .u32 1] 85)) (ha : InS (ext Sa w1 w2) w2 pa AA') (hf : Fr Sa w1 w2) {n : Nat} (hm : w'.ownsMap Try.prog TU (plainElem (H := Unit) Try.prog TU) pm n (D.put (.int .u64 t) (.lit (.int .u64 (hand i g))))) (hturn : w2.mapTurned w' pm) :
    WkW w' p pa pm (ext Sa w1 w2) AA' (D.put (.int .u64 t) (.lit (.int .u64 (hand i g)))) (fun x => if x = hand i g then w.heap.size else B x) (L ++ [⟨hand i g, t, false, 1⟩]) := by
  have hA := h.ar.ok
  have hf2 := fr_mapTurned hturn
  have sz1 : w1.heap.size = w.heap.size + 1 := by rw [hw1]; simp
  have hb1 : Fr (fun _ => False) w w1 := by rw [hw1]; exact (Fr.refl _ _).alloc _
  have hall : Fr (fun k => Sa k ∨ k = pm) w w' := ((hb1.mono (fun _ e _ => e.elim)).trans (hf.mono (fun k e _ => .inl e)) (fun _ e _ => e)).trans hf2 (fun k e _ => .inr e)
  have hmo := (h.mo.put t (hand i g)).congr (g := lvh (L ++ [⟨hand i g, t, false, 1⟩])) (d := (alive (L ++ [⟨hand i g, t, false, 1⟩])).length) (fun s => (lvh_new L _ t s hl).symm) (by
    have : (lvh L t).isSome = false := by unfold lvh; rw [hl]; rfl
    rw [this, alive_new]; rfl)
  have hm2 := ownsMap_fit hm
  rw [hmo.sz] at hm2
  have hext : ∀ {k}, k < w1.heap.size → ¬ Sa k → ¬ ext Sa w1 w2 k := fun hk hn e => by
    rcases e with e | e
    · exact hn e
    · omega
  have hpm := h.mp.lt
  have hpl := h.lt
  have hob : w'.heap[w.heap.size]? = some (.cells #[.int .u64 t, .int .u32 1] 85 (0, 0)) := by
    rw [hf2.block _ (by have := hf.size; omega) (fun e => by omega), hf.block _ (by omega) (fun e => by have := h.ar.lt _ e; omega), hw1]
    exact heap_alloc_new _ _
  refine ⟨by rw [hall.block p h.lt (fun e => by
      rcases e with e | e
      · exact h.d1 e
      · exact h.d3 e.symm)]; exact h.hp, ha.fr hf2 (fun k hk e => by
      subst e
      exact hext (by omega) h.d2 hk), hm2, hmo, fun b hb => ?_, fun b hb => ?_, fun j sp h1 h2 => ?_, fun b hb c hc e => ?_, hext (by omega) h.d1, hext (by omega) h.d2, h.d3, fun b hb => ?_⟩
  · rcases List.mem_append.1 hb with hb | hb
    · simp only [if_neg (hn b hb)]
      rw [hall.block _ (h.ltb hb) (fun e => by
        rcases e with e | e
        · exact (h.d4 b hb).2.2 e
        · exact (h.d4 b hb).2.1 e)]
      exact h.ob b hb
    · simp at hb
      subst hb
      simp only [if_pos]
      exact hob
  · rcases List.mem_append.1 hb with hb | hb
    · obtain ⟨j, sp, h1, h2, h3, h4⟩ := h.pl b hb
      simp only [if_neg (hn b hb)]
      refine ⟨j, sp, (hp.at hA j sp h2).2 (.inl ⟨h1, fun e => ?_⟩), h2, h3, h4⟩
      subst e
      rw [hp.free hA sp h1] at h2
      cases h2
    · simp at hb
      subst hb
      exact ⟨i, _, (hp.at hA i ⟨((w.heap.size + 1 : Nat) : Int), g, true⟩ rfl).2 (.inr ⟨rfl, rfl⟩), rfl, rfl, by simp⟩
  · rcases (hp.at hA j sp h2).1 h1 with ⟨h3, _⟩ | ⟨rfl, rfl⟩
    · obtain ⟨b, hb, e⟩ := h.co j sp h3 h2
      exact ⟨b, List.mem_append_left _ hb, e⟩
    · exact ⟨_, List.mem_append_right _ (List.mem_singleton.2 rfl), rfl⟩
  · rcases List.mem_append.1 hb with hb | hb
    · simp only [if_neg (hn b hb)] at e
      rcases List.mem_append.1 hc with hc | hc
      · simp only [if_neg (hn c hc)] at e
        exact h.inj b hb c hc e
      · simp at hc
        subst hc
        simp only [if_pos] at e
        have := h.ltb hb
        omega
    · simp at hb
      subst hb
      simp only [if_pos] at e
      rcases List.mem_append.1 hc with hc | hc
      · simp only [if_neg (hn c hc)] at e
        have := h.ltb hc
        omega
      · simp at hc
        subst hc
        rfl
  · rcases List.mem_append.1 hb with hb | hb
    · simp only [if_neg (hn b hb)]
      obtain ⟨e1, e2, e3⟩ := h.d4 b hb
      exact ⟨e1, e2, hext (by have := h.ltb hb; omega) e3⟩
    · simp at hb
      subst hb
      simp only [if_pos]
      exact ⟨by omega, by omega, hext (by omega) (fun e => by have := h.ar.lt _ e; omega)⟩
end
end Go.Proofs.Ytmampaglemleoab

namespace Go.Proofs.Ytmampaglemleoab
open Go Go.ChangeShapes Go.WideShapes Go.ChangeAt Go.RowKit Go.Maps

section
variable {w w' : World} {p pa pm : Nat} {Sa : Nat → Prop} {AA : Ar} {D : DataW Unit} {B : Int → Nat} {L : WL} {fp : Nat → Prop}
set_option maxHeartbeats 1000000 in
theorem wbegin_new (h : WkW w p pa pm Sa AA D B L) (hlen : L.length ≤ 65536) {t : Int} (ht : U64 t) (hl : lv L t = none) {AA' : Ar} {i g : Nat} (hp : Put AA ((w.heap.size + 1 : Nat) : Int) i g AA') (hn : ∀ b ∈ L, b.h ≠ hand i g) :
    Calls Try.prog 29 #[.pointer (some ⟨p, 0, none⟩), .int .u64 t] w fun e w' => e = .returned (.tuple #[.int .u64 (hand i g), .int .i64 0]) ∧
      ∃ Sa' D', WkW w' p pa pm Sa' AA' D' (fun x => if x = hand i g then w.heap.size else B x) (L ++ [⟨hand i g, t, false, 1⟩]) ∧ (∀ k, Sa' k → Sa k ∨ (w.heap.size ≤ k ∧ k < w'.heap.size)) ∧ Fr (fun k => Sa k ∨ k = pm) w w' := by
  obtain ⟨w1, hw1⟩ : ∃ w1, w1 = w.alloc (.cells #[.int .u64 t, .int .u32 1] 85) := ⟨_, rfl⟩
  have hb1 : Fr (fun _ => False) w w1 := by rw [hw1]; exact (Fr.refl _ _).alloc _
  have h1 := h.no hb1
  have hP := Put_some Sa w1 pa AA AA' i g _ h1.ar hp
  have hx : encE ((w.heap.size + 1 : Nat) : Int) = .pointer (some ⟨w.heap.size, 0, none⟩) := rfl
  rw [hx] at hP
  have c0 := h.c0
  have c0' : w1.cell? ⟨p, 0, none⟩ = some (.pointer (some ⟨pa, 0, none⟩)) := h1.c0
  have hbd := hand_bd (hp.ok h.ar.ok) ((hp.at h.ar.ok i ⟨((w.heap.size + 1 : Nat) : Int), g, true⟩ rfl).2 (.inr ⟨rfl, rfl⟩))
  simp only at hbd
  have HK := hid (keyOf_int_mk (P := Try.prog) Try.underlying35 (wf_u64 ht))
  have HE := hid (plainElem_int (H := Unit) (P := Try.prog) Try.underlying35 (wf_u64 (k := hand i g) ⟨by omega, hbd.2⟩))
  have hal : (alive L).length ≤ 65536 := by have : (alive L).length ≤ L.length := List.length_filter_le _ _; omega
  have HP := hid hP
  have H := hid h
  have H1 := hid h1
  have HL := hid hl
  have HPT := hid hp
  have HN := hid hn
  have HW1 := hid hw1
  have HB1 := hid hb1
  have HAL := hid hal
  clear h h1 hP hl hp hn hw1 hb1 hx hbd ht hlen hal
  go_enter Try.func29, Try.ntmps29
  go_wp2_with fail
  rw [← HW1.out]
  refine HP.out.mono ?_
  rintro e w2 ⟨he, r1, r2⟩
  subst he
  have h2 := H1.out.mp
  have h2' := r2.ownsMap h2 H1.out.d2
  have c1 : w2.cell? ⟨p, 1, none⟩ = some (.map (some pm)) := by
    rw [World.cell?_of_block (r2.block p H1.out.lt H1.out.d1)]
    exact H1.out.c1
  have HM := hid h2'
  have R1 := hid r1
  have R2 := hid r2
  clear r1 r2 h2 h2'
  go_wp2_with (at_mapUpdate; refine wpList_mapUpdate_in _ rfl _ _ _ TM rfl TU TU lawU Try.underlying66 _ pm _ _ rfl HM.out (by have := HAL.out; unfold maxLen; omega) _ _ _ rfl rfl HK.out _ _ HE.out ?_; intro w3 hown3 hturn3)
  go_ret2
  have hadd := H.out.add HL.out HPT.out HN.out HW1.out R1.out R2.out hown3 hturn3
  have hs1 : w1.heap.size = w.heap.size + 1 := by rw [HW1.out]; simp
  have hf3 := fr_mapTurned hturn3
  refine ⟨rfl, _, _, hadd, fun k hk => ?_, ((HB1.out.mono (fun _ e _ => e.elim)).trans (R2.out.mono (fun k e _ => .inl e)) (fun _ e _ => e)).trans hf3 (fun k e _ => .inr e)⟩
  rcases hk with hk | hk
  · exact .inl hk
  · exact .inr ⟨by omega, by have := hf3.size; omega⟩
theorem wbegin_full (h : WkW w p pa pm Sa AA D B L) {t : Int} (hF : Full AA) :
    Calls Try.prog 29 #[.pointer (some ⟨p, 0, none⟩), .int .u64 t] w fun e w' => e = .returned (.tuple #[.int .u64 0, .int .i64 3]) ∧ Fr (fun _ => False) w w' := by
  obtain ⟨w1, hw1⟩ : ∃ w1, w1 = w.alloc (.cells #[.int .u64 t, .int .u32 1] 85) := ⟨_, rfl⟩
  have hb1 : Fr (fun _ => False) w w1 := by rw [hw1]; exact (Fr.refl _ _).alloc _
  have hP := Put_full Sa w1 pa AA ((w.heap.size + 1 : Nat) : Int) (h.no hb1).ar hF
  have hx : encE ((w.heap.size + 1 : Nat) : Int) = .pointer (some ⟨w.heap.size, 0, none⟩) := rfl
  rw [hx] at hP
  have c0 := h.c0
  have HP := hid hP
  have HB1 := hid hb1
  have HW1 := hid hw1
  clear h hP hb1 hw1 hF hx
  go_enter Try.func29, Try.ntmps29
  go_wp2_with fail
  rw [← HW1.out]
  refine HP.out.mono ?_
  rintro e w2 ⟨he, r2⟩
  subst he
  have R2 := hid r2
  clear r2
  go_wp2
  go_ret2
  exact ⟨rfl, HB1.out.trans R2.out (fun _ e _ => e)⟩
end
/-- A table at a pointer, in a set of blocks. -/
def RpW (S : Nat → Prop) (w : World) (v : Value) (s : Ws) : Prop :=
  ∃ p pa pm Sa AA D B, v = .pointer (some ⟨p, 0, none⟩) ∧ WkW w p pa pm Sa AA D B s.L ∧ s.A = er AA ∧ WkI s ∧ (S p ∧ S pm ∧ (∀ k, Sa k → S k) ∧ ∀ b ∈ s.L, S (B b.h)) ∧ ∀ k, S k → k < w.heap.size
section
variable {S : Nat → Prop} {w w' : World} {v : Value} {s : Ws} {fp : Nat → Prop}
theorem RpW.ok (h : RpW S w v s) : WkI s := by
  obtain ⟨p, pa, pm, Sa, AA, D, B, _, _, _, h, _⟩ := h
  exact h
theorem RpW.lt (h : RpW S w v s) : ∀ k, S k → k < w.heap.size := by
  obtain ⟨p, pa, pm, Sa, AA, D, B, _, _, _, _, _, h⟩ := h
  exact h
theorem RpW.ptr (h : RpW S w v s) : ∃ b, v = .pointer (some ⟨b, 0, none⟩) := by
  obtain ⟨p, pa, pm, Sa, AA, D, B, h, _⟩ := h
  exact ⟨p, h⟩
theorem RpW.fr (h : RpW S w v s) (hf : Fr fp w w') (hd : ∀ k, S k → ¬ fp k) : RpW S w' v s := by
  obtain ⟨p, pa, pm, Sa, AA, D, B, h1, h2, h3, h4, ⟨h5, h6, h7, h8⟩, h9⟩ := h
  exact ⟨p, pa, pm, Sa, AA, D, B, h1, h2.fr hf (hd _ h5) (hd _ h6) (fun k hk => hd k (h7 k hk)) (fun b hb => hd _ (h8 b hb)), h3, h4, ⟨h5, h6, h7, h8⟩, fun k hk => Nat.lt_of_lt_of_le (h9 k hk) hf.size⟩
theorem RpW.no (h : RpW S w v s) (hf : Fr (fun _ => False) w w') : RpW S w' v s := h.fr hf (fun _ _ e => e)
theorem RpW.wider (h : RpW S w' v s) : RpW (exS S w w') w' v s := by
  obtain ⟨p, pa, pm, Sa, AA, D, B, h1, h2, h3, h4, ⟨h5, h6, h7, h8⟩, h9⟩ := h
  exact ⟨p, pa, pm, Sa, AA, D, B, h1, h2, h3, h4, ⟨.inl h5, .inl h6, fun k hk => .inl (h7 k hk), fun b hb => .inl (h8 b hb)⟩, fun k hk => by
    rcases hk with hk | hk
    · exact h9 k hk
    · exact hk.2⟩
/-- New. -/
theorem RpW.new (m : Int) (w : World) (hm : 1 ≤ m ∧ m ≤ 65536) : Calls Try.prog 8 #[.int .i64 m] w fun e w' => Below w.heap.size w w' ∧ ∃ p S, e = .returned (.tuple #[p, .int .i64 0]) ∧ (∀ b, S b → w.heap.size ≤ b) ∧ RpW S w' p ⟨Go.Proofs.Ytmampaglemleoab.new m.toNat 1, []⟩ := by
  have hA := New_arena m 1 w (by omega) (by omega) (by omega) (by omega)
  have HA := hid hA
  have HM := hid hm
  clear hA hm
  have hmm := @run_makeMap Try.prog
  go_enter Try.func8, Try.ntmps8
  go_wp2_with fail
  refine HA.out.mono ?_
  rintro e w1 ⟨rfl, hw1⟩
  have HW := hid hw1
  clear hw1
  go_wp2
  go_ret2
  have hm := HM.out
  have hw1 := HW.out
  obtain ⟨w2, hw2⟩ : ∃ w2, w2 = w1.alloc (.map #[] 0) := ⟨_, rfl⟩
  rw [← hw2]
  obtain ⟨w3, hw3⟩ : ∃ w3, w3 = w2.alloc (.cells #[.pointer (some ⟨w.heap.size, 0, none⟩), .map (some w1.heap.size)] 68) := ⟨_, rfl⟩
  rw [← hw3]
  have s1 : w1.heap.size = w.heap.size + 1 := by rw [hw1]; simp
  have s2 : w2.heap.size = w.heap.size + 2 := by rw [hw2]; simp; omega
  have s3 : w3.heap.size = w.heap.size + 3 := by rw [hw3]; simp; omega
  have f1 : Below w.heap.size w w1 := by rw [hw1]; exact (Below.refl _ _).alloc (Nat.le_refl _) _
  have f2 : Fr (fun _ => False) w1 w2 := by rw [hw2]; exact (Fr.refl _ _).alloc _
  have f3 : Fr (fun _ => False) w2 w3 := by rw [hw3]; exact (Fr.refl _ _).alloc _
  have f13 := f2.trans f3 (fun _ e _ => e)
  have hp3 : w3.heap[w.heap.size + 2]? = some (.cells #[.pointer (some ⟨w.heap.size, 0, none⟩), .map (some w1.heap.size)] 68 (0, 0)) := by
    have := heap_alloc_new w2 (.cells #[.pointer (some ⟨w.heap.size, 0, none⟩), .map (some w1.heap.size)] 68)
    rw [s2, ← hw3] at this
    exact this
  have hmap : w3.ownsMap Try.prog TU (plainElem (H := Unit) Try.prog TU) (w.heap.size + 1) 0 (.map []) := by
    have := World.ownsMap_made w1 Try.prog TU (plainElem (H := Unit) Try.prog TU)
    rw [s1, ← hw2] at this
    exact f3.ownsMap this (fun e => e)
  have hmn : ((m.toNat : Nat) : Int) = m := by omega
  have har : InS (fun k => k = w.heap.size) w1 w.heap.size (Go.Proofs.Ytmampaglemleoab.new m.toNat 1) := by
    refine ⟨.slice none 0 0, .slice none 0 0, ⟨?_, World.ownsRow_nil _ _ _ _, World.ownsRow_nil _ _ _ _, by simp [Value.ownBlock], by simp [Value.ownBlock], by simp [Value.ownBlock]⟩, new_ok (by omega) (by omega), rfl, by simp [Value.ownBlock], by simp [Value.ownBlock], fun k hk => by omega⟩
    have : cnt (Go.Proofs.Ytmampaglemleoab.new m.toNat 1).L = 0 := rfl
    rw [this]
    show w1.heap[w.heap.size]? = some (.cells #[.int .i64 ((m.toNat : Nat) : Int), .int .u32 1, .slice none 0 0, .slice none 0 0, .int .i64 0] 89 (0, 0))
    rw [hmn, hw1]
    exact heap_alloc_new _ _
  refine ⟨f1.trans (f13.below (B := w.heap.size) (by omega) (fun _ e => e.elim)), _, fun k => w.heap.size ≤ k ∧ k < w3.heap.size, ?_, fun b hb => hb.1, w.heap.size + 2, w.heap.size, w.heap.size + 1, fun k => k = w.heap.size, Go.Proofs.Ytmampaglemleoab.new m.toNat 1, .map [], fun _ => 0, rfl, ⟨?_, har.fr f13 (fun _ _ e => e), hmap, (MapOf.nil _ _).congr (fun _ => rfl) rfl, by simp, by simp, by simp [Go.Proofs.Ytmampaglemleoab.new], by simp, by omega, by omega, by omega, by simp⟩, rfl, WkI.new (by omega), ⟨⟨by omega, by omega⟩, ⟨by omega, by omega⟩, fun k hk => ⟨by omega, by omega⟩, by simp⟩, fun k hk => hk.2⟩
  · simp [s1]
  · rw [hp3, s1]
theorem RpW.new_not (m : Int) (w : World) (hm : ¬ (1 ≤ m ∧ m ≤ 65536)) : Calls Try.prog 8 #[.int .i64 m] w fun e w' => e = .returned (.tuple #[.pointer none, .int .i64 1]) ∧ w = w' := by
  have HA := hid (New_arena_not m 1 w (by omega))
  clear hm
  go_enter Try.func8, Try.ntmps8
  go_wp2_with fail
  refine HA.out.mono ?_
  rintro e w1 ⟨rfl, rfl⟩
  go_wp2
  go_ret2
  exact ⟨rfl, rfl⟩
/-- Die. -/
theorem RpW.die (h : RpW S w v s) {t : Int} (ht : U64 t) : Calls Try.prog 18 #[v, .int .u64 t] w fun e w' => e = .returned (.bool (lv s.L t).isSome) ∧ Fr S w w' ∧ RpW (exS S w w') w' v { s with L := dieL s.L t } := by
  obtain ⟨p, pa, pm, Sa, AA, D, B, rfl, h2, h3, h4, ⟨h5, h6, h7, h8⟩, h9⟩ := h
  refine (wdie_any h2 (A := s.A) h4.toWkJ ht).mono ?_
  rintro e w' ⟨rfl, ⟨D', h2'⟩, hf⟩
  have hkey : ∀ b ∈ dieL s.L t, ∃ c ∈ s.L, b.h = c.h := fun b hb => by
    unfold dieL at hb
    cases hl : lv s.L t with
    | none => rw [hl] at hb; exact ⟨b, hb, rfl⟩
    | some x =>
      rw [hl] at hb
      obtain ⟨c, hc, e⟩ := mem_kill.1 hb
      exact ⟨c, hc, by rw [e]; split <;> rfl⟩
  have := hf.size
  exact ⟨rfl, hf.mono (fun k e _ => e ▸ h6), RpW.wider ⟨p, pa, pm, Sa, AA, D', B, rfl, h2', h3, h4.die t, ⟨h5, h6, h7, fun b hb => by
    obtain ⟨c, hc, e⟩ := hkey b hb
    rw [e]; exact h8 c hc⟩, fun k hk => Nat.lt_of_lt_of_le (h9 k hk) this⟩⟩
/-- Lock. -/
theorem RpW.lock (h : RpW S w v s) {x : Int} (hx : U64 x) : Calls Try.prog 20 #[v, .int .u64 x] w fun e w' => e = .returned (.tuple #[.int .u64 (lockR s.L x).1, .int .i64 (lockR s.L x).2]) ∧ Fr (fun _ => False) w w' := by
  obtain ⟨p, pa, pm, Sa, AA, D, B, rfl, h2, h3, h4, ⟨h5, h6, h7, h8⟩, h9⟩ := h
  unfold lockR
  cases hf : fb s.L x with
  | none =>
    refine (wlock_stale h2 hf hx).mono ?_
    rintro e w' ⟨rfl, rfl⟩
    exact ⟨rfl, Fr.refl _ _⟩
  | some b =>
    obtain ⟨h1, rfl⟩ := fb_some hf
    refine (wlock_some h2 (A := s.A) h4 h1).mono ?_
    rintro e w' ⟨rfl, hfr⟩
    refine ⟨?_, hfr⟩
    cases hd : b.dead <;> simp [hd]
/-- Up. -/
theorem RpW.up (h : RpW S w v s) {x : Int} (hx : U64 x) : Calls Try.prog 21 #[v, .int .u64 x] w fun e w' => Fr S w w' ∧ ∃ s' n er, e = .returned (.tuple #[.int .u32 n, .int .i64 er]) ∧ WkUp s x s' n er ∧ RpW (exS S w w') w' v s' := by
  have hcopy := h
  obtain ⟨p, pa, pm, Sa, AA, D, B, rfl, h2, h3, h4, ⟨h5, h6, h7, h8⟩, h9⟩ := h
  cases hf : fb s.L x with
  | none =>
    refine (wup_stale h2 hf hx).mono ?_
    rintro e w' ⟨rfl, rfl⟩
    exact ⟨Fr.refl _ _, _, _, _, rfl, .stale hf, hcopy.wider⟩
  | some b =>
    obtain ⟨h1, rfl⟩ := fb_some hf
    have hb := h4.bd b h1
    by_cases hn : b.n = 4294967295
    · refine (wup_top h2 h1 hn).mono ?_
      rintro e w' ⟨rfl, rfl⟩
      exact ⟨Fr.refl _ _, _, _, _, rfl, .top b hf hn, hcopy.wider⟩
    · refine (wup_ok h2 h4.nd h1 (by omega)).mono ?_
      rintro e w' ⟨rfl, hw, hfr⟩
      have := hfr.size
      refine ⟨hfr.mono (fun k e _ => e ▸ h8 b h1), _, _, _, rfl, .ok b hf hn, RpW.wider ⟨p, pa, pm, Sa, AA, D, B, rfl, hw, h3, h4.cnts (by omega), ⟨h5, h6, h7, fun c hc => ?_⟩, fun k hk => Nat.lt_of_lt_of_le (h9 k hk) this⟩⟩
      obtain ⟨q, hq, e, _⟩ := setn_key hc
      rw [e]; exact h8 q hq
/-- Down. -/
theorem RpW.dn (h : RpW S w v s) {x : Int} (hx : U64 x) : Calls Try.prog 19 #[v, .int .u64 x] w fun e w' => Fr S w w' ∧ ∃ s' n er, e = .returned (.tuple #[.int .u32 n, .int .i64 er]) ∧ WkDn s x s' n er ∧ RpW (exS S w w') w' v s' := by
  have hcopy := h
  obtain ⟨p, pa, pm, Sa, AA, D, B, rfl, h2, h3, h4, ⟨h5, h6, h7, h8⟩, h9⟩ := h
  cases hf : fb s.L x with
  | none =>
    refine (wdown_stale h2 hf hx).mono ?_
    rintro e w' ⟨rfl, rfl⟩
    exact ⟨Fr.refl _ _, _, _, _, rfl, .stale hf, hcopy.wider⟩
  | some b =>
    obtain ⟨h1, rfl⟩ := fb_some hf
    have hb := h4.bd b h1
    by_cases hn : b.n = 1
    · refine (wdown_last h2 (A := s.A) h4.toWkJ h1 hn hb.1).mono ?_
      rintro e w' ⟨rfl, ⟨Sa', D', i, sp, a1, a2, a3⟩, hfr⟩
      have hs : Found s.A b.h i (e0 sp) := by rw [h3]; exact er_found a1
      refine ⟨hfr.mono (fun k e _ => ?_), _, _, _, rfl, .last b hf hn hs, p, pa, pm, Sa', dropAt AA i sp, D', B, rfl, a2, ?_, h4.cut hs, ⟨.inl h5, .inl h6, fun k hk => ?_, fun c hc => .inl (h8 c (mem_cutb.1 hc).1)⟩, fun k hk => ?_⟩
      · rcases e with e | e | e
        · exact e ▸ h6
        · exact h7 k e
        · exact e ▸ h8 b h1
      · show dropAt s.A i (e0 sp) = _
        rw [er_drop, h3]
      · rcases a3 k hk with e | e
        · exact .inl (h7 k e)
        · exact .inr e
      · rcases hk with hk | hk
        · exact Nat.lt_of_lt_of_le (h9 k hk) hfr.size
        · exact hk.2
    · refine (wdown_more h2 h4.nd h1 (by omega)).mono ?_
      rintro e w' ⟨rfl, hw, hfr⟩
      have := hfr.size
      refine ⟨hfr.mono (fun k e _ => e ▸ h8 b h1), _, _, _, rfl, .more b hf hn, RpW.wider ⟨p, pa, pm, Sa, AA, D, B, rfl, hw, h3, h4.cnts (by omega), ⟨h5, h6, h7, fun c hc => ?_⟩, fun k hk => Nat.lt_of_lt_of_le (h9 k hk) this⟩⟩
      obtain ⟨q, hq, e, _⟩ := setn_key hc
      rw [e]; exact h8 q hq
end
end Go.Proofs.Ytmampaglemleoab

namespace Go.Proofs.Ytmampaglemleoab
open Go Go.ChangeShapes Go.WideShapes Go.ChangeAt Go.RowKit Go.Maps

section
variable {w w' : World} {p pa pm : Nat} {Sa : Nat → Prop} {AA : Ar} {D : DataW Unit} {B : Int → Nat} {L : WL} {fp : Nat → Prop}
theorem WkW.look_none (h : WkW w p pa pm Sa AA D B L) {t : Int} (ht : U64 t) (hl : lv L t = none) : (Instr.lookup TM (.map (some pm)) (.int .u64 t) true).run Try.prog w = .ok (.tuple #[.int .u64 0, .bool false]) w := by
  have := h.look_ok ht
  have e : lvh L t = none := by unfold lvh; rw [hl]; rfl
  rw [e] at this
  exact this
theorem WkW.look_some (h : WkW w p pa pm Sa AA D B L) {t : Int} (ht : U64 t) {b : Bl} (hl : lv L t = some b) : (Instr.lookup TM (.map (some pm)) (.int .u64 t) true).run Try.prog w = .ok (.tuple #[.int .u64 b.h, .bool true]) w := by
  have := h.look_ok ht
  have e : lvh L t = some b.h := by unfold lvh; rw [hl]; rfl
  rw [e] at this
  exact this
/-- Of, where there is no live block: as begin does. -/
theorem wof_none (h : WkW w p pa pm Sa AA D B L) {t : Int} (ht : U64 t) (hl : lv L t = none) {x e : Int} {Q : World → Prop} (hb : Calls Try.prog 29 #[.pointer (some ⟨p, 0, none⟩), .int .u64 t] w fun r w' => r = .returned (.tuple #[.int .u64 x, .int .i64 e]) ∧ Q w') :
    Calls Try.prog 17 #[.pointer (some ⟨p, 0, none⟩), .int .u64 t] w fun r w' => r = .returned (.tuple #[.int .u64 x, .int .i64 e]) ∧ Q w' := by
  have hlk := h.look_none ht hl
  have c1 := h.c1
  have HB := hid hb
  clear h hl hb ht
  go_enter Try.func17, Try.ntmps17
  go_wp2_with fail
  refine HB.out.mono ?_
  rintro r w' ⟨rfl, hq⟩
  have HQ := hid hq
  clear hq
  go_wp2
  go_ret2
  exact ⟨rfl, HQ.out⟩
theorem wof_up (h : WkW w p pa pm Sa AA D B L) {t : Int} (ht : U64 t) {b : Bl} (hl : lv L t = some b) {n : Int} {Q : World → Prop} (hb : Calls Try.prog 21 #[.pointer (some ⟨p, 0, none⟩), .int .u64 b.h] w fun r w' => r = .returned (.tuple #[.int .u32 n, .int .i64 0]) ∧ Q w') :
    Calls Try.prog 17 #[.pointer (some ⟨p, 0, none⟩), .int .u64 t] w fun r w' => r = .returned (.tuple #[.int .u64 b.h, .int .i64 0]) ∧ Q w' := by
  have hlk := h.look_some ht hl
  have c1 := h.c1
  have HB := hid hb
  clear h hl hb ht
  generalize b.h = x at *
  go_enter Try.func17, Try.ntmps17
  go_wp2_with fail
  refine HB.out.mono ?_
  rintro r w' ⟨rfl, hq⟩
  have HQ := hid hq
  clear hq
  go_wp2
  go_ret2
  exact ⟨rfl, HQ.out⟩
theorem wof_top (h : WkW w p pa pm Sa AA D B L) {t : Int} (ht : U64 t) {b : Bl} (hl : lv L t = some b) {n : Int} {Q : World → Prop} (hb : Calls Try.prog 21 #[.pointer (some ⟨p, 0, none⟩), .int .u64 b.h] w fun r w' => r = .returned (.tuple #[.int .u32 n, .int .i64 4]) ∧ Q w') :
    Calls Try.prog 17 #[.pointer (some ⟨p, 0, none⟩), .int .u64 t] w fun r w' => r = .returned (.tuple #[.int .u64 0, .int .i64 4]) ∧ Q w' := by
  have hlk := h.look_some ht hl
  have c1 := h.c1
  have HB := hid hb
  clear h hl hb ht
  generalize b.h = x at *
  go_enter Try.func17, Try.ntmps17
  go_wp2_with fail
  refine HB.out.mono ?_
  rintro r w' ⟨rfl, hq⟩
  have HQ := hid hq
  clear hq
  go_wp2
  go_ret2
  exact ⟨rfl, HQ.out⟩
end
/-- Of. -/
theorem RpW.of {S : Nat → Prop} {w : World} {v : Value} {s : Ws} (h : RpW S w v s) {t : Int} (ht : U64 t) : Calls Try.prog 17 #[v, .int .u64 t] w fun e w' => Fr S w w' ∧ ∃ s' x er, e = .returned (.tuple #[.int .u64 x, .int .i64 er]) ∧ WkOf s t s' x er ∧ RpW (exS S w w') w' v s' := by
  have hcopy := h
  obtain ⟨p, pa, pm, Sa, AA, D, B, rfl, h2, h3, h4, ⟨h5, h6, h7, h8⟩, h9⟩ := h
  cases hl : lv s.L t with
  | none =>
    rcases put_or_full h2.ar.ok ((w.heap.size + 1 : Nat) : Int) with hF | ⟨i, g, AA', hp⟩
    · refine (wof_none h2 ht hl (wbegin_full h2 (t := t) hF)).mono ?_
      rintro e w' ⟨rfl, hfr⟩
      exact ⟨hfr.mono (fun _ e _ => e.elim), _, _, _, rfl, .full hl (by rw [h3]; exact er_full.2 hF), (hcopy.no hfr).wider⟩
    · have hp0 : Put s.A 0 i g (er AA') := by rw [h3]; exact er_put hp
      have hn := h4.fresh hp0
      refine (wof_none h2 ht hl (wbegin_new h2 h4.len ht hl hp hn)).mono ?_
      rintro e w' ⟨rfl, Sa', D', hw, ha, hfr⟩
      refine ⟨hfr.mono (fun k e _ => ?_), _, _, _, rfl, .new hl hp0, p, pa, pm, Sa', AA', D', _, rfl, hw, rfl, h4.add ht hl hp0, ⟨.inl h5, .inl h6, fun k hk => ?_, fun b hb => ?_⟩, fun k hk => ?_⟩
      · rcases e with e | e
        · exact h7 k e
        · exact e ▸ h6
      · rcases ha k hk with e | e
        · exact .inl (h7 k e)
        · exact .inr e
      · rcases List.mem_append.1 hb with hb | hb
        · simp only [if_neg (hn b hb)]
          exact .inl (h8 b hb)
        · simp at hb
          subst hb
          simp only [if_pos]
          exact .inr ⟨Nat.le_refl _, by
            have := hw.ltb (b := ⟨hand i g, t, false, 1⟩) (by simp)
            simpa using this⟩
      · rcases hk with hk | hk
        · exact Nat.lt_of_lt_of_le (h9 k hk) hfr.size
        · exact hk.2
  | some b =>
    obtain ⟨h1, ht2, hd⟩ := lv_some hl
    have hb := h4.bd b h1
    by_cases hn : b.n = 4294967295
    · refine (wof_top h2 ht hl ((wup_top h2 h1 hn).mono fun e w' h => ⟨h.1, (h.2 : w = w')⟩)).mono ?_
      rintro e w' ⟨rfl, rfl⟩
      exact ⟨Fr.refl _ _, _, _, _, rfl, .top b hl hn, hcopy.wider⟩
    · refine (wof_up h2 ht hl (wup_ok h2 h4.nd h1 (by omega))).mono ?_
      rintro e w' ⟨rfl, hw, hfr⟩
      have := hfr.size
      refine ⟨hfr.mono (fun k e _ => e ▸ h8 b h1), _, _, _, rfl, .up b hl hn, RpW.wider ⟨p, pa, pm, Sa, AA, D, B, rfl, hw, h3, h4.cnts (by omega), ⟨h5, h6, h7, fun c hc => ?_⟩, fun k hk => Nat.lt_of_lt_of_le (h9 k hk) this⟩⟩
      obtain ⟨q, hq, e, _⟩ := setn_key hc
      rw [e]; exact h8 q hq
/-- Of a table that is none. -/
theorem wof_nil (w : World) (t : Int) : Calls Try.prog 17 #[.pointer none, .int .u64 t] w fun e w' => e = .returned (.tuple #[.int .u64 0, .int .i64 3]) ∧ w = w' := by
  go_enter Try.func17, Try.ntmps17
  go_wp2
  go_ret2
  exact ⟨rfl, rfl⟩
theorem wdie_nil (w : World) (t : Int) : Calls Try.prog 18 #[.pointer none, .int .u64 t] w fun e w' => e = .returned (.bool false) ∧ w = w' := by
  go_enter Try.func18, Try.ntmps18
  go_wp2
  go_ret
  exact ⟨rfl, rfl⟩
theorem wup_nil (w : World) (x : Int) : Calls Try.prog 21 #[.pointer none, .int .u64 x] w fun e w' => e = .returned (.tuple #[.int .u32 0, .int .i64 2]) ∧ w = w' := by
  go_enter Try.func21, Try.ntmps21
  go_wp2_with (refine (wfind_nil _ _).mono ?_; rintro e w1 ⟨rfl, rfl⟩)
  go_ret2
  exact ⟨rfl, rfl⟩
theorem wdown_nil (w : World) (x : Int) : Calls Try.prog 19 #[.pointer none, .int .u64 x] w fun e w' => e = .returned (.tuple #[.int .u32 0, .int .i64 2]) ∧ w = w' := by
  go_enter Try.func19, Try.ntmps19
  go_wp2_with (refine (wfind_nil _ _).mono ?_; rintro e w1 ⟨rfl, rfl⟩)
  go_ret2
  exact ⟨rfl, rfl⟩
theorem wlock_nil (w : World) (x : Int) : Calls Try.prog 20 #[.pointer none, .int .u64 x] w fun e w' => e = .returned (.tuple #[.int .u64 0, .int .i64 2]) ∧ w = w' := by
  go_enter Try.func20, Try.ntmps20
  go_wp2_with (refine (wfind_nil _ _).mono ?_; rintro e w1 ⟨rfl, rfl⟩)
  go_ret2
  exact ⟨rfl, rfl⟩
end Go.Proofs.Ytmampaglemleoab
