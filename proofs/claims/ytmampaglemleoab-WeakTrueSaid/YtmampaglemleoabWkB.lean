/-
  A table of weak blocks: Lock, Die, end, Down.
-/
import Derived.Test.YtmampaglemleoabWkA
import Derived.Test.YtmampaglemleoabMix
import Derived.BigQuiet
namespace Go.Proofs.Ytmampaglemleoab
open Go Go.ChangeShapes Go.WideShapes Go.ChangeAt Go.RowKit Go.Maps

section
variable {w w' : World} {p pa pm : Nat} {Sa : Nat → Prop} {AA : Ar} {D : DataW Unit} {B : Int → Nat} {L : WL} {fp : Nat → Prop}
theorem WkW.look (h : WkW w p pa pm Sa AA D B L) {t : Int} (ht : U64 t) : (Instr.lookup TM (.map (some pm)) (.int .u64 t) false).run Try.prog w = .ok (.int .u64 ((lvh L t).getD 0)) w :=
  h.mo.look Try.underlying66 Try.underlying35 Try.underlying35 (zeroU w) h.mp (wf_u64 ht)
theorem WkW.look_ok (h : WkW w p pa pm Sa AA D B L) {t : Int} (ht : U64 t) : (Instr.lookup TM (.map (some pm)) (.int .u64 t) true).run Try.prog w = .ok (.tuple #[.int .u64 ((lvh L t).getD 0), .bool (lvh L t).isSome]) w :=
  h.mo.look_ok Try.underlying66 Try.underlying35 Try.underlying35 (zeroU w) h.mp (wf_u64 ht)
/-- Of whom a live target's block is. -/
theorem lvh_mine {A : Ar} (hi : WkJ ⟨A, L⟩) {b : Bl} (hb : b ∈ L) : ((lvh L b.t).getD 0 = b.h) ↔ b.dead = false := by
  have hz := (hi.hbd hb).1
  constructor
  · intro e
    unfold lvh at e
    cases hl : lv L b.t with
    | none => rw [hl] at e; simp at e; omega
    | some c =>
      rw [hl] at e
      simp at e
      obtain ⟨h1, h2, h3⟩ := lv_some hl
      rw [← bl_eq hi.nd h1 hb e]
      exact h3
  · intro hd
    unfold lvh
    rw [hi.lv_mem hb hd]
    rfl
/-- Lock. -/
theorem wlock_stale (h : WkW w p pa pm Sa AA D B L) {hd : Int} (hn : fb L hd = none) (h0 : U64 hd) :
    Calls Try.prog 20 #[.pointer (some ⟨p, 0, none⟩), .int .u64 hd] w fun e w' => e = .returned (.tuple #[.int .u64 0, .int .i64 2]) ∧ w = w' := by
  have HF := hid (wfind_none h hn h0)
  clear h hn h0
  go_enter Try.func20, Try.ntmps20
  go_wp2_with (refine HF.out.mono ?_; rintro e w1 ⟨rfl, rfl⟩)
  go_ret2
  exact ⟨rfl, rfl⟩
set_option maxHeartbeats 1000000 in
theorem wlock_some (h : WkW w p pa pm Sa AA D B L) {A : Ar} (hi : WkI ⟨A, L⟩) {b : Bl} (hb : b ∈ L) :
    Calls Try.prog 20 #[.pointer (some ⟨p, 0, none⟩), .int .u64 b.h] w fun e w' => e = .returned (.tuple (if b.dead then #[.int .u64 0, .int .i64 10] else #[.int .u64 b.t, .int .i64 0])) ∧ Fr (fun _ => False) w w' := by
  have HF := hid (wfind_some h hb)
  have o0 := h.o0 hb
  have c1 := h.c1
  have hlk : ∀ W, Fr (fun _ => False) w W → (Instr.lookup TM (.map (some pm)) (.int .u64 b.t) false).run Try.prog W = .ok (.int .u64 ((lvh L b.t).getD 0)) W := fun W hf => (h.no hf).look (hi.bd b hb).1
  have hm := lvh_mine hi.toWkJ hb
  obtain ⟨dd, hdd⟩ : ∃ dd, dd = b.dead := ⟨_, rfl⟩
  rw [← hdd] at hm ⊢
  clear hdd
  have HLK := hid hlk
  clear h hi hb hlk
  obtain ⟨q, hq⟩ : ∃ q, q = B b.h := ⟨_, rfl⟩
  rw [← hq] at o0 HF
  clear hq
  obtain ⟨x, hx⟩ : ∃ x, x = (lvh L b.t).getD 0 := ⟨_, rfl⟩
  rw [← hx] at hm HLK
  clear hx
  generalize b.h = hd at *
  generalize b.t = tt at *
  go_enter Try.func20, Try.ntmps20
  go_wp2_with fail
  refine HF.out.mono ?_
  rintro e w1 ⟨rfl, rfl⟩
  go_wp2
  refine wp_region_mix [0, 0, 0, 1, 0, 0, 0, 1, 1, 0, 0] (fun W => W.cell? ⟨p, 1, none⟩ = some (.map (some pm)) ∧ W.cell? ⟨q, 0, none⟩ = some (.int .u64 tt) ∧ (Instr.lookup TM (.map (some pm)) (.int .u64 tt) false).run Try.prog W = .ok (.int .u64 x) W) (by kernel_rfl) (by kernel_rfl) ⟨by simpa using c1, by simpa using o0, by first | exact HLK.out _ (Fr.refl _ _) | exact HLK.out _ ((Fr.refl _ _).drewN _)⟩ ?_
  repeat (first
    | (refine' wpMix_value _ rfl rfl _ _; rotate_left; (solve | (intro W; go_simp) | (intro W; go_simp; with_reducible rfl)); simp only [Act.put, List.setIfInBounds_toArray, List.set_cons_zero, List.set_cons_succ])
    | (refine' wpMix_read _ rfl rfl _ _; rotate_left; (solve | (rintro W ⟨h1, h2, h3⟩; go_simp) | (rintro W ⟨h1, h2, h3⟩; go_simp; with_reducible rfl)); simp only [Act.put, List.setIfInBounds_toArray, List.set_cons_zero, List.set_cons_succ]))
  refine wpMix_end ?_
  have HM := hid hm
  clear hm
  cases dd with
  | true =>
    have hne : (x != hd) = true := by
      have : x ≠ hd := fun e => by have := HM.out.1 e; cases this
      simpa using this
    go_wp2
    go_ret2
    exact ⟨rfl, (Fr.refl _ _).drewN _⟩
  | false =>
    have hne : (x != hd) = false := by
      have : x = hd := HM.out.2 rfl
      simpa using this
    go_wp2
    go_ret2
    exact ⟨rfl, (Fr.refl _ _).drewN _⟩
theorem alive_kill {A : Ar} (hi : WkJ ⟨A, L⟩) {b : Bl} (hb : b ∈ L) (hd : b.dead = false) : (alive (kill L b.h)).length + 1 = (alive L).length := by
  have hn := hi.nd
  simp only at hn
  clear hi
  induction L with
  | nil => cases hb
  | cons c L ih =>
    rw [List.map_cons, List.nodup_cons] at hn
    have hk : kill (c :: L) b.h = (if c.h = b.h then { c with dead := true } else c) :: kill L b.h := rfl
    rw [hk]
    rcases List.mem_cons.1 hb with rfl | hb'
    · rw [if_pos rfl]
      have e : kill L b.h = L := by
        unfold kill
        refine (List.map_congr_left fun o ho => ?_).trans (List.map_id _)
        rw [if_neg (fun e => hn.1 (List.mem_map.2 ⟨o, ho, e⟩))]
        rfl
      rw [e]
      simp [alive, hd]
    · have hne : c.h ≠ b.h := fun e => hn.1 (List.mem_map.2 ⟨b, hb', e.symm⟩)
      rw [if_neg hne]
      have := ih hb' hn.2
      unfold alive at *
      rw [List.filter_cons, List.filter_cons]
      split
      · simp only [List.length_cons]; omega
      · exact this
theorem lvh_kill {A : Ar} (hi : WkJ ⟨A, L⟩) {b : Bl} (hb : b ∈ L) (hd : b.dead = false) (t : Int) : lvh (kill L b.h) t = if t = b.t then none else lvh L t := by
  by_cases e : t = b.t
  · subst e
    rw [if_pos rfl]
    unfold lvh
    rw [lv_none.2, Option.map_none]
    intro o ho hod ht
    obtain ⟨q, hq, e⟩ := mem_kill.1 ho
    by_cases hx : q.h = b.h
    · rw [if_pos hx] at e; rw [e] at hod; cases hod
    · rw [if_neg hx] at e
      subst e
      exact hx (by rw [hi.one o hq b hb hod hd ht])
  · rw [if_neg e]
    unfold lvh
    congr 1
    unfold lv kill
    have : ∀ M : WL, (∀ o ∈ M, o ∈ L) → (M.map fun o => if o.h = b.h then { o with dead := true } else o).find? (fun o => o.t == t && !o.dead) = M.find? (fun o => o.t == t && !o.dead) := by
      intro M hM
      induction M with
      | nil => rfl
      | cons c M ih =>
        rw [List.map_cons, List.find?_cons, List.find?_cons, ih (fun o ho => hM o (by simp [ho]))]
        by_cases hx : c.h = b.h
        · have hcb : c = b := bl_eq hi.nd (hM c (by simp)) hb hx
          subst hcb
          have : (c.t == t) = false := by simpa using fun k => e k.symm
          rw [if_pos rfl]
          simp [this]
        · rw [if_neg hx]
    exact this L (fun o ho => ho)
/-- A block's target has died; the map is told so. -/
theorem WkW.kill {A : Ar} (h : WkW w p pa pm Sa AA D B L) (hi : WkJ ⟨A, L⟩) {b : Bl} (hb : b ∈ L) (hd : b.dead = false) {D' : DataW Unit} {n : Nat} (hm : w'.ownsMap Try.prog TU (plainElem (H := Unit) Try.prog TU) pm n (D.del (.int .u64 b.t))) (hf : Fr (fun k => k = pm) w w') (e : D' = D.del (.int .u64 b.t)) :
    WkW w' p pa pm Sa AA D' B (Go.Proofs.Ytmampaglemleoab.kill L b.h) := by
  subst e
  have hmo := (h.mo.del b.t).congr (g := lvh (Go.Proofs.Ytmampaglemleoab.kill L b.h)) (d := (alive (Go.Proofs.Ytmampaglemleoab.kill L b.h)).length) (fun t => (lvh_kill hi hb hd t).symm) (by
    have h1 := alive_kill hi hb hd
    have h2 : (lvh L b.t).isSome = true := by unfold lvh; rw [hi.lv_mem hb hd]; rfl
    rw [if_pos h2]
    omega)
  have key : ∀ o ∈ Go.Proofs.Ytmampaglemleoab.kill L b.h, ∃ q ∈ L, o.h = q.h ∧ o.t = q.t ∧ o.n = q.n := fun o ho => by
    obtain ⟨q, hq, e⟩ := mem_kill.1 ho
    exact ⟨q, hq, by rw [e]; split <;> rfl, by rw [e]; split <;> rfl, by rw [e]; split <;> rfl⟩
  have hm2 := ownsMap_fit hm
  rw [hmo.sz] at hm2
  refine ⟨by rw [hf.block p h.lt (fun e => h.d3 e.symm)]; exact h.hp, h.ar.fr hf (fun k hk e => h.d2 (e ▸ hk)), hm2, hmo, fun o ho => ?_, fun o ho => ?_, fun i sp g1 g2 => ?_, fun o ho q hq => ?_, h.d1, h.d2, h.d3, fun o ho => ?_⟩
  · obtain ⟨q, hq, e1, e2, e3⟩ := key o ho
    rw [e1, e2, e3, hf.block _ (h.ltb hq) (fun e => (h.d4 q hq).2.1 e)]
    exact h.ob q hq
  · obtain ⟨q, hq, e, _⟩ := key o ho
    rw [e]; exact h.pl q hq
  · obtain ⟨q, hq, e⟩ := h.co i sp g1 g2
    exact ⟨_, mem_kill.2 ⟨q, hq, rfl⟩, by split <;> exact e⟩
  · obtain ⟨o', ho', e, _⟩ := key o ho
    obtain ⟨q', hq', e', _⟩ := key q hq
    rw [e, e']; exact h.inj o' ho' q' hq'
  · obtain ⟨q, hq, e, _⟩ := key o ho
    rw [e]; exact h.d4 q hq
/-- The map is as it was. -/
theorem WkW.same (h : WkW w p pa pm Sa AA D B L) {t : Int} (hl : lv L t = none) {n : Nat} (hm : w'.ownsMap Try.prog TU (plainElem (H := Unit) Try.prog TU) pm n (D.del (.int .u64 t))) (hf : Fr (fun k => k = pm) w w') :
    WkW w' p pa pm Sa AA (D.del (.int .u64 t)) B L := by
  have hmo := (h.mo.del t).congr (g := lvh L) (d := (alive L).length) (fun s => by
    by_cases e : s = t
    · rw [if_pos e, e]; unfold lvh; rw [hl]; rfl
    · rw [if_neg e]) (by
    have h2 : (lvh L t).isSome = false := by unfold lvh; rw [hl]; rfl
    rw [h2]; rfl)
  have hm2 := ownsMap_fit hm
  rw [hmo.sz] at hm2
  exact ⟨by rw [hf.block p h.lt (fun e => h.d3 e.symm)]; exact h.hp, h.ar.fr hf (fun k hk e => h.d2 (e ▸ hk)), hm2, hmo, fun o ho => by rw [hf.block _ (h.ltb ho) (fun e => (h.d4 o ho).2.1 e)]; exact h.ob o ho, h.pl, h.co, h.inj, h.d1, h.d2, h.d3, h.d4⟩
def DiePost (p pa pm : Nat) (Sa : Nat → Prop) (AA : Ar) (B : Int → Nat) (L : WL) (t : Int) (w : World) (e : Ending) (w' : World) : Prop :=
  e = .returned (.bool (lv L t).isSome) ∧ (∃ D', WkW w' p pa pm Sa AA D' B (dieL L t)) ∧ Fr (fun k => k = pm) w w'
/-- Die. -/
theorem wdie_any (h : WkW w p pa pm Sa AA D B L) {A : Ar} (hi : WkJ ⟨A, L⟩) {t : Int} (ht : U64 t) :
    Calls Try.prog 18 #[.pointer (some ⟨p, 0, none⟩), .int .u64 t] w (DiePost p pa pm Sa AA B L t w) := by
  have hlk := h.look_ok ht
  have HK := hid (keyOf_int_mk (P := Try.prog) Try.underlying35 (wf_u64 ht))
  have c1 := h.c1
  have HM := hid h.mp
  have e1 : (lvh L t).isSome = (lv L t).isSome := by unfold lvh; rw [Option.isSome_map]
  rw [e1] at hlk
  unfold DiePost
  have HP := hid (show ∀ w1 n, w1.ownsMap Try.prog TU (plainElem (H := Unit) Try.prog TU) pm n (D.del (.int .u64 t)) → w.mapTurned w1 pm → (∃ D', WkW w1 p pa pm Sa AA D' B (dieL L t)) ∧ Fr (fun k => k = pm) w w1 from fun w1 n ho hturn => by
    have hf := fr_mapTurned hturn
    refine ⟨?_, hf⟩
    unfold dieL
    cases hl : lv L t with
    | none => exact ⟨_, h.same hl ho hf⟩
    | some b =>
      obtain ⟨h1, h2, h3⟩ := lv_some hl
      subst h2
      exact ⟨_, h.kill hi h1 h3 ho hf rfl⟩)
  obtain ⟨x, hx⟩ : ∃ x, x = (lvh L t).getD 0 := ⟨_, rfl⟩
  rw [← hx] at hlk
  obtain ⟨y, hy⟩ : ∃ y, y = (lv L t).isSome := ⟨_, rfl⟩
  rw [← hy] at hlk ⊢
  clear h hi hx hy e1
  go_enter Try.func18, Try.ntmps18
  go_wp2_with (at_delete; refine wpList_delete_own _ rfl _ _ TM TU rfl TU lawU Try.underlying66 _ pm _ _ rfl HM.out _ _ rfl HK.out ?_; intro w1 hown1 hturn1)
  go_ret
  obtain ⟨q1, q2⟩ := HP.out _ _ hown1 hturn1
  exact ⟨rfl, q1, q2⟩
end
end Go.Proofs.Ytmampaglemleoab
