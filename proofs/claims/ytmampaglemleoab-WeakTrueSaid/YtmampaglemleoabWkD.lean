/-
  A table of weak blocks: Down, begin, Of, New; how it lies in a set of blocks.
-/
import Derived.Test.YtmampaglemleoabWkC
namespace Go.Proofs.Ytmampaglemleoab
open Go Go.ChangeShapes Go.WideShapes Go.ChangeAt Go.RowKit Go.Maps

section
variable {w w' : World} {p pa pm : Nat} {Sa : Nat → Prop} {AA : Ar} {D : DataW Unit} {B : Int → Nat} {L : WL} {fp : Nat → Prop}
/-- Down. -/
theorem wdown_stale (h : WkW w p pa pm Sa AA D B L) {hd : Int} (hn : fb L hd = none) (h0 : U64 hd) :
    Calls Try.prog 19 #[.pointer (some ⟨p, 0, none⟩), .int .u64 hd] w fun e w' => e = .returned (.tuple #[.int .u32 0, .int .i64 2]) ∧ w = w' := by
  have HF := hid (wfind_none h hn h0)
  clear h hn h0
  go_enter Try.func19, Try.ntmps19
  go_wp2_with (refine HF.out.mono ?_; rintro e w1 ⟨rfl, rfl⟩)
  go_ret2
  exact ⟨rfl, rfl⟩
theorem wdown_more (h : WkW w p pa pm Sa AA D B L) (hi : (L.map (·.h)).Nodup) {b : Bl} (hb : b ∈ L) (hn : 1 < b.n ∧ b.n ≤ 4294967295) :
    Calls Try.prog 19 #[.pointer (some ⟨p, 0, none⟩), .int .u64 b.h] w fun e w' => e = .returned (.tuple #[.int .u32 (b.n - 1), .int .i64 0]) ∧ WkW w' p pa pm Sa AA D B (setn L b.h (b.n - 1)) ∧ Fr (fun k => k = B b.h) w w' := by
  have HF := hid (wfind_some h hb)
  have o1 := h.o1 hb
  have z1 := h.of hb 1
  have HC := hid (h.cnt hi hb (b.n - 1))
  have hw : IntKind.u32.wrap (b.n - 1) = b.n - 1 := IntWalk.u32_in _ (by omega)
  have hq : (b.n - 1 == 0) = false := by simp; omega
  clear h hi hb hn
  obtain ⟨nn, hnn⟩ : ∃ nn, nn = b.n := ⟨_, rfl⟩
  rw [← hnn] at o1 hw hq HC ⊢
  clear hnn
  obtain ⟨mm, hmm⟩ : ∃ mm, mm = nn - 1 := ⟨_, rfl⟩
  rw [← hmm] at hw hq HC ⊢
  have hw2 : IntKind.u32.wrap (nn - 1) = mm := by rw [← hmm]; exact hw
  clear hmm hw
  go_enter Try.func19, Try.ntmps19
  go_wp2_with (refine HF.out.mono ?_; rintro e w1 ⟨rfl, rfl⟩)
  go_ret2
  exact ⟨rfl, HC.out.1, HC.out.2⟩
def DownPost (p pa pm : Nat) (Sa : Nat → Prop) (AA : Ar) (B : Int → Nat) (L : WL) (x : Int) (w : World) (e : Ending) (w' : World) : Prop :=
  e = .returned (.tuple #[.int .u32 0, .int .i64 0]) ∧ (∃ Sa' D' i sp, Found AA x i sp ∧ WkW w' p pa pm Sa' (dropAt AA i sp) D' B (cutb L x) ∧ (∀ k, Sa' k → Sa k ∨ (w.heap.size ≤ k ∧ k < w'.heap.size))) ∧ Fr (fun k => k = pm ∨ Sa k ∨ k = B x) w w'
theorem wdown_last (h : WkW w p pa pm Sa AA D B L) {A : Ar} (hi : WkJ ⟨A, L⟩) {b : Bl} (hb : b ∈ L) (hn : b.n = 1) (ht : U64 b.t) :
    Calls Try.prog 19 #[.pointer (some ⟨p, 0, none⟩), .int .u64 b.h] w (DownPost p pa pm Sa AA B L b.h w) := by
  have HF := hid (wfind_some h hb)
  have o0 := h.o0 hb
  have o1 := h.o1 hb
  have z1 := h.of hb 1
  have hd4 := (h.d4 b hb).2
  obtain ⟨hc1, hc2⟩ := h.cnt hi.nd hb 0
  obtain ⟨w1, hw1⟩ : ∃ w1, w1 = w.setCell ⟨B b.h, 1, none⟩ (.int .u32 0) := ⟨_, rfl⟩
  rw [← hw1] at hc1 hc2
  have hm : ({ b with n := 0 } : Bl) ∈ setn L b.h 0 := mem_setn.2 ⟨b, hb, by rw [if_pos rfl]⟩
  have HE := hid (wend_any hc1 (WkJ.cnts hi (x := b.h) (n := 0)) hm ht)
  have hk := hc1.o1 hm
  simp only at hk
  have HK := hid hk
  have HLT := hid (h.ltb hb)
  have HSZ := hid (show w1.heap.size = w.heap.size by rw [hw1]; simp)
  have HC2 := hid hc2
  have HW := hid hw1
  rw [hn] at o1
  clear h hi hb hn hc1 hc2 hw1 hm hk ht
  obtain ⟨q, hq⟩ : ∃ q, q = B b.h := ⟨_, rfl⟩
  rw [← hq] at HF o0 o1 z1 HC2 HW HLT HK hd4
  have HQ := hid hq
  clear hq
  obtain ⟨hh, hhh⟩ : ∃ hh, hh = b.h := ⟨_, rfl⟩
  rw [← hhh] at HF HE HQ ⊢
  clear hhh
  obtain ⟨tt, htt⟩ : ∃ tt, tt = b.t := ⟨_, rfl⟩
  rw [← htt] at HE o0
  clear htt
  have HD4 := hid hd4
  clear hd4
  go_enter Try.func19, Try.ntmps19
  go_wp2_with fail
  refine HF.out.mono ?_
  rintro e w1 ⟨rfl, rfl⟩
  go_wp2_with fail
  rw [← HW.out]
  refine HE.out.mono ?_
  rintro e w2 ⟨⟨v, rfl⟩, ⟨Sa', D', i, sp, a1, a2, a3⟩, a4⟩
  have hk2 : w2.cell? ⟨q, 1, none⟩ = some (.int .u32 0) := by
    rw [World.cell?_of_block (a4.block q (by have := HSZ.out; have := HLT.out; omega) (fun e => by
      rcases e with e | e
      · exact HD4.out.1 e
      · exact HD4.out.2 e))]
    exact HK.out
  have A2 := hid a2
  have A4 := hid a4
  have A1 := hid a1
  clear a2 a4 a1
  rw [cutb_setn] at A2
  go_wp2
  go_ret2
  exact ⟨rfl, ⟨Sa', D', i, sp, A1.out, A2.out, fun k hk => by rw [← HSZ.out]; exact a3 k hk⟩, (HC2.out.mono (fun k e _ => .inr (.inr (by rw [e, HQ.out])))).trans A4.out (fun k hk _ => by
    rcases hk with hk | hk
    · exact .inl hk
    · exact .inr (.inl hk))⟩
/-- A new block, laid behind the others; the map does not name it yet. -/
theorem lvh_new (L : WL) (h t s : Int) (hl : lv L t = none) : lvh (L ++ [⟨h, t, false, 1⟩]) s = if s = t then some h else lvh L s := by
  unfold lvh lv at *
  rw [List.find?_append]
  by_cases e : s = t
  · subst e
    rw [hl, if_pos rfl]
    simp
  · rw [if_neg e]
    have : (t == s) = false := by simpa using fun k => e k.symm
    cases hq : L.find? fun b => b.t == s && !b.dead with
    | some b => simp
    | none => simp [this]
theorem alive_new (L : WL) (h t : Int) : (alive (L ++ [⟨h, t, false, 1⟩])).length = (alive L).length + 1 := by
  simp [alive]
/-- A block is laid, and the map told. -/
theorem WkW.add {w1 w2 : World} (h : WkW w p pa pm Sa AA D B L) {t : Int} (hl : lv L t = none) {AA' : Ar} {i g : Nat} (hp : Put AA ((w.heap.size + 1 : Nat) : Int) i g AA') (hn : ∀ b ∈ L, b.h ≠ hand i g)
    (hw1 : w1 = w.alloc (.cells #[.int .u64 t, .int .u32 1] 85)) (ha : InS (ext Sa w1 w2) w2 pa AA') (hf : Fr Sa w1 w2) {n : Nat} (hm : w'.ownsMap Try.prog TU (plainElem (H := Unit) Try.prog TU) pm n (D.put (.int .u64 t) (.lit (.int .u64 (hand i g))))) (hturn : w2.mapTurned w' pm) :
    WkW w' p pa pm (ext Sa w1 w2) AA' (D.put (.int .u64 t) (.lit (.int .u64 (hand i g)))) (fun x => if x = hand i g then w.heap.size else B x) (L ++ [⟨hand i g, t, false, 1⟩]) := by
  have hA := h.ar.ok
  have hf2 := fr_mapTurned hturn
  have sz1 : w1.heap.size = w.heap.size + 1 := by rw [hw1]; simp
  have hb1 : Fr (fun _ => False) w w1 := by rw [hw1]; exact (Fr.refl _ _).alloc _
  have hall : Fr (fun k => Sa k ∨ k = pm) w w' := ((hb1.mono (fun _ e _ => e.elim)).trans (hf.mono (fun k e _ => .inl e)) (fun _ e _ => e)).trans hf2 (fun k e _ => .inr e)
  have hmo := (h.mo.put t (hand i g)).congr (g := lvh (L ++ [⟨hand i g, t, false, 1⟩])) (d := (alive (L ++ [⟨hand i g, t, false, 1⟩])).length) (fun s => (lvh_new L _ t s hl).symm) (by
    have : (lvh L t).isSome = false := by unfold lvh; rw [hl]; rfl
    rw [this, alive_new]; rfl)
  have hm2 := ownsMap_fit hm
  rw [hmo.sz] at hm2
  have hext : ∀ {k}, k < w1.heap.size → ¬ Sa k → ¬ ext Sa w1 w2 k := fun hk hn e => by
    rcases e with e | e
    · exact hn e
    · omega
  have hpm := h.mp.lt
  have hpl := h.lt
  have hob : w'.heap[w.heap.size]? = some (.cells #[.int .u64 t, .int .u32 1] 85 (0, 0)) := by
    rw [hf2.block _ (by have := hf.size; omega) (fun e => by omega), hf.block _ (by omega) (fun e => by have := h.ar.lt _ e; omega), hw1]
    exact heap_alloc_new _ _
  refine ⟨by rw [hall.block p h.lt (fun e => by
      rcases e with e | e
      · exact h.d1 e
      · exact h.d3 e.symm)]; exact h.hp, ha.fr hf2 (fun k hk e => by
      subst e
      exact hext (by omega) h.d2 hk), hm2, hmo, fun b hb => ?_, fun b hb => ?_, fun j sp h1 h2 => ?_, fun b hb c hc e => ?_, hext (by omega) h.d1, hext (by omega) h.d2, h.d3, fun b hb => ?_⟩
  · rcases List.mem_append.1 hb with hb | hb
    · simp only [if_neg (hn b hb)]
      rw [hall.block _ (h.ltb hb) (fun e => by
        rcases e with e | e
        · exact (h.d4 b hb).2.2 e
        · exact (h.d4 b hb).2.1 e)]
      exact h.ob b hb
    · simp at hb
      subst hb
      simp only [if_pos]
      exact hob
  · rcases List.mem_append.1 hb with hb | hb
    · obtain ⟨j, sp, h1, h2, h3, h4⟩ := h.pl b hb
      simp only [if_neg (hn b hb)]
      refine ⟨j, sp, (hp.at hA j sp h2).2 (.inl ⟨h1, fun e => ?_⟩), h2, h3, h4⟩
      subst e
      rw [hp.free hA sp h1] at h2
      cases h2
    · simp at hb
      subst hb
      exact ⟨i, _, (hp.at hA i ⟨((w.heap.size + 1 : Nat) : Int), g, true⟩ rfl).2 (.inr ⟨rfl, rfl⟩), rfl, rfl, by simp⟩
  · rcases (hp.at hA j sp h2).1 h1 with ⟨h3, _⟩ | ⟨rfl, rfl⟩
    · obtain ⟨b, hb, e⟩ := h.co j sp h3 h2
      exact ⟨b, List.mem_append_left _ hb, e⟩
    · exact ⟨_, List.mem_append_right _ (List.mem_singleton.2 rfl), rfl⟩
  · rcases List.mem_append.1 hb with hb | hb
    · simp only [if_neg (hn b hb)] at e
      rcases List.mem_append.1 hc with hc | hc
      · simp only [if_neg (hn c hc)] at e
        exact h.inj b hb c hc e
      · simp at hc
        subst hc
        simp only [if_pos] at e
        have := h.ltb hb
        omega
    · simp at hb
      subst hb
      simp only [if_pos] at e
      rcases List.mem_append.1 hc with hc | hc
      · simp only [if_neg (hn c hc)] at e
        have := h.ltb hc
        omega
      · simp at hc
        subst hc
        rfl
  · rcases List.mem_append.1 hb with hb | hb
    · simp only [if_neg (hn b hb)]
      obtain ⟨e1, e2, e3⟩ := h.d4 b hb
      exact ⟨e1, e2, hext (by have := h.ltb hb; omega) e3⟩
    · simp at hb
      subst hb
      simp only [if_pos]
      exact ⟨by omega, by omega, hext (by omega) (fun e => by have := h.ar.lt _ e; omega)⟩
end
end Go.Proofs.Ytmampaglemleoab
