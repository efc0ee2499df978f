/-
  A table of weak blocks: end, Down, begin, Of, New.
-/
import Derived.Test.YtmampaglemleoabWkB
namespace Go.Proofs.Ytmampaglemleoab
open Go Go.ChangeShapes Go.WideShapes Go.ChangeAt Go.RowKit Go.Maps

section
variable {w w' : World} {p pa pm : Nat} {Sa : Nat → Prop} {AA : Ar} {D : DataW Unit} {B : Int → Nat} {L : WL} {fp : Nat → Prop}
theorem cutb_kill (L : WL) (x : Int) : cutb (kill L x) x = cutb L x := by
  unfold cutb kill
  induction L with
  | nil => rfl
  | cons c L ih =>
    rw [List.map_cons, List.filter_cons, List.filter_cons, ih]
    by_cases e : c.h = x
    · simp [e]
    · simp [e]
theorem cutb_setn (L : WL) (x n : Int) : cutb (setn L x n) x = cutb L x := by
  unfold cutb setn
  induction L with
  | nil => rfl
  | cons c L ih =>
    rw [List.map_cons, List.filter_cons, List.filter_cons, ih]
    by_cases e : c.h = x
    · simp [e]
    · simp [e]
theorem filter_cut (L : WL) (x : Int) (f : Bl → Bool) (h : ∀ o ∈ L, o.h = x → f o = false) : (cutb L x).filter f = L.filter f := by
  unfold cutb
  rw [List.filter_filter]
  refine List.filter_congr fun o ho => ?_
  by_cases e : o.h = x
  · rw [h o ho e]; rfl
  · simp [e]
theorem find_cut (L : WL) (x : Int) (f : Bl → Bool) (h : ∀ o ∈ L, o.h = x → f o = false) : (cutb L x).find? f = L.find? f := by
  rw [← List.head?_filter, ← List.head?_filter, filter_cut L x f h]
/-- A dead block's place is dropped. -/
theorem WkW.cut (h : WkW w p pa pm Sa AA D B L) {x : Int} {i : Nat} {sp : Spot} (hdead : ∀ o ∈ L, o.h = x → o.dead = true) (hF : Found AA x i sp) (h1 : InS (ext Sa w w') w' pa (dropAt AA i sp)) (hf : Fr Sa w w') :
    WkW w' p pa pm (ext Sa w w') (dropAt AA i sp) D B (cutb L x) := by
  have hA := h.ar.ok
  have ea : alive (cutb L x) = alive L := filter_cut L x _ fun o ho e => by rw [hdead o ho e]; rfl
  have el : ∀ t, lvh (cutb L x) t = lvh L t := fun t => by
    unfold lvh lv
    rw [find_cut L x _ fun o ho e => by rw [hdead o ho e]; simp]
  have hlt : ∀ {k}, k < w.heap.size → ¬ Sa k → ¬ ext Sa w w' k := fun hk hn e => by
    rcases e with e | e
    · exact hn e
    · omega
  refine ⟨by rw [hf.block p h.lt h.d1]; exact h.hp, h1, by rw [ea]; exact hf.ownsMap h.mp h.d2, by rw [ea]; exact h.mo.congr (fun t => (el t).symm) rfl, fun b hb => ?_, fun b hb => ?_, fun j r g1 g2 => ?_, fun b hb c hc => h.inj b (mem_cutb.1 hb).1 c (mem_cutb.1 hc).1, hlt h.lt h.d1, hlt h.mp.lt h.d2, h.d3, fun b hb => ?_⟩
  · have hb := (mem_cutb.1 hb).1
    rw [hf.block _ (h.ltb hb) (h.d4 b hb).2.2]; exact h.ob b hb
  · obtain ⟨hb, hne⟩ := mem_cutb.1 hb
    obtain ⟨j, r, f1, f2, f3, f4⟩ := h.pl b hb
    refine ⟨j, r, (drop_at hF.1 j r f2).2 ⟨f1, fun e => ?_⟩, f2, f3, f4⟩
    subst e
    rw [hF.1] at f1
    cases f1
    exact hne (f3.trans hF.2.2.symm)
  · obtain ⟨g3, g4⟩ := (drop_at hF.1 j r g2).1 g1
    obtain ⟨b, hb, e⟩ := h.co j r g3 g2
    refine ⟨b, mem_cutb.2 ⟨hb, fun k => g4 ?_⟩, e⟩
    have k1 := hA.lt g3
    have k2 := hA.lt hF.1
    exact (hand_inj2 (by omega) (by omega) ((e.symm.trans k).trans hF.2.2)).1
  · have hb := (mem_cutb.1 hb).1
    obtain ⟨e1, e2, e3⟩ := h.d4 b hb
    exact ⟨e1, e2, hlt (h.ltb hb) e3⟩
theorem Drop_any (S : Nat → Prop) (w : World) (p : Nat) (A : Ar) (i : Nat) (s : Spot) (hd : Int) (h : InS S w p A) (hf : Found A hd i s) :
    Calls Try.prog 39 #[.pointer (some ⟨p, 0, none⟩), .int .u64 hd] w fun e w' => e = .returned (.tuple #[encE s.x, .int .i64 0]) ∧ InS (ext S w w') w' p (dropAt A i s) ∧ Fr S w w' := by
  by_cases hw : s.g < 4294967295
  · exact Drop_again S w p A i s hd h hf hw
  · refine (Drop_worn S w p A i s hd h hf hw).mono ?_
    rintro e w' ⟨h1, h2, h3⟩
    exact ⟨h1, h2.wider, h3⟩
def EndPost (p pa pm : Nat) (Sa : Nat → Prop) (AA : Ar) (B : Int → Nat) (L : WL) (x : Int) (w : World) (e : Ending) (w' : World) : Prop :=
  (∃ v, e = .returned v) ∧ (∃ Sa' D' i sp, Found AA x i sp ∧ WkW w' p pa pm Sa' (dropAt AA i sp) D' B (cutb L x) ∧ (∀ k, Sa' k → Sa k ∨ (w.heap.size ≤ k ∧ k < w'.heap.size))) ∧ Fr (fun k => k = pm ∨ Sa k) w w'
set_option maxHeartbeats 1000000 in
/-- end. -/
theorem wend_any (h : WkW w p pa pm Sa AA D B L) {A : Ar} (hi : WkJ ⟨A, L⟩) {b : Bl} (hb : b ∈ L) (ht : U64 b.t) :
    Calls Try.prog 31 #[.pointer (some ⟨p, 0, none⟩), .int .u64 b.h, .int .u64 b.t] w (EndPost p pa pm Sa AA B L b.h w) := by
  have hlk := h.look ht
  have HK := hid (keyOf_int_mk (P := Try.prog) Try.underlying35 (wf_u64 ht))
  have c0 := h.c0
  have c1 := h.c1
  have HM := hid h.mp
  have hm := lvh_mine hi hb
  obtain ⟨i, sp, h1, h2, h3, h4⟩ := h.pl b hb
  have hF : Found AA b.h i sp := ⟨h1, h2, h3⟩
  have HH := hid h
  have HI := hid hi
  have HB := hid hb
  have HF := hid hF
  obtain ⟨x, hx⟩ : ∃ x, x = (lvh L b.t).getD 0 := ⟨_, rfl⟩
  rw [← hx] at hlk hm
  have HMM := hid hm
  have HD := hid (fun W hI => Drop_any Sa W pa AA i sp b.h hI hF)
  clear h hi hb hm hx h1 h2 h3 h4 hF
  have hne : (x == b.h) = !b.dead := by
    have := HMM.out
    cases hd : b.dead with
    | true => have : x ≠ b.h := fun e => by have := this.1 e; rw [hd] at this; cases this
              simpa using this
    | false => simpa using this.2 hd
  cases hd : b.dead with
  | false =>
    rw [hd] at hne
    have HKL := hid (show ∀ w1 n, w1.ownsMap Try.prog TU (plainElem (H := Unit) Try.prog TU) pm n (D.del (.int .u64 b.t)) → w.mapTurned w1 pm → WkW w1 p pa pm Sa AA (D.del (.int .u64 b.t)) B (kill L b.h) ∧ Fr (fun k => k = pm) w w1 from fun w1 n ho hturn => ⟨HH.out.kill HI.out HB.out hd ho (fr_mapTurned hturn) rfl, fr_mapTurned hturn⟩)
    have hdd : ∀ o ∈ kill L b.h, o.h = b.h → o.dead = true := fun o ho e => by
      obtain ⟨q, hq, e2⟩ := mem_kill.1 ho
      by_cases hx : q.h = b.h
      · rw [e2, if_pos hx]
      · rw [if_neg hx] at e2; rw [e2] at e; exact absurd e hx
    have HDD := hid hdd
    clear hdd HH HI HB HMM hd
    generalize b.h = hh at *
    generalize b.t = tt at *
    go_enter Try.func31, Try.ntmps31
    go_wp2_with (at_delete; refine wpList_delete_own _ rfl _ _ TM TU rfl TU lawU Try.underlying66 _ pm _ _ rfl HM.out _ _ rfl HK.out ?_; intro w1 hown1 hturn1; obtain ⟨q1, q2⟩ := HKL.out _ _ hown1 hturn1; have d0 := q1.c0; have Q1 := hid q1; have Q2 := hid q2; clear q1 q2 hown1 hturn1)
    refine (HD.out _ Q1.out.ar).mono ?_
    rintro e w2 ⟨rfl, r1, r2⟩
    have R1 := hid r1
    have R2 := hid r2
    clear r1 r2
    go_wp2
    refine bodyPost_end (results_none rfl _ _ _) rfl ?_
    have hcut := Q1.out.cut HDD.out HF.out R1.out R2.out
    rw [cutb_kill] at hcut
    exact ⟨⟨_, rfl⟩, ⟨_, _, i, sp, HF.out, hcut, fun k hk => by
      rcases hk with hk | hk
      · exact .inl hk
      · exact .inr ⟨Nat.le_trans Q2.out.size hk.1, hk.2⟩⟩, (Q2.out.mono (fun k e _ => .inl e)).trans R2.out (fun k hk _ => .inr hk)⟩
  | true =>
    rw [hd] at hne
    have hdd : ∀ o ∈ L, o.h = b.h → o.dead = true := fun o ho e => by rw [bl_eq HI.out.nd ho HB.out e]; exact hd
    have HDD := hid hdd
    have hD := HD.out w HH.out.ar
    clear hdd HI HB HMM hd HD
    generalize b.h = hh at *
    generalize b.t = tt at *
    go_enter Try.func31, Try.ntmps31
    go_wp2_with fail
    refine hD.mono ?_
    rintro e w2 ⟨rfl, r1, r2⟩
    have R1 := hid r1
    have R2 := hid r2
    clear r1 r2
    go_wp2
    refine bodyPost_end (results_none rfl _ _ _) rfl ?_
    exact ⟨⟨_, rfl⟩, ⟨_, _, i, sp, HF.out, HH.out.cut HDD.out HF.out R1.out R2.out, fun k hk => hk⟩, R2.out.mono (fun k e _ => .inr e)⟩
end
end Go.Proofs.Ytmampaglemleoab
