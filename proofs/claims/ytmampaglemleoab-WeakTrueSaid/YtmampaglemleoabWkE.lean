/-
  A table of weak blocks: begin, Of, New; how it lies in a set of blocks.
-/
import Derived.Test.YtmampaglemleoabWkD
namespace Go.Proofs.Ytmampaglemleoab
open Go Go.ChangeShapes Go.WideShapes Go.ChangeAt Go.RowKit Go.Maps

section
variable {w w' : World} {p pa pm : Nat} {Sa : Nat → Prop} {AA : Ar} {D : DataW Unit} {B : Int → Nat} {L : WL} {fp : Nat → Prop}
set_option maxHeartbeats 1000000 in
theorem wbegin_new (h : WkW w p pa pm Sa AA D B L) (hlen : L.length ≤ 65536) {t : Int} (ht : U64 t) (hl : lv L t = none) {AA' : Ar} {i g : Nat} (hp : Put AA ((w.heap.size + 1 : Nat) : Int) i g AA') (hn : ∀ b ∈ L, b.h ≠ hand i g) :
    Calls Try.prog 29 #[.pointer (some ⟨p, 0, none⟩), .int .u64 t] w fun e w' => e = .returned (.tuple #[.int .u64 (hand i g), .int .i64 0]) ∧
      ∃ Sa' D', WkW w' p pa pm Sa' AA' D' (fun x => if x = hand i g then w.heap.size else B x) (L ++ [⟨hand i g, t, false, 1⟩]) ∧ (∀ k, Sa' k → Sa k ∨ (w.heap.size ≤ k ∧ k < w'.heap.size)) ∧ Fr (fun k => Sa k ∨ k = pm) w w' := by
  obtain ⟨w1, hw1⟩ : ∃ w1, w1 = w.alloc (.cells #[.int .u64 t, .int .u32 1] 85) := ⟨_, rfl⟩
  have hb1 : Fr (fun _ => False) w w1 := by rw [hw1]; exact (Fr.refl _ _).alloc _
  have h1 := h.no hb1
  have hP := Put_some Sa w1 pa AA AA' i g _ h1.ar hp
  have hx : encE ((w.heap.size + 1 : Nat) : Int) = .pointer (some ⟨w.heap.size, 0, none⟩) := rfl
  rw [hx] at hP
  have c0 := h.c0
  have c0' : w1.cell? ⟨p, 0, none⟩ = some (.pointer (some ⟨pa, 0, none⟩)) := h1.c0
  have hbd := hand_bd (hp.ok h.ar.ok) ((hp.at h.ar.ok i ⟨((w.heap.size + 1 : Nat) : Int), g, true⟩ rfl).2 (.inr ⟨rfl, rfl⟩))
  simp only at hbd
  have HK := hid (keyOf_int_mk (P := Try.prog) Try.underlying35 (wf_u64 ht))
  have HE := hid (plainElem_int (H := Unit) (P := Try.prog) Try.underlying35 (wf_u64 (k := hand i g) ⟨by omega, hbd.2⟩))
  have hal : (alive L).length ≤ 65536 := by have : (alive L).length ≤ L.length := List.length_filter_le _ _; omega
  have HP := hid hP
  have H := hid h
  have H1 := hid h1
  have HL := hid hl
  have HPT := hid hp
  have HN := hid hn
  have HW1 := hid hw1
  have HB1 := hid hb1
  have HAL := hid hal
  clear h h1 hP hl hp hn hw1 hb1 hx hbd ht hlen hal
  go_enter Try.func29, Try.ntmps29
  go_wp2_with fail
  rw [← HW1.out]
  refine HP.out.mono ?_
  rintro e w2 ⟨he, r1, r2⟩
  subst he
  have h2 := H1.out.mp
  have h2' := r2.ownsMap h2 H1.out.d2
  have c1 : w2.cell? ⟨p, 1, none⟩ = some (.map (some pm)) := by
    rw [World.cell?_of_block (r2.block p H1.out.lt H1.out.d1)]
    exact H1.out.c1
  have HM := hid h2'
  have R1 := hid r1
  have R2 := hid r2
  clear r1 r2 h2 h2'
  go_wp2_with (at_mapUpdate; refine wpList_mapUpdate_in _ rfl _ _ _ TM rfl TU TU lawU Try.underlying66 _ pm _ _ rfl HM.out (by have := HAL.out; unfold maxLen; omega) _ _ _ rfl rfl HK.out _ _ HE.out ?_; intro w3 hown3 hturn3)
  go_ret2
  have hadd := H.out.add HL.out HPT.out HN.out HW1.out R1.out R2.out hown3 hturn3
  have hs1 : w1.heap.size = w.heap.size + 1 := by rw [HW1.out]; simp
  have hf3 := fr_mapTurned hturn3
  refine ⟨rfl, _, _, hadd, fun k hk => ?_, ((HB1.out.mono (fun _ e _ => e.elim)).trans (R2.out.mono (fun k e _ => .inl e)) (fun _ e _ => e)).trans hf3 (fun k e _ => .inr e)⟩
  rcases hk with hk | hk
  · exact .inl hk
  · exact .inr ⟨by omega, by have := hf3.size; omega⟩
theorem wbegin_full (h : WkW w p pa pm Sa AA D B L) {t : Int} (hF : Full AA) :
    Calls Try.prog 29 #[.pointer (some ⟨p, 0, none⟩), .int .u64 t] w fun e w' => e = .returned (.tuple #[.int .u64 0, .int .i64 3]) ∧ Fr (fun _ => False) w w' := by
  obtain ⟨w1, hw1⟩ : ∃ w1, w1 = w.alloc (.cells #[.int .u64 t, .int .u32 1] 85) := ⟨_, rfl⟩
  have hb1 : Fr (fun _ => False) w w1 := by rw [hw1]; exact (Fr.refl _ _).alloc _
  have hP := Put_full Sa w1 pa AA ((w.heap.size + 1 : Nat) : Int) (h.no hb1).ar hF
  have hx : encE ((w.heap.size + 1 : Nat) : Int) = .pointer (some ⟨w.heap.size, 0, none⟩) := rfl
  rw [hx] at hP
  have c0 := h.c0
  have HP := hid hP
  have HB1 := hid hb1
  have HW1 := hid hw1
  clear h hP hb1 hw1 hF hx
  go_enter Try.func29, Try.ntmps29
  go_wp2_with fail
  rw [← HW1.out]
  refine HP.out.mono ?_
  rintro e w2 ⟨he, r2⟩
  subst he
  have R2 := hid r2
  clear r2
  go_wp2
  go_ret2
  exact ⟨rfl, HB1.out.trans R2.out (fun _ e _ => e)⟩
end
/-- A table at a pointer, in a set of blocks. -/
def RpW (S : Nat → Prop) (w : World) (v : Value) (s : Ws) : Prop :=
  ∃ p pa pm Sa AA D B, v = .pointer (some ⟨p, 0, none⟩) ∧ WkW w p pa pm Sa AA D B s.L ∧ s.A = er AA ∧ WkI s ∧ (S p ∧ S pm ∧ (∀ k, Sa k → S k) ∧ ∀ b ∈ s.L, S (B b.h)) ∧ ∀ k, S k → k < w.heap.size
section
variable {S : Nat → Prop} {w w' : World} {v : Value} {s : Ws} {fp : Nat → Prop}
theorem RpW.ok (h : RpW S w v s) : WkI s := by
  obtain ⟨p, pa, pm, Sa, AA, D, B, _, _, _, h, _⟩ := h
  exact h
theorem RpW.lt (h : RpW S w v s) : ∀ k, S k → k < w.heap.size := by
  obtain ⟨p, pa, pm, Sa, AA, D, B, _, _, _, _, _, h⟩ := h
  exact h
theorem RpW.ptr (h : RpW S w v s) : ∃ b, v = .pointer (some ⟨b, 0, none⟩) := by
  obtain ⟨p, pa, pm, Sa, AA, D, B, h, _⟩ := h
  exact ⟨p, h⟩
theorem RpW.fr (h : RpW S w v s) (hf : Fr fp w w') (hd : ∀ k, S k → ¬ fp k) : RpW S w' v s := by
  obtain ⟨p, pa, pm, Sa, AA, D, B, h1, h2, h3, h4, ⟨h5, h6, h7, h8⟩, h9⟩ := h
  exact ⟨p, pa, pm, Sa, AA, D, B, h1, h2.fr hf (hd _ h5) (hd _ h6) (fun k hk => hd k (h7 k hk)) (fun b hb => hd _ (h8 b hb)), h3, h4, ⟨h5, h6, h7, h8⟩, fun k hk => Nat.lt_of_lt_of_le (h9 k hk) hf.size⟩
theorem RpW.no (h : RpW S w v s) (hf : Fr (fun _ => False) w w') : RpW S w' v s := h.fr hf (fun _ _ e => e)
theorem RpW.wider (h : RpW S w' v s) : RpW (exS S w w') w' v s := by
  obtain ⟨p, pa, pm, Sa, AA, D, B, h1, h2, h3, h4, ⟨h5, h6, h7, h8⟩, h9⟩ := h
  exact ⟨p, pa, pm, Sa, AA, D, B, h1, h2, h3, h4, ⟨.inl h5, .inl h6, fun k hk => .inl (h7 k hk), fun b hb => .inl (h8 b hb)⟩, fun k hk => by
    rcases hk with hk | hk
    · exact h9 k hk
    · exact hk.2⟩
/-- New. -/
theorem RpW.new (m : Int) (w : World) (hm : 1 ≤ m ∧ m ≤ 65536) : Calls Try.prog 8 #[.int .i64 m] w fun e w' => Below w.heap.size w w' ∧ ∃ p S, e = .returned (.tuple #[p, .int .i64 0]) ∧ (∀ b, S b → w.heap.size ≤ b) ∧ RpW S w' p ⟨Go.Proofs.Ytmampaglemleoab.new m.toNat 1, []⟩ := by
  have hA := New_arena m 1 w (by omega) (by omega) (by omega) (by omega)
  have HA := hid hA
  have HM := hid hm
  clear hA hm
  have hmm := @run_makeMap Try.prog
  go_enter Try.func8, Try.ntmps8
  go_wp2_with fail
  refine HA.out.mono ?_
  rintro e w1 ⟨rfl, hw1⟩
  have HW := hid hw1
  clear hw1
  go_wp2
  go_ret2
  have hm := HM.out
  have hw1 := HW.out
  obtain ⟨w2, hw2⟩ : ∃ w2, w2 = w1.alloc (.map #[] 0) := ⟨_, rfl⟩
  rw [← hw2]
  obtain ⟨w3, hw3⟩ : ∃ w3, w3 = w2.alloc (.cells #[.pointer (some ⟨w.heap.size, 0, none⟩), .map (some w1.heap.size)] 68) := ⟨_, rfl⟩
  rw [← hw3]
  have s1 : w1.heap.size = w.heap.size + 1 := by rw [hw1]; simp
  have s2 : w2.heap.size = w.heap.size + 2 := by rw [hw2]; simp; omega
  have s3 : w3.heap.size = w.heap.size + 3 := by rw [hw3]; simp; omega
  have f1 : Below w.heap.size w w1 := by rw [hw1]; exact (Below.refl _ _).alloc (Nat.le_refl _) _
  have f2 : Fr (fun _ => False) w1 w2 := by rw [hw2]; exact (Fr.refl _ _).alloc _
  have f3 : Fr (fun _ => False) w2 w3 := by rw [hw3]; exact (Fr.refl _ _).alloc _
  have f13 := f2.trans f3 (fun _ e _ => e)
  have hp3 : w3.heap[w.heap.size + 2]? = some (.cells #[.pointer (some ⟨w.heap.size, 0, none⟩), .map (some w1.heap.size)] 68 (0, 0)) := by
    have := heap_alloc_new w2 (.cells #[.pointer (some ⟨w.heap.size, 0, none⟩), .map (some w1.heap.size)] 68)
    rw [s2, ← hw3] at this
    exact this
  have hmap : w3.ownsMap Try.prog TU (plainElem (H := Unit) Try.prog TU) (w.heap.size + 1) 0 (.map []) := by
    have := World.ownsMap_made w1 Try.prog TU (plainElem (H := Unit) Try.prog TU)
    rw [s1, ← hw2] at this
    exact f3.ownsMap this (fun e => e)
  have hmn : ((m.toNat : Nat) : Int) = m := by omega
  have har : InS (fun k => k = w.heap.size) w1 w.heap.size (Go.Proofs.Ytmampaglemleoab.new m.toNat 1) := by
    refine ⟨.slice none 0 0, .slice none 0 0, ⟨?_, World.ownsRow_nil _ _ _ _, World.ownsRow_nil _ _ _ _, by simp [Value.ownBlock], by simp [Value.ownBlock], by simp [Value.ownBlock]⟩, new_ok (by omega) (by omega), rfl, by simp [Value.ownBlock], by simp [Value.ownBlock], fun k hk => by omega⟩
    have : cnt (Go.Proofs.Ytmampaglemleoab.new m.toNat 1).L = 0 := rfl
    rw [this]
    show w1.heap[w.heap.size]? = some (.cells #[.int .i64 ((m.toNat : Nat) : Int), .int .u32 1, .slice none 0 0, .slice none 0 0, .int .i64 0] 89 (0, 0))
    rw [hmn, hw1]
    exact heap_alloc_new _ _
  refine ⟨f1.trans (f13.below (B := w.heap.size) (by omega) (fun _ e => e.elim)), _, fun k => w.heap.size ≤ k ∧ k < w3.heap.size, ?_, fun b hb => hb.1, w.heap.size + 2, w.heap.size, w.heap.size + 1, fun k => k = w.heap.size, Go.Proofs.Ytmampaglemleoab.new m.toNat 1, .map [], fun _ => 0, rfl, ⟨?_, har.fr f13 (fun _ _ e => e), hmap, (MapOf.nil _ _).congr (fun _ => rfl) rfl, by simp, by simp, by simp [Go.Proofs.Ytmampaglemleoab.new], by simp, by omega, by omega, by omega, by simp⟩, rfl, WkI.new (by omega), ⟨⟨by omega, by omega⟩, ⟨by omega, by omega⟩, fun k hk => ⟨by omega, by omega⟩, by simp⟩, fun k hk => hk.2⟩
  · simp [s1]
  · rw [hp3, s1]
theorem RpW.new_not (m : Int) (w : World) (hm : ¬ (1 ≤ m ∧ m ≤ 65536)) : Calls Try.prog 8 #[.int .i64 m] w fun e w' => e = .returned (.tuple #[.pointer none, .int .i64 1]) ∧ w = w' := by
  have HA := hid (New_arena_not m 1 w (by omega))
  clear hm
  go_enter Try.func8, Try.ntmps8
  go_wp2_with fail
  refine HA.out.mono ?_
  rintro e w1 ⟨rfl, rfl⟩
  go_wp2
  go_ret2
  exact ⟨rfl, rfl⟩
/-- Die. -/
theorem RpW.die (h : RpW S w v s) {t : Int} (ht : U64 t) : Calls Try.prog 18 #[v, .int .u64 t] w fun e w' => e = .returned (.bool (lv s.L t).isSome) ∧ Fr S w w' ∧ RpW (exS S w w') w' v { s with L := dieL s.L t } := by
  obtain ⟨p, pa, pm, Sa, AA, D, B, rfl, h2, h3, h4, ⟨h5, h6, h7, h8⟩, h9⟩ := h
  refine (wdie_any h2 (A := s.A) h4.toWkJ ht).mono ?_
  rintro e w' ⟨rfl, ⟨D', h2'⟩, hf⟩
  have hkey : ∀ b ∈ dieL s.L t, ∃ c ∈ s.L, b.h = c.h := fun b hb => by
    unfold dieL at hb
    cases hl : lv s.L t with
    | none => rw [hl] at hb; exact ⟨b, hb, rfl⟩
    | some x =>
      rw [hl] at hb
      obtain ⟨c, hc, e⟩ := mem_kill.1 hb
      exact ⟨c, hc, by rw [e]; split <;> rfl⟩
  have := hf.size
  exact ⟨rfl, hf.mono (fun k e _ => e ▸ h6), RpW.wider ⟨p, pa, pm, Sa, AA, D', B, rfl, h2', h3, h4.die t, ⟨h5, h6, h7, fun b hb => by
    obtain ⟨c, hc, e⟩ := hkey b hb
    rw [e]; exact h8 c hc⟩, fun k hk => Nat.lt_of_lt_of_le (h9 k hk) this⟩⟩
/-- Lock. -/
theorem RpW.lock (h : RpW S w v s) {x : Int} (hx : U64 x) : Calls Try.prog 20 #[v, .int .u64 x] w fun e w' => e = .returned (.tuple #[.int .u64 (lockR s.L x).1, .int .i64 (lockR s.L x).2]) ∧ Fr (fun _ => False) w w' := by
  obtain ⟨p, pa, pm, Sa, AA, D, B, rfl, h2, h3, h4, ⟨h5, h6, h7, h8⟩, h9⟩ := h
  unfold lockR
  cases hf : fb s.L x with
  | none =>
    refine (wlock_stale h2 hf hx).mono ?_
    rintro e w' ⟨rfl, rfl⟩
    exact ⟨rfl, Fr.refl _ _⟩
  | some b =>
    obtain ⟨h1, rfl⟩ := fb_some hf
    refine (wlock_some h2 (A := s.A) h4 h1).mono ?_
    rintro e w' ⟨rfl, hfr⟩
    refine ⟨?_, hfr⟩
    cases hd : b.dead <;> simp [hd]
/-- Up. -/
theorem RpW.up (h : RpW S w v s) {x : Int} (hx : U64 x) : Calls Try.prog 21 #[v, .int .u64 x] w fun e w' => Fr S w w' ∧ ∃ s' n er, e = .returned (.tuple #[.int .u32 n, .int .i64 er]) ∧ WkUp s x s' n er ∧ RpW (exS S w w') w' v s' := by
  have hcopy := h
  obtain ⟨p, pa, pm, Sa, AA, D, B, rfl, h2, h3, h4, ⟨h5, h6, h7, h8⟩, h9⟩ := h
  cases hf : fb s.L x with
  | none =>
    refine (wup_stale h2 hf hx).mono ?_
    rintro e w' ⟨rfl, rfl⟩
    exact ⟨Fr.refl _ _, _, _, _, rfl, .stale hf, hcopy.wider⟩
  | some b =>
    obtain ⟨h1, rfl⟩ := fb_some hf
    have hb := h4.bd b h1
    by_cases hn : b.n = 4294967295
    · refine (wup_top h2 h1 hn).mono ?_
      rintro e w' ⟨rfl, rfl⟩
      exact ⟨Fr.refl _ _, _, _, _, rfl, .top b hf hn, hcopy.wider⟩
    · refine (wup_ok h2 h4.nd h1 (by omega)).mono ?_
      rintro e w' ⟨rfl, hw, hfr⟩
      have := hfr.size
      refine ⟨hfr.mono (fun k e _ => e ▸ h8 b h1), _, _, _, rfl, .ok b hf hn, RpW.wider ⟨p, pa, pm, Sa, AA, D, B, rfl, hw, h3, h4.cnts (by omega), ⟨h5, h6, h7, fun c hc => ?_⟩, fun k hk => Nat.lt_of_lt_of_le (h9 k hk) this⟩⟩
      obtain ⟨q, hq, e, _⟩ := setn_key hc
      rw [e]; exact h8 q hq
/-- Down. -/
theorem RpW.dn (h : RpW S w v s) {x : Int} (hx : U64 x) : Calls Try.prog 19 #[v, .int .u64 x] w fun e w' => Fr S w w' ∧ ∃ s' n er, e = .returned (.tuple #[.int .u32 n, .int .i64 er]) ∧ WkDn s x s' n er ∧ RpW (exS S w w') w' v s' := by
  have hcopy := h
  obtain ⟨p, pa, pm, Sa, AA, D, B, rfl, h2, h3, h4, ⟨h5, h6, h7, h8⟩, h9⟩ := h
  cases hf : fb s.L x with
  | none =>
    refine (wdown_stale h2 hf hx).mono ?_
    rintro e w' ⟨rfl, rfl⟩
    exact ⟨Fr.refl _ _, _, _, _, rfl, .stale hf, hcopy.wider⟩
  | some b =>
    obtain ⟨h1, rfl⟩ := fb_some hf
    have hb := h4.bd b h1
    by_cases hn : b.n = 1
    · refine (wdown_last h2 (A := s.A) h4.toWkJ h1 hn hb.1).mono ?_
      rintro e w' ⟨rfl, ⟨Sa', D', i, sp, a1, a2, a3⟩, hfr⟩
      have hs : Found s.A b.h i (e0 sp) := by rw [h3]; exact er_found a1
      refine ⟨hfr.mono (fun k e _ => ?_), _, _, _, rfl, .last b hf hn hs, p, pa, pm, Sa', dropAt AA i sp, D', B, rfl, a2, ?_, h4.cut hs, ⟨.inl h5, .inl h6, fun k hk => ?_, fun c hc => .inl (h8 c (mem_cutb.1 hc).1)⟩, fun k hk => ?_⟩
      · rcases e with e | e | e
        · exact e ▸ h6
        · exact h7 k e
        · exact e ▸ h8 b h1
      · show dropAt s.A i (e0 sp) = _
        rw [er_drop, h3]
      · rcases a3 k hk with e | e
        · exact .inl (h7 k e)
        · exact .inr e
      · rcases hk with hk | hk
        · exact Nat.lt_of_lt_of_le (h9 k hk) hfr.size
        · exact hk.2
    · refine (wdown_more h2 h4.nd h1 (by omega)).mono ?_
      rintro e w' ⟨rfl, hw, hfr⟩
      have := hfr.size
      refine ⟨hfr.mono (fun k e _ => e ▸ h8 b h1), _, _, _, rfl, .more b hf hn, RpW.wider ⟨p, pa, pm, Sa, AA, D, B, rfl, hw, h3, h4.cnts (by omega), ⟨h5, h6, h7, fun c hc => ?_⟩, fun k hk => Nat.lt_of_lt_of_le (h9 k hk) this⟩⟩
      obtain ⟨q, hq, e, _⟩ := setn_key hc
      rw [e]; exact h8 q hq
end
end Go.Proofs.Ytmampaglemleoab
