/-
  A table of weak blocks: Of; of a table that is none.
-/
import Derived.Test.YtmampaglemleoabWkE
namespace Go.Proofs.Ytmampaglemleoab
open Go Go.ChangeShapes Go.WideShapes Go.ChangeAt Go.RowKit Go.Maps

section
variable {w w' : World} {p pa pm : Nat} {Sa : Nat → Prop} {AA : Ar} {D : DataW Unit} {B : Int → Nat} {L : WL} {fp : Nat → Prop}
theorem WkW.look_none (h : WkW w p pa pm Sa AA D B L) {t : Int} (ht : U64 t) (hl : lv L t = none) : (Instr.lookup TM (.map (some pm)) (.int .u64 t) true).run Try.prog w = .ok (.tuple #[.int .u64 0, .bool false]) w := by
  have := h.look_ok ht
  have e : lvh L t = none := by unfold lvh; rw [hl]; rfl
  rw [e] at this
  exact this
theorem WkW.look_some (h : WkW w p pa pm Sa AA D B L) {t : Int} (ht : U64 t) {b : Bl} (hl : lv L t = some b) : (Instr.lookup TM (.map (some pm)) (.int .u64 t) true).run Try.prog w = .ok (.tuple #[.int .u64 b.h, .bool true]) w := by
  have := h.look_ok ht
  have e : lvh L t = some b.h := by unfold lvh; rw [hl]; rfl
  rw [e] at this
  exact this
/-- Of, where there is no live block: as begin does. -/
theorem wof_none (h : WkW w p pa pm Sa AA D B L) {t : Int} (ht : U64 t) (hl : lv L t = none) {x e : Int} {Q : World → Prop} (hb : Calls Try.prog 29 #[.pointer (some ⟨p, 0, none⟩), .int .u64 t] w fun r w' => r = .returned (.tuple #[.int .u64 x, .int .i64 e]) ∧ Q w') :
    Calls Try.prog 17 #[.pointer (some ⟨p, 0, none⟩), .int .u64 t] w fun r w' => r = .returned (.tuple #[.int .u64 x, .int .i64 e]) ∧ Q w' := by
  have hlk := h.look_none ht hl
  have c1 := h.c1
  have HB := hid hb
  clear h hl hb ht
  go_enter Try.func17, Try.ntmps17
  go_wp2_with fail
  refine HB.out.mono ?_
  rintro r w' ⟨rfl, hq⟩
  have HQ := hid hq
  clear hq
  go_wp2
  go_ret2
  exact ⟨rfl, HQ.out⟩
theorem wof_up (h : WkW w p pa pm Sa AA D B L) {t : Int} (ht : U64 t) {b : Bl} (hl : lv L t = some b) {n : Int} {Q : World → Prop} (hb : Calls Try.prog 21 #[.pointer (some ⟨p, 0, none⟩), .int .u64 b.h] w fun r w' => r = .returned (.tuple #[.int .u32 n, .int .i64 0]) ∧ Q w') :
    Calls Try.prog 17 #[.pointer (some ⟨p, 0, none⟩), .int .u64 t] w fun r w' => r = .returned (.tuple #[.int .u64 b.h, .int .i64 0]) ∧ Q w' := by
  have hlk := h.look_some ht hl
  have c1 := h.c1
  have HB := hid hb
  clear h hl hb ht
  generalize b.h = x at *
  go_enter Try.func17, Try.ntmps17
  go_wp2_with fail
  refine HB.out.mono ?_
  rintro r w' ⟨rfl, hq⟩
  have HQ := hid hq
  clear hq
  go_wp2
  go_ret2
  exact ⟨rfl, HQ.out⟩
theorem wof_top (h : WkW w p pa pm Sa AA D B L) {t : Int} (ht : U64 t) {b : Bl} (hl : lv L t = some b) {n : Int} {Q : World → Prop} (hb : Calls Try.prog 21 #[.pointer (some ⟨p, 0, none⟩), .int .u64 b.h] w fun r w' => r = .returned (.tuple #[.int .u32 n, .int .i64 4]) ∧ Q w') :
    Calls Try.prog 17 #[.pointer (some ⟨p, 0, none⟩), .int .u64 t] w fun r w' => r = .returned (.tuple #[.int .u64 0, .int .i64 4]) ∧ Q w' := by
  have hlk := h.look_some ht hl
  have c1 := h.c1
  have HB := hid hb
  clear h hl hb ht
  generalize b.h = x at *
  go_enter Try.func17, Try.ntmps17
  go_wp2_with fail
  refine HB.out.mono ?_
  rintro r w' ⟨rfl, hq⟩
  have HQ := hid hq
  clear hq
  go_wp2
  go_ret2
  exact ⟨rfl, HQ.out⟩
end
/-- Of. -/
theorem RpW.of {S : Nat → Prop} {w : World} {v : Value} {s : Ws} (h : RpW S w v s) {t : Int} (ht : U64 t) : Calls Try.prog 17 #[v, .int .u64 t] w fun e w' => Fr S w w' ∧ ∃ s' x er, e = .returned (.tuple #[.int .u64 x, .int .i64 er]) ∧ WkOf s t s' x er ∧ RpW (exS S w w') w' v s' := by
  have hcopy := h
  obtain ⟨p, pa, pm, Sa, AA, D, B, rfl, h2, h3, h4, ⟨h5, h6, h7, h8⟩, h9⟩ := h
  cases hl : lv s.L t with
  | none =>
    rcases put_or_full h2.ar.ok ((w.heap.size + 1 : Nat) : Int) with hF | ⟨i, g, AA', hp⟩
    · refine (wof_none h2 ht hl (wbegin_full h2 (t := t) hF)).mono ?_
      rintro e w' ⟨rfl, hfr⟩
      exact ⟨hfr.mono (fun _ e _ => e.elim), _, _, _, rfl, .full hl (by rw [h3]; exact er_full.2 hF), (hcopy.no hfr).wider⟩
    · have hp0 : Put s.A 0 i g (er AA') := by rw [h3]; exact er_put hp
      have hn := h4.fresh hp0
      refine (wof_none h2 ht hl (wbegin_new h2 h4.len ht hl hp hn)).mono ?_
      rintro e w' ⟨rfl, Sa', D', hw, ha, hfr⟩
      refine ⟨hfr.mono (fun k e _ => ?_), _, _, _, rfl, .new hl hp0, p, pa, pm, Sa', AA', D', _, rfl, hw, rfl, h4.add ht hl hp0, ⟨.inl h5, .inl h6, fun k hk => ?_, fun b hb => ?_⟩, fun k hk => ?_⟩
      · rcases e with e | e
        · exact h7 k e
        · exact e ▸ h6
      · rcases ha k hk with e | e
        · exact .inl (h7 k e)
        · exact .inr e
      · rcases List.mem_append.1 hb with hb | hb
        · simp only [if_neg (hn b hb)]
          exact .inl (h8 b hb)
        · simp at hb
          subst hb
          simp only [if_pos]
          exact .inr ⟨Nat.le_refl _, by
            have := hw.ltb (b := ⟨hand i g, t, false, 1⟩) (by simp)
            simpa using this⟩
      · rcases hk with hk | hk
        · exact Nat.lt_of_lt_of_le (h9 k hk) hfr.size
        · exact hk.2
  | some b =>
    obtain ⟨h1, ht2, hd⟩ := lv_some hl
    have hb := h4.bd b h1
    by_cases hn : b.n = 4294967295
    · refine (wof_top h2 ht hl ((wup_top h2 h1 hn).mono fun e w' h => ⟨h.1, (h.2 : w = w')⟩)).mono ?_
      rintro e w' ⟨rfl, rfl⟩
      exact ⟨Fr.refl _ _, _, _, _, rfl, .top b hl hn, hcopy.wider⟩
    · refine (wof_up h2 ht hl (wup_ok h2 h4.nd h1 (by omega))).mono ?_
      rintro e w' ⟨rfl, hw, hfr⟩
      have := hfr.size
      refine ⟨hfr.mono (fun k e _ => e ▸ h8 b h1), _, _, _, rfl, .up b hl hn, RpW.wider ⟨p, pa, pm, Sa, AA, D, B, rfl, hw, h3, h4.cnts (by omega), ⟨h5, h6, h7, fun c hc => ?_⟩, fun k hk => Nat.lt_of_lt_of_le (h9 k hk) this⟩⟩
      obtain ⟨q, hq, e, _⟩ := setn_key hc
      rw [e]; exact h8 q hq
/-- Of a table that is none. -/
theorem wof_nil (w : World) (t : Int) : Calls Try.prog 17 #[.pointer none, .int .u64 t] w fun e w' => e = .returned (.tuple #[.int .u64 0, .int .i64 3]) ∧ w = w' := by
  go_enter Try.func17, Try.ntmps17
  go_wp2
  go_ret2
  exact ⟨rfl, rfl⟩
theorem wdie_nil (w : World) (t : Int) : Calls Try.prog 18 #[.pointer none, .int .u64 t] w fun e w' => e = .returned (.bool false) ∧ w = w' := by
  go_enter Try.func18, Try.ntmps18
  go_wp2
  go_ret
  exact ⟨rfl, rfl⟩
theorem wup_nil (w : World) (x : Int) : Calls Try.prog 21 #[.pointer none, .int .u64 x] w fun e w' => e = .returned (.tuple #[.int .u32 0, .int .i64 2]) ∧ w = w' := by
  go_enter Try.func21, Try.ntmps21
  go_wp2_with (refine (wfind_nil _ _).mono ?_; rintro e w1 ⟨rfl, rfl⟩)
  go_ret2
  exact ⟨rfl, rfl⟩
theorem wdown_nil (w : World) (x : Int) : Calls Try.prog 19 #[.pointer none, .int .u64 x] w fun e w' => e = .returned (.tuple #[.int .u32 0, .int .i64 2]) ∧ w = w' := by
  go_enter Try.func19, Try.ntmps19
  go_wp2_with (refine (wfind_nil _ _).mono ?_; rintro e w1 ⟨rfl, rfl⟩)
  go_ret2
  exact ⟨rfl, rfl⟩
theorem wlock_nil (w : World) (x : Int) : Calls Try.prog 20 #[.pointer none, .int .u64 x] w fun e w' => e = .returned (.tuple #[.int .u64 0, .int .i64 2]) ∧ w = w' := by
  go_enter Try.func20, Try.ntmps20
  go_wp2_with (refine (wfind_nil _ _).mono ?_; rintro e w1 ⟨rfl, rfl⟩)
  go_ret2
  exact ⟨rfl, rfl⟩
end Go.Proofs.Ytmampaglemleoab
