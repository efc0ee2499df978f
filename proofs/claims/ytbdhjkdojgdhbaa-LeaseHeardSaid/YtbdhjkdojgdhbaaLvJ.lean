/-
  The program's leases keep what is asked of them.
-/
import Derived.Test.YtbdhjkdojgdhbaaLvI
import Derived.Test.YtbdhjkdojgdhbaaLvE
import Derived.Test.YtbdhjkdojgdhbaaLsN
namespace Go.Proofs.Ytbdhjkdojgdhbaa
open Go Go.ChangeShapes Go.WideShapes Go.ChangeAt Go.RowKit Go.Maps

def LeR (w : World) (S : Nat → Prop) (v : Value) (z : Lz) : Prop := ∃ p b n, v = .pointer (some ⟨p, 0, none⟩) ∧ LeI w p b n z ∧ S p ∧ S b ∧ ∀ k, S k → k < w.heap.size
theorem LeR.to {w w' : World} {S fp : Nat → Prop} {p b n : Nat} {z : Lz} (hi : LeI w' p b n z) (hf : Fr fp w w') (hfp : ∀ k, fp k → S k) (hp : S p) (hb : S b) (hS : ∀ k, S k → k < w.heap.size) : LeR w' (exS S w w') (.pointer (some ⟨p, 0, none⟩)) z ∧ Fr S w w' :=
  ⟨⟨p, b, n, rfl, hi, .inl hp, .inl hb, fun k hk => by
    rcases hk with e | e
    · exact Nat.lt_of_lt_of_le (hS k e) hf.size
    · exact e.2⟩, hf.mono (fun k e _ => hfp k e)⟩
theorem noBelow {w w' : World} (h : Fr (fun _ => False) w w') : Below w.heap.size w w' := h.below (Nat.le_refl _) (fun _ e => e.elim)
theorem leC : LsC LeR where
  fr := fun ⟨p, b, n, h1, h2, h3, h4, h5⟩ hf hd => ⟨p, b, n, h1, h2.fr hf (hd p h3) (hd b h4), h3, h4, fun k hk => Nat.lt_of_lt_of_le (h5 k hk) hf.size⟩
  lt := fun ⟨_, _, _, _, _, _, _, h5⟩ => h5
  ptr := fun ⟨p, _, _, h1, _⟩ => ⟨p, h1⟩
  new := fun w a b => (New_le w a b).mono fun e w' ⟨h1, h2⟩ => ⟨h1, by
    by_cases hc : 1 ≤ a ∧ a ≤ 1000 ∧ 1 ≤ b ∧ b ≤ 1000
    · rw [if_pos hc] at h2 ⊢
      obtain ⟨h3, h4⟩ := h2
      exact ⟨_, fun k => k = w.heap.size ∨ k = w.heap.size + 1, h3, fun k hk => by omega, _, _, _, rfl, h4, .inr rfl, .inl rfl, fun k hk => by
        rcases hk with e | e
        · rw [e]; exact h4.ltb
        · rw [e]; exact h4.ltp⟩
    · rw [if_neg hc] at h2 ⊢
      exact h2.2⟩
  join := fun ⟨p, b, n, h1, h2, h3, h4, h5⟩ hz hN k hk => by
    subst h1
    refine (Join_le h2.fit (hz.time.2) ⟨hz.now0, by have := hz.nowN; omega⟩ (by have := hz.len; omega) hk).mono ?_
    rintro e w' ⟨e1, e2, e3⟩
    exact ⟨e1, LeR.to e2 e3 (fun k e => by rw [e]; exact h4) h3 h4 h5⟩
  ping := fun ⟨p, b, n, h1, h2, h3, h4, h5⟩ hz hN k hk => by
    subst h1
    refine (Ping_le h2.fit hz.rise (hz.time.2) ⟨hz.now0, by have := hz.nowN; omega⟩ (by have := hz.len; omega) hk).mono ?_
    rintro e w' ⟨e1, e2, e3⟩
    exact ⟨e1, LeR.to e2 e3 (fun k e => by rw [e]; exact h4) h3 h4 h5⟩
  leave := fun ⟨p, b, n, h1, h2, h3, h4, h5⟩ hz hN k hk => by
    subst h1
    refine (Leave_le h2 (hz.time.2) hk).mono ?_
    rintro e w' ⟨e1, e2, e3⟩
    exact ⟨e1, LeR.to e2 e3 (fun k e => by rw [e]; exact h4) h3 h4 h5⟩
  tick := fun ⟨p, b, n, h1, h2, h3, h4, h5⟩ hz hN => by
    subst h1
    refine (Tick_le h2 hz.rise (hz.time.2) ⟨hz.now0, by have := hz.nowN; omega⟩ (by have := hz.len; omega) hz.heard).mono ?_
    rintro e w' ⟨u, rfl, e1, e2, ⟨n', e3⟩, e4⟩
    refine ⟨⟨u, rfl, e1, fun k hk => .inr (e2 k hk)⟩, LeR.to e3 e4 (fun k e => ?_) h3 h4 h5⟩
    rcases e with e | e
    · rw [e]; exact h3
    · rw [e]; exact h4
  left := fun ⟨p, b, n, h1, h2, h3, h4, h5⟩ hz hN k hk => by
    subst h1
    refine (Left_le h2 (hz.time.2) (by have := hz.nowN; omega) hz.heard hk).mono ?_
    rintro e w' ⟨e1, e2⟩
    exact ⟨e1, noBelow e2⟩
  all := fun ⟨p, b, n, h1, h2, h3, h4, h5⟩ hz hN => ⟨_, h1, fun w1 _ => All_any w1 _, fun w2 bx m hb _ hbx _ => all_tells m bx hbx (h2.no (Fr.of_below hb)) hz.rise hz.time.2 (by have := hz.len; omega)⟩
  now := fun ⟨p, b, n, h1, h2, h3, h4, h5⟩ => by
    subst h1
    refine (Now_any h2).mono ?_
    rintro e w' ⟨e1, rfl⟩
    exact ⟨e1, Below.refl _ _⟩
theorem Join_nil (w : World) (k : Int) : Calls Try.prog 17 #[.pointer none, .int .u64 k] w fun e w' => e = .returned (.bool false) ∧ w = w' := by
  have HM := hid made_nil
  go_enter Try.func17, Try.ntmps17
  go_wp2_with (first
    | (go_at_call 29; refine (HM.out _).mono ?_; rintro e w' ⟨rfl, rfl⟩)
    | fail)
  go_ret
  exact ⟨rfl, rfl⟩
theorem Ping_nil (w : World) (k : Int) : Calls Try.prog 19 #[.pointer none, .int .u64 k] w fun e w' => e = .returned (.int .i64 12) ∧ w = w' := by
  have HM := hid has_nil
  go_enter Try.func19, Try.ntmps19
  go_wp2_with (first
    | (go_at_call 26; refine (HM.out _ _).mono ?_; rintro e w' ⟨rfl, rfl⟩)
    | fail)
  go_ret
  exact ⟨rfl, rfl⟩
theorem Leave_nil (w : World) (k : Int) : Calls Try.prog 20 #[.pointer none, .int .u64 k] w fun e w' => e = .returned (.bool false) ∧ w = w' := by
  have HM := hid has_nil
  go_enter Try.func20, Try.ntmps20
  go_wp2_with (first
    | (go_at_call 26; refine (HM.out _ _).mono ?_; rintro e w' ⟨rfl, rfl⟩)
    | fail)
  go_ret
  exact ⟨rfl, rfl⟩
theorem Left_nil (w : World) (k : Int) : Calls Try.prog 12 #[.pointer none, .int .u64 k] w fun e w' => e = .returned (.tuple #[iv 0, .int .i64 12]) ∧ w = w' := by
  have HM := hid has_nil
  go_enter Try.func12, Try.ntmps12
  go_wp2_with (first
    | (go_at_call 26; refine (HM.out _ _).mono ?_; rintro e w' ⟨rfl, rfl⟩)
    | fail)
  go_ret2
  exact ⟨rfl, rfl⟩
theorem Tick_nil (w : World) : Calls Try.prog 18 #[.pointer none] w fun e w' => e = .returned (.slice none 0 0) ∧ w = w' := by
  have HM := hid made_nil
  go_enter Try.func18, Try.ntmps18
  go_wp2_with (first
    | (go_at_call 29; refine (HM.out _).mono ?_; rintro e w' ⟨rfl, rfl⟩)
    | fail)
  go_ret
  exact ⟨rfl, rfl⟩
theorem leN : LsN where
  join := fun w k _ => (Join_nil w k).mono fun e w' ⟨h1, h2⟩ => ⟨h1, by subst h2; exact Below.refl _ _⟩
  ping := fun w k _ => (Ping_nil w k).mono fun e w' ⟨h1, h2⟩ => ⟨h1, by subst h2; exact Below.refl _ _⟩
  leave := fun w k _ => (Leave_nil w k).mono fun e w' ⟨h1, h2⟩ => ⟨h1, by subst h2; exact Below.refl _ _⟩
  left := fun w k _ => (Left_nil w k).mono fun e w' ⟨h1, h2⟩ => ⟨h1, by subst h2; exact Below.refl _ _⟩
  tick := fun w => (Tick_nil w).mono fun e w' ⟨h1, h2⟩ => ⟨⟨_, _, h1⟩, by subst h2; exact Below.refl _ _⟩
  now := fun w => (Now_nil w).mono fun e w' ⟨h1, h2⟩ => ⟨h1, by subst h2; exact Below.refl _ _⟩
  all := fun w => ⟨fun w1 _ => All_any w1 none, fun w2 b n _ _ hbx _ => all_nil n b hbx⟩
end Go.Proofs.Ytbdhjkdojgdhbaa
