/-
  Layer 16: what is asked of the program's leases (contracts, under a way Rp to lay them); leases beside their plain twin.
-/
import Derived.Test.YtbdhjkdojgdhbaaLsL
namespace Go.Proofs.Ytbdhjkdojgdhbaa
open Go Go.ChangeShapes Go.WideShapes Go.ChangeAt Go.RowKit

/-- A call of the program that answers E and leaves z2. -/
def Does (Rp : World → (Nat → Prop) → Value → Lz → Prop) (w : World) (S : Nat → Prop) (v : Value) (f : FuncId) (args : Array Value) (E : Ending → World → Prop) (z2 : Lz) : Prop :=
  Calls Try.prog f args w fun e w' => E e w' ∧ Rp w' (exS S w w') v z2 ∧ Fr S w w'
structure LsC (Rp : World → (Nat → Prop) → Value → Lz → Prop) : Prop where
  fr : ∀ {w w' : World} {S fp : Nat → Prop} {v : Value} {z : Lz}, Rp w S v z → Fr fp w w' → (∀ k, S k → ¬ fp k) → Rp w' S v z
  lt : ∀ {w : World} {S : Nat → Prop} {v : Value} {z : Lz}, Rp w S v z → ∀ k, S k → k < w.heap.size
  ptr : ∀ {w : World} {S : Nat → Prop} {v : Value} {z : Lz}, Rp w S v z → ∃ p, v = .pointer (some ⟨p, 0, none⟩)
  new : ∀ (w : World) (a b : Int), Calls Try.prog 7 #[iv a, iv b] w fun e w' => Below w.heap.size w w' ∧
    (if 1 ≤ a ∧ a ≤ 1000 ∧ 1 ≤ b ∧ b ≤ 1000 then ∃ v S, e = .returned (.tuple #[v, .int .i64 0]) ∧ (∀ k, S k → w.heap.size ≤ k) ∧ Rp w' S v ⟨a * b, 0, []⟩ else e = .returned (.tuple #[.pointer none, .int .i64 1]))
  join : ∀ {w : World} {S : Nat → Prop} {v : Value} {z : Lz} {N : Nat}, Rp w S v z → ZOk N z → N ≤ 100000 → ∀ k, Hn k → Does Rp w S v 17 #[v, .int .u64 k] (fun e _ => e = .returned (.bool (!hasK k z.l))) (z.join k)
  ping : ∀ {w : World} {S : Nat → Prop} {v : Value} {z : Lz} {N : Nat}, Rp w S v z → ZOk N z → N ≤ 100000 → ∀ k, Hn k → Does Rp w S v 19 #[v, .int .u64 k] (fun e _ => e = .returned (.int .i64 (if hasK k z.l then 0 else 12))) (z.ping k)
  leave : ∀ {w : World} {S : Nat → Prop} {v : Value} {z : Lz} {N : Nat}, Rp w S v z → ZOk N z → N ≤ 100000 → ∀ k, Hn k → Does Rp w S v 20 #[v, .int .u64 k] (fun e _ => e = .returned (.bool (hasK k z.l))) (z.leave k)
  tick : ∀ {w : World} {S : Nat → Prop} {v : Value} {z : Lz} {N : Nat}, Rp w S v z → ZOk N z → N ≤ 100000 → Does Rp w S v 18 #[v] (fun e w' => ∃ u, e = .returned u ∧ Told TU u64v w' u (overK z) ∧ ∀ b, u.ownBlock = some b → exS S w w' b) z.tick
  left : ∀ {w : World} {S : Nat → Prop} {v : Value} {z : Lz} {N : Nat}, Rp w S v z → ZOk N z → N ≤ 100000 → ∀ k, Hn k → Calls Try.prog 12 #[v, .int .u64 k] w fun e w' => e = .returned (.tuple #[iv (if hasK k z.l then z.time - z.now + atK k z.l else 0), .int .i64 (if hasK k z.l then 0 else 12)]) ∧ Below w.heap.size w w'
  all : ∀ {w : World} {S : Nat → Prop} {v : Value} {z : Lz} {N : Nat}, Rp w S v z → ZOk N z → N ≤ 100000 → ∃ a, v = .pointer a ∧ AllT w a z.l
  now : ∀ {w : World} {S : Nat → Prop} {v : Value} {z : Lz}, Rp w S v z → Calls Try.prog 11 #[v] w fun e w' => e = .returned (iv z.now) ∧ Below w.heap.size w w'
/-- Leases and a twin, apart from each other and from the blocks X, above a bound. -/
structure PrL (Rp : World → (Nat → Prop) → Value → Lz → Prop) (B : Nat) (v : Value) (p : Nat) (z1 z2 : Lz) (X : Nat → Prop) (W : World) : Prop where
  ex : ∃ S1 S2 lv, Rp W S1 v z1 ∧ RlW W S2 p z2 lv ∧ (∀ k, S1 k → B ≤ k) ∧ (∀ k, S2 k → B ≤ k) ∧ (∀ k, S1 k → ¬ S2 k) ∧ ∀ k, X k → ¬ S1 k ∧ ¬ S2 k ∧ k < W.heap.size
section
variable {Rp : World → (Nat → Prop) → Value → Lz → Prop} {B p : Nat} {v : Value} {z1 z2 : Lz} {X : Nat → Prop} {W W' : World}
theorem PrL.fr (HC : LsC Rp) {fp : Nat → Prop} (h : PrL Rp B v p z1 z2 X W) (hf : Fr fp W W') (hd : ∀ k, B ≤ k → ¬ fp k) : PrL Rp B v p z1 z2 X W' := by
  obtain ⟨S1, S2, lv, h1, h2, h3, h4, h5, h6⟩ := h.ex
  exact ⟨S1, S2, lv, HC.fr h1 hf (fun k hk => hd k (h3 k hk)), h2.fr hf (fun k hk => hd k (h4 k hk)), h3, h4, h5, fun k hk => ⟨(h6 k hk).1, (h6 k hk).2.1, Nat.lt_of_lt_of_le (h6 k hk).2.2 hf.size⟩⟩
theorem PrL.below (HC : LsC Rp) (h : PrL Rp B v p z1 z2 X W) (hb : Below W.heap.size W W') : PrL Rp B v p z1 z2 X W' := h.fr HC (Fr.of_below (fp := fun _ => False) hb) (fun _ _ e => e)
theorem PrL.fresh (HC : LsC Rp) {X2 : Nat → Prop} (h : PrL Rp B v p z1 z2 X W) (hb : Below W.heap.size W W') (hX : ∀ k, X2 k → X k ∨ (W.heap.size ≤ k ∧ k < W'.heap.size)) : PrL Rp B v p z1 z2 X2 W' := by
  obtain ⟨S1, S2, lv, h1, h2, h3, h4, h5, h6⟩ := h.ex
  refine ⟨S1, S2, lv, HC.fr h1 (Fr.of_below (fp := fun _ => False) hb) (fun _ _ e => e), h2.no (Fr.of_below hb), h3, h4, h5, fun k hk => ?_⟩
  rcases hX k hk with e | e
  · exact ⟨(h6 k e).1, (h6 k e).2.1, Nat.lt_of_lt_of_le (h6 k e).2.2 hb.size⟩
  · exact ⟨fun e2 => by have := HC.lt h1 k e2; omega, fun e2 => by have := h2.sl k e2; omega, e.2⟩
/-- A call of the program's. -/
theorem PrL.one {f : FuncId} {args : Array Value} {E : Ending → World → Prop} {z3 : Lz} (h : PrL Rp B v p z1 z2 X W) (hB : B ≤ W.heap.size) (hc : ∀ S, Rp W S v z1 → Does Rp W S v f args E z3) :
    Calls Try.prog f args W fun e w' => E e w' ∧ PrL Rp B v p z3 z2 X w' ∧ Fr (fun k => B ≤ k ∧ ¬ X k) W w' := by
  obtain ⟨S1, S2, lv, h1, h2, h3, h4, h5, h6⟩ := h.ex
  refine (hc S1 h1).mono ?_
  rintro e w' ⟨hE, k3, k4⟩
  refine ⟨hE, ⟨exS S1 W w', S2, lv, k3, h2.fr k4 (fun k a b => h5 k b a), fun k hk => ?_, h4, fun k hk e => ?_, fun k hk => ⟨fun e => ?_, (h6 k hk).2.1, Nat.lt_of_lt_of_le (h6 k hk).2.2 k4.size⟩⟩, k4.mono (fun k hk _ => ⟨h3 k hk, fun e => (h6 k e).1 hk⟩)⟩
  · rcases hk with e | e
    · exact h3 k e
    · exact Nat.le_trans hB e.1
  · rcases hk with e2 | e2
    · exact h5 k e2 e
    · have := h2.sl k e; omega
  · rcases e with e2 | e2
    · exact (h6 k hk).1 e2
    · have := (h6 k hk).2.2; omega
/-- A call of the twin's. -/
theorem PrL.two (HC : LsC Rp) {f : FuncId} {args : Array Value} {E : Ending → World → Prop} {z3 : Lz} (h : PrL Rp B v p z1 z2 X W) (hB : B ≤ W.heap.size) (hc : ∀ S lv, RlW W S p z2 lv → Calls Try.prog f args W fun e w' => E e w' ∧ (∃ lv2, RlW w' (exS S W w') p z3 lv2) ∧ Fr S W w') :
    Calls Try.prog f args W fun e w' => E e w' ∧ PrL Rp B v p z1 z3 X w' ∧ Fr (fun k => B ≤ k ∧ ¬ X k) W w' := by
  obtain ⟨S1, S2, lv, h1, h2, h3, h4, h5, h6⟩ := h.ex
  refine (hc S2 lv h2).mono ?_
  rintro e w' ⟨hE, ⟨lv2, k3⟩, k4⟩
  refine ⟨hE, ⟨S1, exS S2 W w', lv2, HC.fr h1 k4 (fun k a b => h5 k a b), k3, h3, fun k hk => ?_, fun k hk e => ?_, fun k hk => ⟨(h6 k hk).1, fun e => ?_, Nat.lt_of_lt_of_le (h6 k hk).2.2 k4.size⟩⟩, k4.mono (fun k hk _ => ⟨h4 k hk, fun e => (h6 k e).2.1 hk⟩)⟩
  · rcases hk with e | e
    · exact h4 k e
    · exact Nat.le_trans hB e.1
  · rcases e with e2 | e2
    · exact h5 k hk e2
    · have := HC.lt h1 k hk; omega
  · rcases e with e2 | e2
    · exact (h6 k hk).2.1 e2
    · have := (h6 k hk).2.2; omega
/-- A call that leaves both. -/
theorem PrL.tw (h : PrL Rp B v p z1 z2 X W) : ∃ S lv, RlW W S p z2 lv ∧ (∀ k, S k → B ≤ k ∧ ¬ X k) := by
  obtain ⟨S1, S2, lv, h1, h2, h3, h4, h5, h6⟩ := h.ex
  exact ⟨S2, lv, h2, fun k hk => ⟨h4 k hk, fun e => (h6 k e).2.1 hk⟩⟩
theorem PrL.pr (h : PrL Rp B v p z1 z2 X W) : ∃ S, Rp W S v z1 := by
  obtain ⟨S1, S2, lv, h1, h2, h3, h4, h5, h6⟩ := h.ex
  exact ⟨S1, h1⟩
end
end Go.Proofs.Ytbdhjkdojgdhbaa
