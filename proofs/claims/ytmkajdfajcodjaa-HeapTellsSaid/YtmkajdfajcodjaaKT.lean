/-
  What a range's body keeps: blocks of a set, and of some types; append within a fence, and where the row lies behind it. It speaks of any program.
-/
import Derived.Test.YtmkajdfajcodjaaRng
import Derived.Test.YtmkajdfajcodjaaMem
import Derived.Sort.CutIn
import Derived.Sort.QuietIn
namespace Go.Proofs.Ytmkajdfajcodjaa
open Go Go.ChangeShapes Go.WideShapes Go.ChangeAt Go.RowKit Go.Shelf
attribute [local go_sem] Oper.semAt_some

/-- append, and where the row lies behind it. -/
theorem wpListIn_append_at {F : Fence} {n : Nat} {P : Program} (w : World) {ops : Array Oper} {rest : List Oper} {o : Oper} {a : Act} {Q : Exit → Act → World → Prop}
    (hg : o.guard = none) (s x : Operand) (t : TypeId) (hop : o.op = Op.call { callee := Callee.builtin Builtin.append, args := #[s, x], argTypes := #[t, t] })
    (base : Nat) (e : TypeId) (i : TypeInfo) (z : Value) (size bytes : Nat) (h1 : P.underlying t = some (.slice e)) (h2 : P.info? e = some i) (h3 : i.zero = some z) (h4 : i.size = size) (h5 : i.bytes = bytes) (h6 : z.cells.size = size) (h7 : 0 < size)
    (v : Value) (k : Nat) (xs : List Value) (hs : a.eval s = v) (hown : w.ownsRow base e size v k xs) (ad : Addr) (m c : Nat) (news : List Value) (hx : a.eval x = .slice (some ad) m c) (hn : news.length = m * size)
    (hc : ∀ j u, news[j]? = some u → w.cell? (ad.add j) = some u) (h1c : ∀ u ∈ news, u.oneCell' = true) (b1 : k + m ≤ maxLen) (b2 : (k + m) * bytes ≤ 140737488355328) (b3 : base ≤ w.heap.size)
    (hK : ∀ v' w', w'.ownsRow base e size v' (k + m) (xs ++ news) → w.grownBy w' v.ownBlock → (v'.ownBlock = v.ownBlock ∨ v'.ownBlock = some w.heap.size) → wpListIn F n P ops Q rest (a.put o.dst v') w') :
    wpListIn F n P ops Q (o :: rest) a w := by
  refine wpListIn_plain hg fun K hK' => ?_
  obtain ⟨v', w', hrun, r1, r2, _, r4⟩ := run_append_own_at (P := P) (w := w) base t o.type e i z size bytes h1 h2 h3 h4 h5 h6 h7 v k xs hown ad m c news hn hc h1c b1 b2 b3
  unfold Oper.wpIn
  refine ⟨?_, ?_⟩
  · simp [Oper.about, hop, resolve, Target.leads, Sem.run_pure]
  · rw [Oper.semAt_plain F _ _ (by rw [hop]; intro c hc'; cases hc')]
    simp [execOp, hop, resolve, invoke, builtin, hs, hx, hrun, Result.andThen]
    exact hK' _ _ (hK v' w' r1 r2 r4)
def encU (x : Int) : Array Value := #[.int .u64 x]
/-- What lies in these blocks stays, and what is of this type. -/
def KT (S : Nat → Prop) (T : TypeId → Prop) (W W' : World) : Prop := ∀ (k : Nat) (cs : Array Value) (t : TypeId) (fr : Nat × Nat), (S k ∨ T t) → W.heap[k]? = some (.cells cs t fr) → W'.heap[k]? = some (.cells cs t fr)
theorem KT.refl (S : Nat → Prop) (T : TypeId → Prop) (W : World) : KT S T W W := fun _ _ _ _ _ h => h
theorem KT.t {S : Nat → Prop} {T : TypeId → Prop} {A B C : World} (h : KT S T A B) (k : KT S T B C) : KT S T A C := fun j cs t fr hS hj => k j cs t fr hS (h j cs t fr hS hj)
theorem KT.b (S : Nat → Prop) (T : TypeId → Prop) (W : World) (l : Nat) (o o' : Obj) (h : W.heap[l]? = some o) (hc : o.isCells = false) : KT S T W (W.putObj l o') := fun k cs t fr _ hk => by
  have hne : k ≠ l := fun e => by subst e; rw [hk] at h; cases h; cases hc
  rw [World.putObj_heap_other hne]; exact hk
theorem KT.below {S : Nat → Prop} {T : TypeId → Prop} {W W' : World} (h : Below W.heap.size W W') : KT S T W W' := fun k cs t fr _ hk => by
  rw [h.block k (Array.getElem?_eq_some_iff.1 hk).1]; exact hk
theorem box_pushT {W w1 : World} {n0 B : Nat} {t e : TypeId} {T : TypeId → Prop} {size : Nat} {v v' : Value} {k : Nat} {xs : List Value} {tmp : Obj} {S : Nat → Prop}
    (hv : Boxed W B t v) (hte : ¬ T t) (hee : ¬ T e) (hrow : W.ownsRow n0 e size v k xs) (hgrow : (W.alloc tmp).grownBy w1 v.ownBlock) (hks : KS S W (w1.setCell ⟨B, 0, none⟩ v')) : KT S T W (w1.setCell ⟨B, 0, none⟩ v') := fun j cs t' fr h hj => by
  rcases h with h | h
  · exact hks j cs t' fr h hj
  · have hjl := (Array.getElem?_eq_some_iff.1 hj).1
    have h1 : j ≠ B := fun e2 => by
      subst e2
      rw [show W.heap[j]? = _ from hv] at hj
      cases hj
      exact hte h
    have h2 : some j ≠ v.ownBlock := fun e2 => by
      rcases hrow.2 with ⟨rfl, _⟩ | ⟨g, cap, cur, rfl, _, hg, _⟩
      · cases e2
      · simp [Value.ownBlock] at e2
        subst e2
        rw [hg] at hj
        cases hj
        exact hee h
    rw [Below.heap_setCell _ _ _ _ h1, hgrow.block j (by simp; omega) h2, Below.heap_alloc _ _ _ hjl]
    exact hj
theorem grown_of_below {W W' : World} (hb : Below W.heap.size W W') : W.grownBy W' none := ⟨hb.os, hb.tape, hb.output, hb.size, fun k hk _ => hb.block k hk⟩
/-- The other row, over a push. -/
theorem other_row {W w1 : World} {n₀ B : Nat} {t e : TypeId} {size : Nat} {v v' u : Value} {k2 : Nat} {us : List Value} {tmp : Obj} (hv : Boxed W B t v) (hte : t ≠ e) (hgrow : (W.alloc tmp).grownBy w1 v.ownBlock)
    (hat : v'.ownBlock = v.ownBlock ∨ v'.ownBlock = some (W.alloc tmp).heap.size) (hu : W.ownsRow n₀ e size u k2 us) (hne : ∀ g, v.ownBlock = some g → u.ownBlock ≠ some g) :
    (w1.setCell ⟨B, 0, none⟩ v').ownsRow n₀ e size u k2 us ∧ (∀ g, v'.ownBlock = some g → u.ownBlock ≠ some g) := by
  have hn : u.ownBlock = none ∨ u.ownBlock ≠ v.ownBlock := by
    cases hub : u.ownBlock with
    | none => exact .inl rfl
    | some g => exact .inr (fun e2 => hne g e2.symm hub)
  have h1 := (hu.alloc tmp).kept hgrow hn
  refine ⟨h1.kept (grownBy_setCell' w1 B v') ?_, fun g hg hug => ?_⟩
  · rcases h1.2 with ⟨rfl, _⟩ | ⟨g, cap, cur, rfl, _, hgb, _⟩
    · exact .inl rfl
    · refine .inr (fun e2 => ?_)
      have e3 : g = B := by simpa [Value.ownBlock] using e2
      subst e3
      have hx := (hu.alloc tmp)
      rcases hx.2 with ⟨q, _⟩ | ⟨g', cap', cur', q, _, hgb', _⟩
      · cases q
      · cases q
        have h5 := hv.alloc tmp
        unfold Boxed at h5
        rw [h5] at hgb'
        cases hgb'
        exact hte rfl
  · rcases hat with h | h
    · exact hne g (by rw [← h]; exact hg) hug
    · rw [h] at hg
      cases hg
      have := (hu.lt _ hug).2
      simp at this
      omega
end Go.Proofs.Ytmkajdfajcodjaa
