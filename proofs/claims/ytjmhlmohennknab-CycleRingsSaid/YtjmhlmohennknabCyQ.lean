/-
  A row of numbers from whose head one takes, at whose end one puts; its tail.
-/
import Derived.Test.YtjmhlmohennknabCyG
import Derived.Deep.AppendSrc
namespace Go.Proofs.Ytjmhlmohennknab
open Go Go.ChangeShapes Go.WideShapes Go.ChangeAt Go.RowKit

/-- A row that may begin behind its block's head. -/
def QI (w : World) (v : Value) (xs : List Nat) : Prop :=
  (v = .slice none 0 0 ∧ xs = []) ∨ ∃ g off cap cur, v = .slice (some ⟨g, off, none⟩) xs.length cap ∧ w.heap[g]? = some (.cells cur TI (0, 0)) ∧ xs.length ≤ cap ∧ cap ≤ maxLen ∧ off + cap ≤ cur.size ∧ ∀ (j : Nat) x, xs[j]? = some x → cur[off + j]? = some (nI x)
section
variable {w w' : World} {v : Value} {xs : List Nat} {fp : Nat → Prop}
theorem QI.fr (h : QI w v xs) (hf : Fr fp w w') (hv : ∀ k, v.ownBlock = some k → ¬ fp k) : QI w' v xs := by
  rcases h with h | ⟨g, off, cap, cur, rfl, h1, h2⟩
  · exact .inl h
  · exact .inr ⟨g, off, cap, cur, rfl, by rw [hf.block g (Array.getElem?_eq_some_iff.1 h1).1 (hv g rfl)]; exact h1, h2⟩
theorem QI.lt (h : QI w v xs) : ∀ k, v.ownBlock = some k → k < w.heap.size := fun k hk => by
  rcases h with ⟨rfl, _⟩ | ⟨g, off, cap, cur, rfl, h1, _⟩
  · simp [Value.ownBlock] at hk
  · simp [Value.ownBlock] at hk
    subst hk
    exact (Array.getElem?_eq_some_iff.1 h1).1
theorem QI.form (h : QI w v xs) : ∃ a c, v = .slice a xs.length c ∧ (xs ≠ [] → ∃ g off, a = some ⟨g, off, none⟩) := by
  rcases h with ⟨rfl, rfl⟩ | ⟨g, off, cap, cur, rfl, _⟩
  · exact ⟨none, 0, rfl, fun h => absurd rfl h⟩
  · exact ⟨_, cap, rfl, fun _ => ⟨g, off, rfl⟩⟩
theorem QI.set (h : QI w v xs) (p : Addr) (u : Value) (hv : v.ownBlock ≠ some p.block) : QI (w.setCell p u) v xs :=
  h.fr (fp := fun k => k = p.block) ((Fr.refl _ _).setCell _ _ (fun _ => rfl)) (fun k hk e => hv (by rw [hk, e]))
theorem run_append_qi (t ty : TypeId) (i : TypeInfo) (ht : Try.prog.underlying t = some (.slice TI)) (hi : Try.prog.info? TI = some i) (hz : i.zero = some (.int .i64 0)) (hsz : i.size = 1) (hby : i.bytes = 8)
    (h : QI w v xs) (hl : xs.length ≤ 1000000) (a : Addr) (c : Nat) (y : Nat) (hn : ∀ (j : Nat) u, [nI y][j]? = some u → w.cell? (a.add j) = some u) :
    ∃ a' c' w', (Builtin.append_ #[t, t] ty #[v, .slice (some a) 1 c]).run Try.prog w = .ok (.slice (some a') (xs.length + 1) c') w' ∧ QI w' (.slice (some a') (xs.length + 1) c') (xs ++ [y]) ∧ w.grownBy w' v.ownBlock ∧ (v.ownBlock = some a'.block ∨ a'.block = w.heap.size) := by
  have hml : (9223372036854775807 : Nat) = maxLen := rfl
  rcases h with ⟨rfl, rfl⟩ | ⟨g, off, cap, cur, rfl, h1, h2, h3, h4, h5⟩
  · have hr := run_append_nil (P := Try.prog) w t ty TI i _ ht hi hz a 1 c [nI y] (by simp [hsz]) hn (by omega) (by omega) (by rw [hby]; omega)
    refine ⟨_, _, _, hr, .inr ⟨_, 0, grownCap w 1 0 TI, _, rfl, heap_alloc_new w.drew _, grownCap_ge w 1 0 TI, grownCap_le_maxLen w 1 0 TI (by unfold maxLen; omega), ?_, ?_⟩, ⟨rfl, rfl, rfl, by simp, fun k hk _ => (by first | exact heap_alloc_old w.drew _ k hk | exact heap_alloc_old w.drew _ hk)⟩, .inr rfl⟩
    · have := grownCap_ge w 1 0 TI
      simp [Value.cells, size_zeroCells]
      omega
    · intro j x hj
      have : j = 0 := by
        have := (List.getElem?_eq_some_iff.1 hj).1
        simp at this
        exact this
      subst this
      simp at hj
      subst hj
      show (#[nI y] ++ Builtin.zeroCells (Value.int IntKind.i64 0).cells (grownCap w 1 0 TI - 1))[0]? = some (nI y)
      rw [Array.getElem?_append_left (by simp)]
      rfl
  · by_cases hroom : xs.length + 1 ≤ cap
    · have hlt : ∀ j, j < xs.length + 1 → off + j < cur.size := fun j hj => by omega
      have hc : ∀ j, j < [nI y].length → (w.cell? ⟨g, off + xs.length * i.size + j, none⟩).isSome = true := fun j hj => by
        simp at hj
        subst hj
        rw [hsz, Nat.mul_one, Nat.add_zero, cell_of_row w g _ _ _ _ h1]
        have := hlt xs.length (by omega)
        simp [this]
      have hf : ∀ j, j < [nI y].length → w.frozen? ⟨g, off + xs.length * i.size + j, none⟩ = false := fun j _ => frozen_of_row w g _ _ _ h1
      have hr := run_append_room_src (P := Try.prog) w t t ty TI i ht hi g off xs.length cap (.slice (some a) 1 c) 1 [nI y] (Src.ofSlice w ht a 1 c [nI y] (by simp [hsz]) hn (by simp [Value.oneCell'])) hroom hc hf
      rw [hsz, Nat.mul_one] at hr
      have hset : w.setCells g (off + xs.length) [nI y] = w.setCell ⟨g, off + xs.length, none⟩ (nI y) := rfl
      rw [hset] at hr
      refine ⟨_, _, _, hr, .inr ⟨g, off, cap, cur.setIfInBounds (off + xs.length) (nI y), by simp, heap_setCell_same _ _ _ _ _ _ h1, by simp; omega, h3, by simpa using h4, ?_⟩, ⟨rfl, rfl, rfl, by simp, fun k _ hk => Below.heap_setCell _ _ _ _ (fun e => hk (by rw [e]; rfl))⟩, .inl rfl⟩
      intro j x hj
      by_cases e : j < xs.length
      · rw [List.getElem?_append_left e] at hj
        rw [Array.getElem?_setIfInBounds_ne (by omega)]
        exact h5 j x hj
      · have hj2 := (List.getElem?_eq_some_iff.1 hj).1
        simp at hj2
        have : j = xs.length := by omega
        subst this
        simp at hj
        subst hj
        rw [Array.getElem?_setIfInBounds_self]
        have := hlt xs.length (by omega)
        simp [this]
    · have holds : ∀ (j : Nat) u, (xs.map nI)[j]? = some u → w.cell? ((⟨g, off, none⟩ : Addr).add j) = some u := fun j u hu => by
        rw [List.getElem?_map, Option.map_eq_some_iff] at hu
        obtain ⟨x, hx, rfl⟩ := hu
        rw [Addr.add_lit, cell_of_row w g _ _ _ _ h1]
        exact h5 j x hx
      have hr := run_append_grow (P := Try.prog) w t ty TI i _ ht hi hz ⟨g, off, none⟩ xs.length cap (xs.map nI) (by simp [hsz]) holds a 1 c [nI y] (by simp [hsz]) hn (by omega) (by omega) (growslice_fits (by omega) (by rw [hby]; omega))
      refine ⟨_, _, _, hr, .inr ⟨_, 0, grownCap w (xs.length + 1) cap TI, _, by rw [List.length_append]; rfl, heap_alloc_new w.drew _, by rw [List.length_append]; exact grownCap_ge w (xs.length + 1) cap TI, grownCap_le_maxLen w (xs.length + 1) cap TI (by unfold maxLen; omega), ?_, ?_⟩, ⟨rfl, rfl, rfl, by simp, fun k hk _ => (by first | exact heap_alloc_old w.drew _ k hk | exact heap_alloc_old w.drew _ hk)⟩, .inr rfl⟩
      · have := grownCap_ge w (xs.length + 1) cap TI
        simp [Value.cells, size_zeroCells]
        omega
      · intro j x hj
        have e : ((xs ++ [y]).map nI)[j]? = some (nI x) := by rw [List.getElem?_map, hj]; rfl
        rw [Nat.zero_add, ← Array.getElem?_toList]
        simp only [Array.toList_append]
        rw [List.getElem?_append_left (by
          have := (List.getElem?_eq_some_iff.1 hj).1
          simp at this ⊢
          omega)]
        simpa using e
theorem wpList_append_qi {ops : Array Oper} {rest : List Oper} {o : Oper} {a : Act} {Q : Exit → Act → World → Prop} (hgd : o.guard = none) (s x : Operand) (t : TypeId)
    (ho : o.op = .call { callee := .builtin .append, args := #[s, x], argTypes := #[t, t] }) (i : TypeInfo) (ht : Try.prog.underlying t = some (.slice TI)) (hi : Try.prog.info? TI = some i) (hz : i.zero = some (.int .i64 0)) (hsz : i.size = 1) (hby : i.bytes = 8)
    (v : Value) (xs : List Nat) (hs : a.eval s = v) (h : QI w v xs) (hl : xs.length ≤ 1000000) (ad : Addr) (c : Nat) (y : Nat) (hx : a.eval x = .slice (some ad) 1 c) (hn : ∀ (j : Nat) u, [nI y][j]? = some u → w.cell? (ad.add j) = some u)
    (hK : ∀ a' c' w', QI w' (.slice (some a') (xs.length + 1) c') (xs ++ [y]) → w.grownBy w' v.ownBlock → (v.ownBlock = some a'.block ∨ a'.block = w.heap.size) → wpList Try.prog ops Q rest (a.put o.dst (.slice (some a') (xs.length + 1) c')) w') :
    wpList Try.prog ops Q (o :: rest) a w := by
  refine wpList_plain hgd fun K hK2 => ?_
  obtain ⟨a', c', w', hr, h2, h3, h4⟩ := run_append_qi t o.type i ht hi hz hsz hby h hl ad c y hn
  unfold Oper.wp execOp
  simp only [ho, resolve, invoke, builtin, Sem.run_bind, Sem.run_pure, Result.andThen_ok, List.map_toArray, List.map_cons, List.map_nil, hs, hx, hr]
  exact hK2 _ _ (hK a' c' w' h2 h3 h4)
end
theorem exec_tail {o : Oper} {f : Operand → Value} {W : World} {p l : Operand} {b oo o2 n cap : Nat} (ho : o.op = .slice 26 p (some l) none none) (hp : f p = .slice (some ⟨b, oo, none⟩) n cap) (hl : f l = .int .i64 1) (h1 : 1 ≤ n) (h2 : cap = 1 ∧ o2 = oo ∨ ¬ cap = 1 ∧ o2 = oo + 1) (_h3 : n ≤ cap) :
    (execOp f o).run Try.prog W = .ok (.value (.slice (some ⟨b, o2, none⟩) (n - 1) (cap - 1))) W := by
  unfold execOp
  simp only [ho, hp]
  simp only [Option.map, hl]
  rcases h2 with ⟨h3, rfl⟩ | ⟨h3, rfl⟩
  · go_simp
    intro h4
    omega
  · go_simp
    intro h4
    omega
end Go.Proofs.Ytjmhlmohennknab
