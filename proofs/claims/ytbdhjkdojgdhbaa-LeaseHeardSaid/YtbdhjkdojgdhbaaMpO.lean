/-
  A map of numbers to numbers, told by a function from keys. It speaks of any program.
-/
import Derived.Maps.Ext
import Derived.Maps.OwnOps
import Derived.Maps.OwnSet
import Derived.Test.YtbdhjkdojgdhbaaFr
namespace Go.Proofs.Ytbdhjkdojgdhbaa
open Go Go.ChangeShapes Go.WideShapes Go.ChangeAt Go.RowKit Go.Maps

/-- What is at each key; how many there are. -/
structure MapOf (k v : IntKind) (D : DataW Unit) (f : Int → Option Int) (c : Nat) : Prop where
  tidy : Tidy D
  has : ∀ t, Maps.has D (.int k t) = (f t).isSome
  at' : ∀ t, D.atKey (.int k t) (.lit (.int v 0)) = .lit (.int v ((f t).getD 0))
  sz : Maps.size D = c
section
variable {k v : IntKind} {D : DataW Unit} {f : Int → Option Int} {c : Nat}
theorem MapOf.nil (k v : IntKind) : MapOf k v (.map []) (fun _ => none) 0 := ⟨tidy_empty, fun _ => rfl, fun _ => rfl, rfl⟩
theorem lit_ne {k : IntKind} {a b : Int} (h : a ≠ b) : Lit.int k a ≠ Lit.int k b := fun e => by cases e; exact h rfl
theorem MapOf.put (h : MapOf k v D f c) (t x : Int) : MapOf k v (D.put (.int k t) (.lit (.int v x))) (fun s => if s = t then some x else f s) (if (f t).isSome then c else c + 1) := by
  have hk : WideAt.IsKeyLit (Lit.int k t) := by trivial
  refine ⟨h.tidy.put hk _, fun s => ?_, fun s => ?_, ?_⟩
  · by_cases e : s = t
    · subst e
      rw [has_put_same h.tidy.isMap hk]; simp
    · rw [has_put_other (lit_ne e), h.has, if_neg e]
  · by_cases e : s = t
    · subst e
      rw [atKey_put_same h.tidy.isMap hk]; simp
    · rw [atKey_put_other (lit_ne e), h.at', if_neg e]
  · rw [size_put h.tidy, h.has, h.sz]
theorem MapOf.del (h : MapOf k v D f c) (t : Int) : MapOf k v (D.del (.int k t)) (fun s => if s = t then none else f s) (if (f t).isSome then c - 1 else c) := by
  refine ⟨h.tidy.del _, fun s => ?_, fun s => ?_, ?_⟩
  · by_cases e : s = t
    · subst e
      rw [has_del_same]; simp
    · rw [has_del_other (lit_ne e), h.has, if_neg e]
  · by_cases e : s = t
    · subst e
      rw [atKey_del_same]; simp
    · rw [atKey_del_other (lit_ne e), h.at', if_neg e]
  · have := size_del (k := .int k t) h.tidy
    rw [h.has, h.sz] at this
    split at this <;> simp_all
    omega
theorem MapOf.congr (h : MapOf k v D f c) {g : Int → Option Int} {d : Nat} (hf : ∀ t, f t = g t) (hc : c = d) : MapOf k v D g d := by
  have : f = g := funext hf
  rw [← this, ← hc]; exact h
end
section
variable {P : Program} {t k e : TypeId} {kk vk : IntKind} {w : World} {b n : Nat} {D : DataW Unit} {f : Int → Option Int} {c : Nat}
theorem wf_zero (q : IntKind) : (Lit.int q 0).wf = true := by cases q <;> decide
/-- m[x]. -/
theorem MapOf.look (mo : MapOf kk vk D f c) (ht : P.underlying t = some (.map k e)) (hk : P.underlying k = some (.int kk)) (he : P.underlying e = some (.int vk)) (hz : (zeroValue e).run P w = .ok (.int vk 0) w) (h : w.ownsMap P k (plainElem (H := Unit) P e) b n D)
    {x : Int} (hx : (Lit.int kk x).wf = true) : (Instr.lookup t (.map (some b)) (.int kk x) false).run P w = .ok (.int vk ((f x).getD 0)) w := by
  obtain ⟨y, hrun, hat, _⟩ := h.lookup_int (int_keyed hk) ht he hz (keyOf_int_mk hk hx)
  rw [mo.at' x] at hat
  simp only [DataW.lit.injEq, Lit.int.injEq, true_and] at hat
  rw [hrun, hat]
/-- y, ok := m[x]. -/
theorem MapOf.look_ok (mo : MapOf kk vk D f c) (ht : P.underlying t = some (.map k e)) (hk : P.underlying k = some (.int kk)) (he : P.underlying e = some (.int vk)) (hz : (zeroValue e).run P w = .ok (.int vk 0) w) (h : w.ownsMap P k (plainElem (H := Unit) P e) b n D)
    {x : Int} (hx : (Lit.int kk x).wf = true) : (Instr.lookup t (.map (some b)) (.int kk x) true).run P w = .ok (.tuple #[.int vk ((f x).getD 0), .bool (f x).isSome]) w := by
  obtain ⟨v, ps, hrun, hv⟩ := h.look_ok (int_keyed hk) ht hz (plainElem_int he (wf_zero vk)) (keyOf_int_mk hk hx)
  obtain ⟨y, rfl, hc, _⟩ := plainElem_int_inv he hv
  rw [mo.at' x] at hc
  simp only [Prod.mk.injEq, DataW.lit.injEq, Lit.int.injEq, true_and] at hc
  rw [hrun, mo.has, ← hc.1]
end
/-- A map's count of entries is as great as it is. -/
theorem ownsMap_fit {H : Type} {P : Program} {k : TypeId} {R : Value → Option (DataW H × List MemPlace)} {w : World} {b n : Nat} {D : DataW H} (h : w.ownsMap P k R b n D) : w.ownsMap P k R b (Maps.size D) D := by
  obtain ⟨es, clock, hb, F, hs, rfl⟩ := h
  exact ⟨es, clock, hb, F, by simp [Maps.size, length_sorted], rfl⟩
theorem fr_mapTurned {w w' : World} {b : Nat} (h : w.mapTurned w' b) : Fr (fun j => j = b) w w' :=
  (Fr.refl _ w).grown h.grown (fun _ hk _ => (Option.some.inj hk).symm)
theorem Fr.ownsMap {H : Type} {P : Program} {k : TypeId} {R : Value → Option (DataW H × List MemPlace)} {w w' : World} {b n : Nat} {D : DataW H} {fp : Nat → Prop} (hf : Fr fp w w') (h : w.ownsMap P k R b n D) (hb : ¬ fp b) : w'.ownsMap P k R b n D := by
  have hlt := h.lt
  obtain ⟨es, clock, hbb, rest⟩ := h
  exact ⟨es, clock, (hf.block b hlt hb).trans hbb, rest⟩
end Go.Proofs.Ytbdhjkdojgdhbaa
