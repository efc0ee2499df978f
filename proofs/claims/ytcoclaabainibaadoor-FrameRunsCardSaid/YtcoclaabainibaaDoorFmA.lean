/-
  Rows of numbers of 64 bits that are told or one's own; the copies that slices.Clone makes of them and of instructions.
-/
import Derived.Test.YtcoclaabainibaaDoorCdD
import Derived.Test.YtcoclaabainibaaDoorLibB
import Derived.Test.YtcoclaabainibaaDoorRng
import Derived.Test.YtcoclaabainibaaDoorGen
import Derived.Deep.Cut
namespace Go.Proofs.YtcoclaabainibaaDoor
open Go Go.ChangeShapes Go.WideShapes Go.ChangeAt Go.RowKit

abbrev TL : TypeId := 2
abbrev TIn : TypeId := 45
abbrev iv (x : Int) : Value := .int .i64 x
abbrev nI (k : Nat) : Value := .int .i64 (k : Int)
set_option maxRecDepth 100000 in
theorem infoL : (Tryd.prog.info? TL).map (fun i => (i.zero, i.size, i.bytes)) = some (some (.int .i64 0), 1, 8) := by kernel_rfl
set_option maxRecDepth 100000 in
theorem infoIn : (Tryd.prog.info? TIn).map (fun i => (i.zero, i.size, i.bytes)) = some (some (.agg #[.int .i64 0, .int .i64 0, .int .i64 0]), 3, 24) := by kernel_rfl
theorem info_split {e : TypeId} {z : Option Value} {k b : Nat} (h : (Tryd.prog.info? e).map (fun i => (i.zero, i.size, i.bytes)) = some (z, k, b)) : ∃ i, Tryd.prog.info? e = some i ∧ i.zero = z ∧ i.size = k ∧ i.bytes = b := by
  cases hi : Tryd.prog.info? e with
  | none => rw [hi] at h; cases h
  | some i =>
    rw [hi] at h
    simp at h
    exact ⟨i, rfl, h.1, h.2.1, h.2.2⟩
theorem own_base {w : World} {B B' k n : Nat} {T : TypeId} {v : Value} {xs : List Value} (hB : B' ≤ B) (h : w.ownsRow B T k v n xs) : w.ownsRow B' T k v n xs := by
  refine ⟨h.1, ?_⟩
  rcases h.2 with e | ⟨g, cap, cur, e, hb, rest⟩
  · exact .inl e
  · exact .inr ⟨g, cap, cur, e, Nat.le_trans hB hb, rest⟩
/-- A row that is told: only read; it lies below B. -/
structure Tl {α : Type} (f : α → Value) (B : Nat) (W : World) (v : Value) (xs : List α) : Prop where
  ex : ∃ a c, v = .slice a xs.length c ∧ xs.length ≤ c ∧ c ≤ 9223372036854775807 ∧ (0 < xs.length → ∃ b o, a = some ⟨b, o, none⟩ ∧ b < B ∧ ∀ j x, xs[j]? = some x → W.cell? ⟨b, o + j, none⟩ = some (f x))
section
variable {α : Type} {f : α → Value} {B B' : Nat} {w w' : World} {v : Value} {xs : List α}
theorem Tl.below (h : Tl f B w v xs) (hB : Below B w w') : Tl f B w' v xs := by
  obtain ⟨a, c, h1, h2, h3, h4⟩ := h.ex
  refine ⟨a, c, h1, h2, h3, fun hl => ?_⟩
  obtain ⟨b, o, h5, h6, h7⟩ := h4 hl
  exact ⟨b, o, h5, h6, fun j x hx => (World.cell?_of_block (w := w) (w' := w') (a := ⟨b, o + j, none⟩) (hB.block b h6)).trans (h7 j x hx)⟩
theorem Tl.up (h : Tl f B w v xs) (hB : B ≤ B') : Tl f B' w v xs := by
  obtain ⟨a, c, h1, h2, h3, h4⟩ := h.ex
  refine ⟨a, c, h1, h2, h3, fun hl => ?_⟩
  obtain ⟨b, o, h5, h6, h7⟩ := h4 hl
  exact ⟨b, o, h5, by omega, h7⟩
/-- What isn't of the told row's blocks may turn. -/
theorem Tl.fr {fp : Nat → Prop} (h : Tl f B w v xs) (hf : Fr fp w w') (hB : B ≤ w.heap.size) (hd : ∀ k, k < B → ¬ fp k) : Tl f B w' v xs := by
  obtain ⟨a, c, h1, h2, h3, h4⟩ := h.ex
  refine ⟨a, c, h1, h2, h3, fun hl => ?_⟩
  obtain ⟨b, o, h5, h6, h7⟩ := h4 hl
  exact ⟨b, o, h5, h6, fun j x hx => (World.cell?_of_block (w := w) (w' := w') (a := ⟨b, o + j, none⟩) (hf.block b (by omega) (hd b h6))).trans (h7 j x hx)⟩
theorem Tl.nil (f : α → Value) (B : Nat) (w : World) : Tl f B w (.slice none 0 0) ([] : List α) := ⟨none, 0, rfl, by simp, by omega, fun h => by simp at h⟩
/-- A row of one's own is told. -/
theorem own_told {B0 T : Nat} {n : Nat} (h : w.ownsRow B0 T 1 v n (xs.map f)) : Tl f w.heap.size w v xs := by
  have hn : n = xs.length := by have := h.1; simp at this; omega
  subst hn
  obtain ⟨a, k, rfl⟩ := own_form h
  refine ⟨a, k, rfl, own_cap h, own_capmax h, fun hl => ?_⟩
  rcases h.2 with ⟨h1, h2⟩ | ⟨g, cap, cur, h1, h2, h3, _⟩
  · omega
  · cases h1
    refine ⟨g, 0, rfl, (Array.getElem?_eq_some_iff.1 h3).1, fun j x hx => ?_⟩
    have hj := (List.getElem?_eq_some_iff.1 hx).1
    rw [Nat.zero_add, h.cellAt j (by omega)]
    simp [hx]
theorem own_len {B0 T : Nat} {n : Nat} (h : w.ownsRow B0 T 1 v n (xs.map f)) : n = xs.length := by have := h.1; simp at this; omega
end
/-- append of told numbers. -/
theorem wpList_appZ {w : World} {ops : Array Oper} {rest : List Oper} {o : Oper} {a : Act} {Q : Exit → Act → World → Prop} (hg : o.guard = none) (s x : Operand)
    (ho : o.op = Op.call { callee := Callee.builtin Builtin.append, args := #[s, x], argTypes := #[23, 23] }) (B : Nat) (v : Value) (xs ys : List Int) (hs : a.eval s = v) (hown : w.ownsRow B TL 1 v xs.length (xs.map iv)) (g o' n c : Nat) (hx : a.eval x = .slice (some ⟨g, o', none⟩) n c) (hn : n = ys.length)
    (hc : ∀ (j : Nat) y, ys[j]? = some y → w.cell? ⟨g, o' + j, none⟩ = some (iv y)) (hl : xs.length + ys.length ≤ 1000000) (hB : B ≤ w.heap.size)
    (hK : ∀ v' w', w'.ownsRow B TL 1 v' (xs ++ ys).length ((xs ++ ys).map iv) → w.grownBy w' v.ownBlock → (v'.ownBlock = v.ownBlock ∨ v'.ownBlock = some w.heap.size) → wpList Tryd.prog ops Q rest (a.put o.dst v') w') : wpList Tryd.prog ops Q (o :: rest) a w := by
  obtain ⟨i, h1, h2, h3, h4⟩ := info_split infoL
  have hml : (9223372036854775807 : Nat) = maxLen := rfl
  refine wpList_append_own_at _ hg s x 23 ho B TL i (.int .i64 0) 1 8 Tryd.underlying23 h1 h2 h3 h4 rfl (by decide) v _ _ hs hown ⟨g, o', none⟩ n c (ys.map iv) hx (by simp [hn]) (fun j u hu => ?_) (by simp [Value.oneCell']) (by omega) (by omega) hB ?_
  · rw [List.getElem?_map, Option.map_eq_some_iff] at hu
    obtain ⟨y, hy, rfl⟩ := hu
    rw [Addr.add_lit]
    exact hc j y hy
  · intro v' w' k1 k2 _ k4
    refine hK v' w' ?_ k2 k4
    rw [List.length_append, List.map_append, ← hn]
    exact k1
theorem new_one (w : World) (x : Int) (j : Nat) (y : Int) (h : [x][j]? = some y) : (w.alloc (.cells #[iv x] TL)).cell? ⟨w.heap.size, 0 + j, none⟩ = some (iv y) := by
  cases j with
  | zero => simp at h; subst h; rw [cell_of_row _ _ _ _ _ _ (heap_alloc_new _ _)]; rfl
  | succ j => simp at h
theorem exec_one {o : Oper} {f : Operand → Value} {W : World} {p : Operand} {v : Value} (ho : o.op = .buildSlice 23 1 #[(0, p)]) (hp : f p = v) (h1 : ∃ x, v = .int .i64 x) :
    (execOp f o).run Tryd.prog W = .ok (.value (.slice (some ⟨W.heap.size, 0, none⟩) 1 1)) (W.alloc (.cells #[v] TL)) := by
  obtain ⟨x, rfl⟩ := h1
  unfold execOp
  simp only [ho]
  go_simp
theorem exec_append {o : Oper} {f : Operand → Value} {W w' : World} {s x : Operand} {t : TypeId} {v u v' : Value} (ho : o.op = .call { callee := .builtin .append, args := #[s, x], argTypes := #[t, t] }) (hs : f s = v) (hx : f x = u) (hr : (Builtin.append_ #[t, t] o.type #[v, u]).run Tryd.prog W = .ok v' w') : (execOp f o).run Tryd.prog W = .ok (.value v') w' := by
  unfold execOp
  simp only [ho, resolve, invoke, builtin, Sem.run_bind, Sem.run_pure, Result.andThen_ok, List.map_toArray, List.map_cons, List.map_nil, hs, hx, hr]
/-- append of one number, run. -/
theorem run_pushL {w : World} (ty : TypeId) (B : Nat) (v : Value) (xs : List Int) (y : Int) (hown : w.ownsRow B TL 1 v xs.length (xs.map iv)) (g c : Nat) (hc : w.cell? ⟨g, 0, none⟩ = some (iv y)) (hl : xs.length ≤ 1000000) (hB : B ≤ w.heap.size) :
    ∃ v' w', (Builtin.append_ #[23, 23] ty #[v, .slice (some ⟨g, 0, none⟩) 1 c]).run Tryd.prog w = .ok v' w' ∧ w'.ownsRow B TL 1 v' (xs ++ [y]).length ((xs ++ [y]).map iv) ∧ w.grownBy w' v.ownBlock ∧ (v'.ownBlock = v.ownBlock ∨ v'.ownBlock = some w.heap.size) := by
  obtain ⟨i, h1, h2, h3, h4⟩ := info_split infoL
  have hml : (9223372036854775807 : Nat) = maxLen := rfl
  obtain ⟨v', w', r1, r2, r3, _, r5⟩ := run_append_own_at (P := Tryd.prog) w B 23 ty TL i (.int .i64 0) 1 8 Tryd.underlying23 h1 h2 h3 h4 rfl (by decide) v _ (xs.map iv) hown ⟨g, 0, none⟩ 1 c [iv y] rfl (fun j u hu => by
    cases j with
    | zero => simp at hu; subst hu; simpa [Addr.add] using hc
    | succ j => simp at hu) (by simp [Value.oneCell']) (by omega) (by omega) hB
  refine ⟨v', w', r1, ?_, r3, r5⟩
  rw [List.length_append, List.map_append]
  exact r2
theorem fi_len (ls : List Ins) : (ls.flatMap insc).length = ls.length * 3 := by
  induction ls with
  | nil => rfl
  | cons x l ih => rw [List.flatMap_cons, List.length_append, ih, List.length_cons]; simp [insc]; omega
theorem fi_get {x : Ins} {j : Nat} (hj : j < 3) : ∀ {ls : List Ins} {i : Nat}, ls[i]? = some x → (ls.flatMap insc)[i * 3 + j]? = (insc x)[j]?
  | y :: r, 0, h => by
    cases h
    rw [List.flatMap_cons, List.getElem?_append_left (by have : (insc x).length = 3 := rfl; omega)]
    simp
  | y :: r, i + 1, h => by
    have hy : (insc y).length = 3 := rfl
    rw [List.flatMap_cons, List.getElem?_append_right (by omega), show (i + 1) * 3 + j - (insc y).length = i * 3 + j by omega]
    exact fi_get hj (by simpa using h)
theorem fi_one (ls : List Ins) : ∀ u ∈ ls.flatMap insc, u.oneCell' = true := fun u hu => by
  obtain ⟨x, _, hx⟩ := List.mem_flatMap.1 hu
  simp only [insc, List.mem_cons, List.not_mem_nil, or_false] at hx
  rcases hx with rfl | rfl | rfl <;> rfl
/-- New memory that holds the instructions. -/
def RowI (w : World) (ls : List Ins) (v : Value) (w' : World) : Prop := w'.ownsRow w.heap.size TIn 3 v ls.length (ls.flatMap insc) ∧ Below w.heap.size w w'
/-- New memory that holds the numbers. -/
def RowL (w : World) (l : List Int) (v : Value) (w' : World) : Prop := w'.ownsRow w.heap.size TL 1 v l.length (l.map iv) ∧ Below w.heap.size w w'
theorem RwI.news {W : World} {B b o : Nat} {ls : List Ins} (h : RwI W B (some ⟨b, o, none⟩) ls) : ∀ j u, (ls.flatMap insc)[j]? = some u → W.cell? ((⟨b, o, none⟩ : Addr).add j) = some u := fun j u hu => by
  have hj := (List.getElem?_eq_some_iff.1 hu).1
  rw [fi_len] at hj
  have hi : j / 3 < ls.length := by omega
  have e : j / 3 * 3 + j % 3 = j := by omega
  have h2 := h.rows b o rfl (j / 3) _ (List.getElem?_eq_getElem hi) (j % 3) u (by rw [← fi_get (Nat.mod_lt _ (by omega)) (List.getElem?_eq_getElem hi), e]; exact hu)
  rw [Nat.add_assoc, e] at h2
  by_cases hj0 : j = 0
  · subst hj0
    simpa [Addr.add] using h2
  · simpa [Addr.add, hj0] using h2
theorem RwI.of_own {W : World} {B : Nat} {e : TypeId} {a : Option Addr} {n c : Nat} {ls : List Ins} (h : W.ownsRow B e 3 (.slice a n c) n (ls.flatMap insc)) : RwI W W.heap.size a ls := by
  have hl := h.1
  rw [fi_len] at hl
  rcases h.2 with ⟨q1, q2⟩ | ⟨g, cap, cur, q1, q2, q3, q4, q5, q6, q7⟩
  · cases q1
    exact ⟨fun h => by omega, fun b o he => by cases he⟩
  · cases q1
    refine ⟨fun _ => ⟨g, 0, rfl, (Array.getElem?_eq_some_iff.1 q3).1⟩, fun b o he i x hx j u hu => ?_⟩
    cases he
    have hi := (List.getElem?_eq_some_iff.1 hx).1
    have hj : j < 3 := (List.getElem?_eq_some_iff.1 hu).1
    rw [Nat.zero_add, h.cellAt (i * 3 + j) (by omega), fi_get hj hx]
    exact hu
set_option maxRecDepth 100000 in
theorem rowi_nil (n k : Nat) (W : World) : (binOp .eql 22 (.slice none n k) (.slice none 0 0)).run Tryd.prog W = .ok (.bool true) W := by kernel_rfl
set_option maxRecDepth 100000 in
theorem rowi_not (a : Addr) (n k : Nat) (W : World) : (binOp .eql 22 (.slice (some a) n k) (.slice none 0 0)).run Tryd.prog W = .ok (.bool false) W := by kernel_rfl
set_option maxRecDepth 100000 in
theorem CloneI_any (w : World) (a : Option Addr) (k n : Nat) (ls : List Ins) (hn : n = ls.length) (hR : RwI w w.heap.size a ls) (hn2 : n ≤ 1000000) :
    Calls Tryd.prog 18 #[.slice a n k] w fun e w' => ∃ v, e = .returned v ∧ RowI w ls v w' := by
  cases a with
  | none =>
    have hx : ls = [] := by
      cases ls with
      | nil => rfl
      | cons x r => obtain ⟨b, o, h, _⟩ := hR.at_ (by simp); cases h
    subst hx
    clear hR hn hn2
    have hq := rowi_nil
    go_enter Tryd.func18, Tryd.ntmps18
    go_wp2
    go_ret
    exact ⟨_, rfl, World.ownsRow_nil _ _ _ _, Below.refl _ _⟩
  | some a =>
    obtain ⟨i0, hi, hz0, hz1, hz2⟩ := info_split infoIn
    have hi' := hid hi
    have hz0' := hid hz0
    have hz1' := hid hz1
    have hz2' := hid hz2
    have hq := rowi_not
    have hnews : ∀ o : Obj, ∀ (j : Nat) (u : Value), (ls.flatMap insc)[j]? = some u → (w.alloc o).cell? (a.add j) = some u := fun o j u hu => by
      have hj := (List.getElem?_eq_some_iff.1 hu).1
      rw [fi_len] at hj
      obtain ⟨b, o', he, _⟩ := hR.at_ (by omega)
      cases he
      exact (hR.kept ((Below.refl _ _).alloc (Nat.le_refl _) o)).news j u hu
    have HNW := hid hnews
    have HN := hid hn
    have HL := hid (show (ls.flatMap insc).length = n * 3 by rw [fi_len, hn])
    clear hi hz0 hz1 hz2 hR hnews hn
    go_enter Tryd.func18, Tryd.ntmps18
    go_wp2_with (at_builtin; refine wpList_append_own _ (o := ⟨some 7, _, _, _, _, _⟩) rfl (.tmp 5) (.tmp 6) 22 rfl w.heap.size 45 i0 (.agg #[.int .i64 0, .int .i64 0, .int .i64 0]) 3 24 Tryd.underlying22 hi'.out hz0'.out hz1'.out hz2'.out rfl (by decide) (.slice (some ⟨w.heap.size, 0, none⟩) 0 0) 0 [] rfl (World.ownsRow_made w #[] 0 (Nat.le_refl _) (Nat.zero_le _) rfl) a n k (ls.flatMap insc) rfl HL.out (HNW.out _) (fi_one ls) (by unfold maxLen; omega) (by omega) (by simp) ?_; intro v5 w5 hown5 hgrow5 hnil5)
    have HO := hid hown5
    have HG := hid hgrow5
    clear hown5 hgrow5 hnil5
    go_ret
    refine ⟨_, rfl, ?_, ((Below.refl _ _).alloc (Nat.le_refl _) _).grown HG.out (by simp) (fun k hk => by simp [Value.ownBlock] at hk; omega)⟩
    have := HO.out
    rw [Nat.zero_add, List.nil_append, HN.out] at this
    exact this
set_option maxRecDepth 100000 in
theorem rowl_nil (n k : Nat) (W : World) : (binOp .eql 23 (.slice none n k) (.slice none 0 0)).run Tryd.prog W = .ok (.bool true) W := by kernel_rfl
set_option maxRecDepth 100000 in
theorem rowl_not (a : Addr) (n k : Nat) (W : World) : (binOp .eql 23 (.slice (some a) n k) (.slice none 0 0)).run Tryd.prog W = .ok (.bool false) W := by kernel_rfl
set_option maxRecDepth 100000 in
theorem CloneL_any (w : World) (v : Value) (l : List Int) (h : Tl iv w.heap.size w v l) (hn2 : l.length ≤ 1000000) :
    Calls Tryd.prog 35 #[v] w fun e w' => ∃ u, e = .returned u ∧ RowL w l u w' := by
  obtain ⟨a, k, rfl, hk, _, hat⟩ := h.ex
  cases a with
  | none =>
    have hx : l = [] := by
      cases l with
      | nil => rfl
      | cons x r => obtain ⟨b, o, h, _⟩ := hat (by simp); cases h
    subst hx
    clear h hn2 hat hk
    have hq := rowl_nil
    go_enter Tryd.func35, Tryd.ntmps35
    go_wp2
    go_ret
    exact ⟨_, rfl, World.ownsRow_nil _ _ _ _, Below.refl _ _⟩
  | some a =>
    obtain ⟨n, hn⟩ : ∃ n, n = l.length := ⟨_, rfl⟩
    rw [← hn] at hk hn2 hat ⊢
    have hcs : ∀ o : Obj, 0 < n → ∃ b o', a = ⟨b, o', none⟩ ∧ ∀ (j : Nat) y, l[j]? = some y → (w.alloc o).cell? ⟨b, o' + j, none⟩ = some (iv y) := fun o hl => by
      obtain ⟨b, o', he, hb, hj⟩ := hat hl
      cases he
      exact ⟨b, o', rfl, fun j y hy => (World.cell?_of_block (w := w) (w' := w.alloc o) (a := ⟨b, o' + j, none⟩) (((Below.refl _ _).alloc (Nat.le_refl _) o).block b hb)).trans (hj j y hy)⟩
    have hq := rowl_not
    have HN := hid hn
    have HCS := hid hcs
    clear h hat hcs
    obtain ⟨i0, hi, hz0, hz1, hz2⟩ := info_split infoL
    have hi' := hid hi
    have hz0' := hid hz0
    have hz1' := hid hz1
    have hz2' := hid hz2
    have hnews : ∀ o : Obj, ∀ (j : Nat) (u : Value), (l.map iv)[j]? = some u → (w.alloc o).cell? (a.add j) = some u := fun o j u hu => by
      have hj := (List.getElem?_eq_some_iff.1 hu).1
      rw [List.length_map, ← HN.out] at hj
      obtain ⟨b, o', rfl, h3⟩ := HCS.out o (by omega)
      rw [List.getElem?_map, Option.map_eq_some_iff] at hu
      obtain ⟨y, hy, rfl⟩ := hu
      rw [Addr.add_lit]
      exact h3 j y hy
    have HNW := hid hnews
    have HL := hid (show (l.map iv).length = n * 1 by rw [List.length_map, hn, Nat.mul_one])
    clear hi hz0 hz1 hz2 hnews hn
    go_enter Tryd.func35, Tryd.ntmps35
    go_wp2_with (at_builtin; refine wpList_append_own _ (o := ⟨some 7, _, _, _, _, _⟩) rfl (.tmp 5) (.tmp 6) 23 rfl w.heap.size TL i0 (.int .i64 0) 1 8 Tryd.underlying23 hi'.out hz0'.out hz1'.out hz2'.out rfl (by decide) (.slice (some ⟨w.heap.size, 0, none⟩) 0 0) 0 [] rfl (World.ownsRow_made w #[] 0 (Nat.le_refl _) (Nat.zero_le _) rfl) a n k (l.map iv) rfl HL.out (HNW.out _) (by simp [Value.oneCell']) (by unfold maxLen; omega) (by omega) (by simp) ?_; intro v5 w5 hown5 hgrow5 hnil5)
    have HO := hid hown5
    have HG := hid hgrow5
    clear hown5 hgrow5 hnil5
    go_ret
    refine ⟨_, rfl, ?_, ((Below.refl _ _).alloc (Nat.le_refl _) _).grown HG.out (by simp) (fun k hk => by simp [Value.ownBlock] at hk; omega)⟩
    have := HO.out
    rw [Nat.zero_add, List.nil_append, HN.out] at this
    exact this
end Go.Proofs.YtcoclaabainibaaDoor
