/- FcM FcA FcG in one -/
import Derived.ProofKit
import Derived.Test.YtgfimkeopohjaaaDoorFr
import Derived.Test.YtgfimkeopohjaaaDoorPick
import Derived.Test.YtgfimkeopohjaaaDoorEq
import Derived.Test.YtgfimkeopohjaaaDoorRng
namespace Go.Proofs.YtgfimkeopohjaaaDoor
open Go Go.ChangeShapes Go.WideShapes Go.ChangeAt Go.RowKit

/-- A face. -/
structure Face where
  id : List Int
  base : Int
/-- The next place of a line. -/
def nxt (l : List Face) (k : Nat) : Option Nat :=
  match l[k]? with
  | some f => if 0 ≤ f.base ∧ f.base < (k : Int) then some f.base.toNat else none
  | none => none
theorem nxt_lt {l : List Face} {k m : Nat} (h : nxt l k = some m) : m < k := by
  unfold nxt at h
  split at h
  · split at h
    · simp at h; omega
    · cases h
  · cases h
theorem nxt_some {l : List Face} {k : Nat} {f : Face} (hf : l[k]? = some f) (h : 0 ≤ f.base ∧ f.base < (k : Int)) : nxt l k = some f.base.toNat := by
  unfold nxt; rw [hf]; simp only [if_pos h]
theorem nxt_none {l : List Face} {k : Nat} {f : Face} (hf : l[k]? = some f) (h : ¬ (0 ≤ f.base ∧ f.base < (k : Int))) : nxt l k = none := by
  unfold nxt; rw [hf]; simp only [if_neg h]
/-- The line from a place on. -/
def lineN (l : List Face) (k : Nat) : List Nat :=
  match _h : nxt l k with
  | some m => k :: lineN l m
  | none => [k]
termination_by k
decreasing_by exact nxt_lt _h
theorem lineN_some {l : List Face} {k m : Nat} (h : nxt l k = some m) : lineN l k = k :: lineN l m := by
  rw [lineN]; split
  · rename_i m' h'; rw [h] at h'; cases h'; rfl
  · rename_i h'; rw [h] at h'; cases h'
theorem lineN_none {l : List Face} {k : Nat} (h : nxt l k = none) : lineN l k = [k] := by
  rw [lineN]; split
  · rename_i m' h'; rw [h] at h'; cases h'
  · rfl
theorem lineN_cons (l : List Face) (k : Nat) : ∃ t, lineN l k = k :: t := by
  cases h : nxt l k with
  | some m => exact ⟨_, lineN_some h⟩
  | none => exact ⟨_, lineN_none h⟩
theorem lineN_at (l : List Face) : ∀ (q k0 k : Nat), (lineN l k0)[q]? = some k → (lineN l k0)[q + 1]? = nxt l k
  | 0, k0, k, h => by
    cases hn : nxt l k0 with
    | some m =>
      rw [lineN_some hn] at h ⊢
      simp at h; subst h
      obtain ⟨t, ht⟩ := lineN_cons l m
      simp [ht, hn]
    | none =>
      rw [lineN_none hn] at h ⊢
      simp at h; subst h
      simp [hn]
  | q + 1, k0, k, h => by
    cases hn : nxt l k0 with
    | some m =>
      rw [lineN_some hn] at h ⊢
      simp at h
      have := lineN_at l q m k h
      simpa using this
    | none =>
      rw [lineN_none hn] at h
      simp at h
theorem lineN_le (l : List Face) : ∀ (n k0 : Nat), k0 ≤ n → ∀ k ∈ lineN l k0, k ≤ k0
  | 0, k0, hn, k, hk => by
    cases h : nxt l k0 with
    | some m => have := nxt_lt h; omega
    | none => rw [lineN_none h] at hk; simp at hk; omega
  | n + 1, k0, hn, k, hk => by
    cases h : nxt l k0 with
    | some m =>
      have h1 := nxt_lt h
      rw [lineN_some h] at hk
      rcases List.mem_cons.1 hk with e | hk
      · omega
      · have := lineN_le l n m (by omega) k hk; omega
    | none => rw [lineN_none h] at hk; simp at hk; omega
theorem lineN_fall (l : List Face) : ∀ (n k0 : Nat), k0 ≤ n → (lineN l k0).Pairwise (· > ·)
  | 0, k0, hn => by
    cases h : nxt l k0 with
    | some m => have := nxt_lt h; omega
    | none => rw [lineN_none h]; simp
  | n + 1, k0, hn => by
    cases h : nxt l k0 with
    | some m =>
      have h1 := nxt_lt h
      rw [lineN_some h]
      refine List.pairwise_cons.2 ⟨fun k hk => ?_, lineN_fall l n m (by omega)⟩
      have := lineN_le l m m (Nat.le_refl _) k hk; omega
    | none => rw [lineN_none h]; simp
/-- What stands behind a place of a line is that place's own line. -/
theorem lineN_split (l : List Face) : ∀ (pre : List Nat) (k0 x : Nat) (t : List Nat), lineN l k0 = pre ++ x :: t → lineN l x = x :: t
  | [], k0, x, t, h => by
    obtain ⟨t', ht⟩ := lineN_cons l k0
    rw [ht] at h
    simp at h
    obtain ⟨rfl, rfl⟩ := h
    exact ht
  | p :: pre, k0, x, t, h => by
    cases hn : nxt l k0 with
    | some m =>
      rw [lineN_some hn] at h
      simp at h
      exact lineN_split l pre m x t h.2
    | none =>
      rw [lineN_none hn] at h
      simp at h
/-- The line of any place: none where there is no face. -/
def lineL (l : List Face) (i : Int) : List Nat := if 0 ≤ i ∧ i < (l.length : Int) then lineN l i.toNat else []
theorem lineL_in {l : List Face} {i : Int} (h : 0 ≤ i ∧ i < (l.length : Int)) : lineL l i = lineN l i.toNat := if_pos h
theorem lineL_nat {l : List Face} {k : Nat} (h : k < l.length) : lineL l (k : Int) = lineN l k := by rw [lineL_in (by omega)]; rfl
theorem lineL_out {l : List Face} {i : Int} (h : ¬ (0 ≤ i ∧ i < (l.length : Int))) : lineL l i = [] := if_neg h
theorem lineL_mem {l : List Face} {i : Int} {k : Nat} (h : k ∈ lineL l i) : k < l.length ∧ (k : Int) ≤ i := by
  unfold lineL at h
  split at h
  · have := lineN_le l i.toNat i.toNat (Nat.le_refl _) k h; omega
  · cases h
theorem lineL_fall (l : List Face) (i : Int) : (lineL l i).Pairwise (· > ·) := by
  unfold lineL
  split
  · exact lineN_fall l i.toNat i.toNat (Nat.le_refl _)
  · exact List.Pairwise.nil
theorem lineL_split {l : List Face} {i : Int} {pre : List Nat} {x : Nat} {t : List Nat} (h : lineL l i = pre ++ x :: t) : lineL l (x : Int) = x :: t := by
  have hx : x ∈ lineL l i := by rw [h]; simp
  rw [lineL_nat (lineL_mem hx).1]
  unfold lineL at h
  split at h
  · exact lineN_split l pre _ x t h
  · simp at h
theorem lineL_at {l : List Face} {i : Int} {q k : Nat} (h : (lineL l i)[q]? = some k) : (lineL l i)[q + 1]? = nxt l k := by
  unfold lineL at h ⊢
  split
  · rename_i hc; rw [if_pos hc] at h; exact lineN_at l q _ k h
  · rename_i hc; rw [if_neg hc] at h; cases h
theorem lineL_head {l : List Face} {i : Int} (h : 0 ≤ i ∧ i < (l.length : Int)) : (lineL l i)[0]? = some i.toNat := by
  rw [lineL_in h]
  obtain ⟨t, ht⟩ := lineN_cons l i.toNat
  rw [ht]; rfl
/-- A line's length. -/
theorem fall_len : ∀ (L : List Nat) (n : Nat), L.Pairwise (· > ·) → (∀ k ∈ L, k < n) → L.length ≤ n
  | [], _, _, _ => Nat.zero_le _
  | a :: L, n, hp, hn => by
    have h1 := List.pairwise_cons.1 hp
    have := fall_len L a h1.2 (fun k hk => h1.1 k hk)
    have := hn a (by simp)
    simp; omega
theorem lineL_len (l : List Face) (i : Int) : (lineL l i).length ≤ l.length := fall_len _ _ (lineL_fall l i) (fun _ hk => (lineL_mem hk).1)
theorem lineL_sub {l : List Face} {i : Int} {x : Nat} (h : x ∈ lineL l i) : ∀ y ∈ lineL l (x : Int), y ∈ lineL l i := fun y hy => by
  obtain ⟨pre, t, e⟩ := List.append_of_mem h
  rw [lineL_split e] at hy
  rw [e]; exact List.mem_append.2 (.inr hy)
theorem lineL_self {l : List Face} {i : Int} (h : 0 ≤ i ∧ i < (l.length : Int)) : i.toNat ∈ lineL l i := List.mem_of_getElem? (lineL_head h)
/-- What two lines have in common: the first one of i's that is in j's. -/
def commonL (l : List Face) (i j : Int) : Option Nat := (lineL l i).find? fun k => decide (k ∈ lineL l j)
/-- The first face of an Id. -/
def findL : List Face → List Int → Option Nat
  | [], _ => none
  | f :: l, g => if f.id = g then some 0 else (findL l g).map (· + 1)
/-- Is one of this Id in the line of k? -/
def isUnder (l : List Face) (g : List Int) (k : Nat) : Bool := (lineL l (k : Int)).any fun y => decide ((l[y]?.map Face.id) = some g)
/-- All faces in whose lines one of this Id is. -/
def underL (l : List Face) (g : List Int) (n : Nat) : List Nat := (List.range n).filter (isUnder l g)
theorem underL_succ (l : List Face) (g : List Int) (n : Nat) : underL l g (n + 1) = underL l g n ++ (if isUnder l g n then [n] else []) := by
  unfold underL
  rw [List.range_succ, List.filter_append]
  congr 1
  by_cases h : isUnder l g n <;> simp [h]
/-- The place's Base is right. -/
def baseOk (k : Nat) (b : Int) : Bool := if k = 0 then decide (b = -1) else decide (0 ≤ b ∧ b < (k : Int))
/-- What is wrong from a place on. -/
def checkFrom (l : List Face) : Nat → List Face → Int
  | _, [] => 0
  | k, f :: r => if baseOk k f.base then (if (findL (l.take k) f.id).isSome then 13 else checkFrom l (k + 1) r) else 5
def checkL (l : List Face) : Int := if l.length < 1 ∨ 16 < l.length then 20 else checkFrom l 0 l
end Go.Proofs.YtgfimkeopohjaaaDoor

namespace Go.Proofs.YtgfimkeopohjaaaDoor
open Go Go.ChangeShapes Go.WideShapes Go.ChangeAt Go.RowKit

/-- The cells of a face. -/
def fcl (f : Face) : List Value := u8l f.id ++ [.int .i64 f.base]
def I64 (x : Int) : Prop := -9223372036854775808 ≤ x ∧ x ≤ 9223372036854775807
/-- A row of faces, its blocks below B. -/
structure FRow (w : World) (B : Nat) (ad : Option Addr) (l : List Face) : Prop where
  some : 0 < l.length → ∃ b o, ad = some ⟨b, o, none⟩ ∧ b < B
  cells : ∀ (b o : Nat), ad = Option.some ⟨b, o, none⟩ → ∀ (i : Nat) (f : Face), l[i]? = Option.some f → ∀ j v, (fcl f)[j]? = Option.some v → w.cell? ⟨b, o + i * 17 + j, none⟩ = Option.some v
  len : ∀ f ∈ l, f.id.length = 16
  ok : ∀ f ∈ l, I64 f.base
theorem fcl_len {f : Face} (h : f.id.length = 16) : (fcl f).length = 17 := by simp [fcl, u8l, h]
theorem fcl_base {f : Face} (h : f.id.length = 16) : (fcl f)[16]? = some (.int .i64 f.base) := by
  unfold fcl
  rw [List.getElem?_append_right (by rw [u8l_len]; omega), u8l_len, h]; rfl
theorem fcl_id {f : Face} (h : f.id.length = 16) (j : Nat) (v : Value) (hv : (u8s f.id)[j]? = some v) : (fcl f)[j]? = some v := by
  have hj : j < 16 := by
    have := (Array.getElem?_eq_some_iff.1 hv).1
    rw [u8s_size] at this; omega
  unfold fcl
  rw [List.getElem?_append_left (by rw [u8l_len]; omega)]
  simpa [u8s, u8l] using hv
theorem FRow.face {w : World} {B b o : Nat} {l : List Face} (h : FRow w B (Option.some ⟨b, o, none⟩) l) {i : Nat} {f : Face} (hf : l[i]? = Option.some f) : AtL w b (o + i * 17) (fcl f) := fun j v hv => h.cells b o rfl i f hf j v hv
theorem FRow.id {w : World} {B b o : Nat} {l : List Face} (h : FRow w B (Option.some ⟨b, o, none⟩) l) {i : Nat} {f : Face} (hf : l[i]? = Option.some f) : AtL w b (o + i * 17) (u8s f.id).toList := fun j v hv => h.cells b o rfl i f hf j v (fcl_id (h.len f (List.mem_of_getElem? hf)) j v (by simpa using hv))
theorem FRow.base {w : World} {B b o : Nat} {l : List Face} (h : FRow w B (Option.some ⟨b, o, none⟩) l) {i : Nat} {f : Face} (hf : l[i]? = Option.some f) : w.cell? ⟨b, o + i * 17 + 16, none⟩ = Option.some (.int .i64 f.base) := h.cells b o rfl i f hf 16 _ (fcl_base (h.len f (List.mem_of_getElem? hf)))
theorem FRow.of_blocks {w w' : World} {B : Nat} {ad : Option Addr} {l : List Face} (h : FRow w B ad l) (hB : ∀ b o, ad = Option.some ⟨b, o, none⟩ → b < B → w'.heap[b]? = w.heap[b]?) : FRow w' B ad l :=
  ⟨h.some, fun b o ha i f hf j v hv => by
    obtain ⟨b', o', h1, h2⟩ := h.some (by have := (List.getElem?_eq_some_iff.1 hf).1; omega)
    rw [ha] at h1; cases h1
    exact (World.cell?_of_block (w := w) (w' := w') (a := ⟨b, o + i * 17 + j, none⟩) (hB b o ha h2)).trans (h.cells b o ha i f hf j v hv), h.len, h.ok⟩
theorem FRow.below {w w' : World} {B : Nat} {ad : Option Addr} {l : List Face} (h : FRow w B ad l) (hB : Below B w w') : FRow w' B ad l := h.of_blocks fun b _ _ hb => hB.block b hb
theorem FRow.mono {w : World} {B B' : Nat} {ad : Option Addr} {l : List Face} (h : FRow w B ad l) (hB : B ≤ B') : FRow w B' ad l :=
  ⟨fun hn => by obtain ⟨b, o, h1, h2⟩ := h.some hn; exact ⟨b, o, h1, Nat.lt_of_lt_of_le h2 hB⟩, h.cells, h.len, h.ok⟩
theorem FRow.on {w w' : World} {ad : Option Addr} {l : List Face} (h : FRow w w.heap.size ad l) (hB : Below w.heap.size w w') : FRow w' w'.heap.size ad l := (h.below hB).mono hB.size
theorem FRow.take {w : World} {B : Nat} {ad : Option Addr} {l : List Face} (h : FRow w B ad l) (n : Nat) : FRow w B ad (l.take n) := by
  have key : ∀ {i : Nat} {f : Face}, (l.take n)[i]? = Option.some f → l[i]? = Option.some f := fun hf => by
    rw [List.getElem?_take] at hf
    split at hf
    · exact hf
    · cases hf
  exact ⟨fun hn => h.some (by simp at hn; omega), fun b o ha i f hf => h.cells b o ha i f (key hf), fun f hf => h.len f (List.mem_of_mem_take hf), fun f hf => h.ok f (List.mem_of_mem_take hf)⟩

end Go.Proofs.YtgfimkeopohjaaaDoor

namespace Go.Proofs.YtgfimkeopohjaaaDoor
open Go Go.ChangeShapes Go.WideShapes Go.ChangeAt Go.RowKit

theorem szU8 (w : World) : (sizeOf 5).run Tryd.prog w = .ok 1 w := by kernel_rfl
theorem size28 : (Tryd.prog.info? 34).map (·.size) = some 16 := by kernel_rfl
theorem size30 : (Tryd.prog.info? 74).map (·.size) = some 17 := by kernel_rfl
theorem agg28 (W : World) : (isAgg 34).run Tryd.prog W = .ok true W := by kernel_rfl
theorem agg30 (W : World) : (isAgg 74).run Tryd.prog W = .ok true W := by kernel_rfl
theorem AtL.load28 {W : World} {b o : Nat} {cs : List Value} (h : AtL W b o cs) (hn : cs.length = 16) : (loadVar 34 ⟨b, o, none⟩).run Tryd.prog W = .ok (.agg cs.toArray) W := by
  have h1 := h.run (P := Tryd.prog)
  cases hq : Tryd.prog.info? 34 with
  | none => have := size28; simp [hq] at this
  | some i =>
    have hi : i.size = 16 := by have := size28; simpa [hq] using this
    rw [hn] at h1
    simp [loadVar, sizeOf, typeInfo, hq, hi, loadCells, h1]
theorem AtL.load30 {W : World} {b o : Nat} {cs : List Value} (h : AtL W b o cs) (hn : cs.length = 17) : (loadVar 74 ⟨b, o, none⟩).run Tryd.prog W = .ok (.agg cs.toArray) W := by
  have h1 := h.run (P := Tryd.prog)
  cases hq : Tryd.prog.info? 74 with
  | none => have := size30; simp [hq] at this
  | some i =>
    have hi : i.size = 17 := by have := size30; simpa [hq] using this
    rw [hn] at h1
    simp [loadVar, sizeOf, typeInfo, hq, hi, loadCells, h1]
/-- An Id is loaded. -/
theorem load_id {o : Oper} {f : Operand → Value} {p : Operand} {b off : Nat} {x : List Int} {W : World} (ho : o.op = .load 34 p) (hp : f p = .pointer (some ⟨b, off, none⟩)) (h : AtL W b off (u8s x).toList) (hx : x.length = 16) : (execOp f o).run Tryd.prog W = .ok (.value (.agg (u8s x))) W := by
  have h1 := h.load28 (by simp [u8s_size, hx])
  unfold execOp
  simp only [ho, hp, Instr.loadAt, Instr.sureAddr, Sem.run_bind, Sem.run_pure, Result.andThen_ok, h1]
/-- A face is loaded. -/
theorem load_face {o : Oper} {f : Operand → Value} {p : Operand} {b off : Nat} {x : Face} {W : World} (ho : o.op = .load 74 p) (hp : f p = .pointer (some ⟨b, off, none⟩)) (h : AtL W b off (fcl x)) (hx : x.id.length = 16) : (execOp f o).run Tryd.prog W = .ok (.value (.agg (fcl x).toArray)) W := by
  have h1 := h.load30 (fcl_len hx)
  unfold execOp
  simp only [ho, hp, Instr.loadAt, Instr.sureAddr, Sem.run_bind, Sem.run_pure, Result.andThen_ok, h1]
theorem eq28 (x y : List Int) (hx : x.length = 16) (hy : y.length = 16) (w : World) : (Op.equalIn 10000 34 (.agg (u8s x)) (.agg (u8s y))).run Tryd.prog w = .ok (x == y) w :=
  run_equalIn_u8s w 9998 34 5 16 Tryd.underlying34 Tryd.underlying5 szU8 x y hx hy
theorem guard28 (op : BinOp) (a b : Operand) (xs ys : Array Value) (W : World) : (eqGuard op 34 a b (.agg xs) (.agg ys)).run Tryd.prog W = .ok () W := run_eqGuard_agg W op 34 a b xs ys (by kernel_rfl)
theorem guard30 (op : BinOp) (a b : Operand) (xs ys : Array Value) (W : World) : (eqGuard op 74 a b (.agg xs) (.agg ys)).run Tryd.prog W = .ok () W := run_eqGuard_agg W op 74 a b xs ys (by kernel_rfl)
theorem fcl_head {x : Face} (hx : x.id.length = 16) : (List.take 16 (fcl x)).toArray = u8s x.id := by
  simp [fcl, u8s, u8l, ← hx]
theorem fields30 : (Tryd.prog.fieldsOf 74).toList.map (fun f => (f.name, f.type, f.offset)) = [("Id", 34, 0), ("Base", 3, 16)] := by kernel_rfl
theorem eq30 (x : Face) (hx : x.id.length = 16) (w : World) : (Op.equalIn 10000 74 (.agg (fcl x).toArray) (.agg (fcl x).toArray)).run Tryd.prog w = .ok true w := by
  rw [run_equalIn_struct w 9999 74 _ _ (by kernel_rfl) (by kernel_rfl)]
  have hf := fields30
  generalize (Tryd.prog.fieldsOf 74).toList = fs at hf
  rcases fs with _ | ⟨f1, _ | ⟨f2, _ | ⟨f3, fs⟩⟩⟩
  · simp at hf
  · simp at hf
  · simp only [List.map_cons, List.map_nil, List.cons.injEq, Prod.mk.injEq, and_true] at hf
    obtain ⟨⟨n1, t1, o1⟩, n2, t2, o2⟩ := hf
    have e1 : (Op.equalIn 9999 34 (.agg (u8s x.id)) (.agg (u8s x.id))).run Tryd.prog w = .ok (x.id == x.id) w := run_equalIn_u8s w 9997 34 5 16 Tryd.underlying34 Tryd.underlying5 szU8 x.id x.id hx hx
    rw [← fcl_head hx] at e1
    have e2 : (Op.equalIn 9999 3 (.int .i64 x.base) (.int .i64 x.base)).run Tryd.prog w = .ok (x.base == x.base) w := run_equalIn_int w 9998 3 .i64 .i64 _ _ Tryd.underlying3
    have hb : (fcl x)[16]? = some (.int .i64 x.base) := fcl_base hx
    simp [Op.eqFields, n1, n2, t1, t2, o1, o2, part, e1, e2, hb, isAgg, run_underlying Tryd.underlying3]
  · simp at hf
end Go.Proofs.YtgfimkeopohjaaaDoor
