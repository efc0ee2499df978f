/- CkD MixR CkE in one -/
import Derived.RangeFuncNested
import Derived.RangeFuncBound
import Derived.RangeFuncCalls
import Derived.RangeFuncLeaves
import Derived.RangeFuncFrom
import Derived.RangeFuncBox
import Derived.Shelf.Abstract
import Derived.OwnWalkIn
import Derived.TacticsInMore
import Derived.LoopNIn
import Derived.LoopIn
import Derived.Test.YtgfimkeopohjaaaDoorCkT
import Derived.Test.YtgfimkeopohjaaaDoorMemT
import Derived.Test.YtgfimkeopohjaaaDoorMixG
import Derived.Test.YtgfimkeopohjaaaDoorSureI
import Derived.Test.YtgfimkeopohjaaaDoorScope
import Derived.Test.YtgfimkeopohjaaaDoorCdQ
import Derived.TacticsIn
import Derived.Test.YtgfimkeopohjaaaDoorRng
namespace Go.Proofs.YtgfimkeopohjaaaDoor
open Go Go.ChangeShapes Go.WideShapes Go.ChangeAt Go.RowKit Go.Shelf
attribute [local go_sem] Oper.semAt_some

/-- What a loop's body keeps: the cells in these blocks, and those of one type. -/
def KT (S : Nat → Prop) (T : TypeId → Prop) (W W' : World) : Prop := ∀ (k : Nat) (cs : Array Value) (t : TypeId) (fr : Nat × Nat), (S k ∨ T t) → W.heap[k]? = some (.cells cs t fr) → W'.heap[k]? = some (.cells cs t fr)
/-- The types of the iterator's own blocks that are read behind a round. -/
def TY (t : TypeId) : Prop := t = 104 ∨ t = 61 ∨ t = 94
section
variable {S : Nat → Prop} {T : TypeId → Prop}
set_option maxRecDepth 100000 in
theorem KT.refl (W : World) : KT S T W W := fun _ _ _ _ _ h => h
set_option maxRecDepth 100000 in
theorem KT.t {A B C : World} (h : KT S T A B) (k : KT S T B C) : KT S T A C := fun j cs t fr hS hj => k j cs t fr hS (h j cs t fr hS hj)
set_option maxRecDepth 100000 in
theorem KT.b (W : World) (l : Nat) (o o' : Obj) (h : W.heap[l]? = some o) (hc : o.isCells = false) : KT S T W (W.putObj l o') := fun k cs t fr _ hk => by
  have hne : k ≠ l := fun e => by subst e; rw [hk] at h; cases h; cases hc
  rw [World.putObj_heap_other hne]; exact hk
set_option maxRecDepth 100000 in
theorem KT.below {W W' : World} (h : Below W.heap.size W W') : KT S T W W' := fun k cs t fr _ hk => by rw [h.block k (Array.getElem?_eq_some_iff.1 hk).1]; exact hk
set_option maxRecDepth 100000 in
theorem KT.cell {W W' : World} {p : Addr} {v : Value} (h : KT S T W W') (hp : S p.block) (hc : W.cell? p = some v) : W'.cell? p = some v := by
  have hh : ∃ cs t fr, W.heap[p.block]? = some (.cells cs t fr) := by
    unfold World.cell? at hc
    split at hc
    · rename_i c e f hb; exact ⟨_, _, _, hb⟩
    · cases hc
  obtain ⟨cs, t, fr, hb⟩ := hh
  rw [World.cell?_of_block (w := W) (w' := W') (a := p) (by rw [hb, h _ _ _ _ (.inl hp) hb])]
  exact hc
set_option maxRecDepth 100000 in
theorem KT.box {W W' : World} {b : Nat} {t : TypeId} {v : Value} (h : KT S T W W') (hp : S b) (hb : Boxed W b t v) : Boxed W' b t v := h _ _ _ _ (.inl hp) hb
set_option maxRecDepth 100000 in
theorem KT.tab {W W' : World} (h : KT S T W W') (hp : S 0) (hT : TabB W) : TabB W' := fun j hj => h.cell (p := ⟨0, j, none⟩) hp (hT j hj)
set_option maxRecDepth 100000 in
theorem RwI.kt {W W' : World} {B : Nat} {a : Option Addr} {ls : List Ins} (h : RwI W B a ls) (hk : KT S T W W') (hS : ∀ k, k < B → S k) : RwI W' B a ls :=
  ⟨h.at_, fun b o he i x hx j u hu => by
    obtain ⟨b', o', h1, h2⟩ := h.at_ (by have := (List.getElem?_eq_some_iff.1 hx).1; omega)
    rw [he] at h1; cases h1
    exact hk.cell (p := ⟨b, o + i * 3 + j, none⟩) (hS b h2) (h.rows b o he i x hx j u hu)⟩
end
set_option maxRecDepth 100000 in
theorem grown_below {W W' : World} (h : Below W.heap.size W W') : W.grownBy W' none := ⟨h.os, h.tape, h.output, h.size, fun k hk _ => h.block k hk⟩
set_option maxRecDepth 100000 in
theorem OwnT.on {β : Type} {T : TypeId} {B : Nat} {J : β → World → Prop} {x : β} {W W' : World} (hJ : OwnT T B J) (h : J x W) (hb : Below W.heap.size W W') : J x W' := hJ _ _ _ none h (grown_below hb) (fun _ e => by cases e)
set_option maxRecDepth 100000 in
theorem OwnT.set {β : Type} {T : TypeId} {B : Nat} {J : β → World → Prop} {x : β} {W : World} {b j : Nat} {v : Value} {cs : Array Value} {fr : Nat × Nat} (hJ : OwnT T B J) (h : J x W) (hB : B ≤ b) (hb : W.heap[b]? = some (.cells cs T fr)) : J x (W.setCell ⟨b, j, none⟩ v) :=
  hJ _ _ _ (some b) h ⟨rfl, rfl, rfl, by simp, fun k hk hne => Below.heap_setCell _ _ _ _ (fun e => hne (by rw [e]))⟩ (fun r e => by cases e; exact ⟨hB, _, hb, .inr (by simp [ofT])⟩)
/-- Heights met, in memory. -/
def metA (f : Nat → Nat) : Array Value := ((List.range 32).map fun j => Value.int .u16 (f j)).toArray
def MetB (W : World) (b : Nat) (f : Nat → Nat) : Prop := W.heap[b]? = some (.cells (metA f) 104 (0, 0))
set_option maxRecDepth 100000 in
theorem metA_at {f : Nat → Nat} {j : Nat} (hj : j < 32) : (metA f)[j]? = some (.int .u16 (f j)) := by simp [metA, hj]
set_option maxRecDepth 100000 in
theorem MetB.cell {W : World} {b : Nat} {f : Nat → Nat} (h : MetB W b f) {j : Nat} (hj : j < 32) : W.cell? ⟨b, j, none⟩ = some (.int .u16 (f j)) := by
  unfold MetB at h
  simp [World.cell?, h, metA_at hj]
set_option maxRecDepth 100000 in
theorem MetB.frozen {W : World} {b : Nat} {f : Nat → Nat} (h : MetB W b f) (j : Nat) : W.frozen? ⟨b, j, none⟩ = false := by
  unfold MetB at h
  simp [World.frozen?, h]
set_option maxRecDepth 100000 in
theorem MetB.set {W : World} {b : Nat} {f : Nat → Nat} (h : MetB W b f) {j : Nat} (hj : j < 32) (m : Nat) : MetB (W.setCell ⟨b, j, none⟩ (.int .u16 m)) b (fun i => if i = j then m else f i) := by
  unfold MetB at *
  rw [heap_setCell_same W b j _ _ _ h]
  congr 2
  apply Array.ext_getElem?
  intro i
  by_cases hi : i < 32
  · rw [metA_at hi, Array.getElem?_setIfInBounds]
    by_cases he : j = i
    · subst he; simp [metA, hj]
    · have : i ≠ j := fun e => he e.symm
      simp [he, this, metA_at hi]
  · have h1 : ∀ g : Nat → Nat, (metA g).size = 32 := fun g => by simp [metA]
    rw [Array.getElem?_eq_none (by simp [h1]; omega), Array.getElem?_eq_none (by rw [h1]; omega)]
/-- Between two steps. -/
structure SI (S : Nat → Prop) (W0 : World) (J : List Stp → World → Prop) (m0 : Nat) (pre : List Stp) (f : Nat → Nat) (W : World) : Prop where
  j : J pre W
  m : MetB W m0 f
  k : KT S TY W0 W
section
variable {S : Nat → Prop} {W0 W W' : World} {J : List Stp → World → Prop} {m0 : Nat} {pre : List Stp} {f : Nat → Nat}
set_option maxRecDepth 100000 in
theorem SI.on (h : SI S W0 J m0 pre f W) (hJ : OwnT 104 W0.heap.size J) (hb : Below W.heap.size W W') : SI S W0 J m0 pre f W' :=
  ⟨hJ.on h.j hb, (hb.block _ (Array.getElem?_eq_some_iff.1 h.m).1).trans h.m, h.k.t (KT.below hb)⟩
end
set_option maxRecDepth 100000 in
/-- The row of an Op. -/
theorem rows_index : ∀ (q : Nat) (r : Rw), rowL[q]? = some r → ∀ W : World, (Instr.index 108 (.agg rowsA) (.int .i64 (q : Int))).run Tryd.prog W = .ok (.agg (rwA r)) W := by
  intro q r hr W
  have hq : q < 11 := (List.getElem?_eq_some_iff.1 hr).1
  rcases (show q = 0 ∨ q = 1 ∨ q = 2 ∨ q = 3 ∨ q = 4 ∨ q = 5 ∨ q = 6 ∨ q = 7 ∨ q = 8 ∨ q = 9 ∨ q = 10 by omega) with rfl | rfl | rfl | rfl | rfl | rfl | rfl | rfl | rfl | rfl | rfl
  all_goals
    cases hr
    simp [Instr.index, asIntOf, run_underlying Tryd.underlying108, rowsA, rowL, rwc, rwA, part, go_sem]
set_option maxRecDepth 100000 in
theorem exec_index_row {o : Oper} {f : Operand → Value} {W : World} {x y : Operand} {q : Nat} {r : Rw} (ho : o.op = .index 108 x y) (hx : f x = .agg rowsA) (hy : f y = .int .i64 (q : Int)) (hr : rowL[q]? = some r) : (execOp f o).run Tryd.prog W = .ok (.value (.agg (rwA r))) W := by
  unfold execOp
  simp only [ho, hx, hy, Sem.run_bind, rows_index q r hr W, Result.andThen_ok, Sem.run_pure]
set_option maxRecDepth 100000 in
theorem ins_at {W : World} {b : Nat} {x : Ins} (h : InI W b x) : AtL W b 0 (insc x) := fun j u hu => by
  match j, hu with
  | 0, hu => cases hu; exact h.c0
  | 1, hu => cases hu; exact h.c1
  | 2, hu => cases hu; exact h.c2
set_option maxRecDepth 100000 in
theorem rowL_ok : ∀ r ∈ rowL, (r.a = 0 ∨ r.a = 1 ∨ r.a = 2 ∨ r.a = 3 ∨ r.a = 4) ∧ (r.b = 0 ∨ r.b = 1 ∨ r.b = 2 ∨ r.b = 3 ∨ r.b = 4) ∧ (0 ≤ r.takes ∧ r.takes ≤ 2) ∧ (0 ≤ r.lays ∧ r.lays ≤ 1) := by
  intro r hr
  simp only [rowL, List.mem_cons, List.not_mem_nil, or_false] at hr
  rcases hr with rfl | rfl | rfl | rfl | rfl | rfl | rfl | rfl | rfl | rfl | rfl <;> decide
set_option maxRecDepth 100000 in
theorem InI.on {W W' : World} {b : Nat} {x : Ins} (h : InI W b x) (hb : Below W.heap.size W W') : InI W' b x := (hb.block _ (Array.getElem?_eq_some_iff.1 h).1).trans h
set_option maxRecDepth 100000 in
theorem RwB.on {W W' : World} {b : Nat} {r : Rw} (h : RwB W b r) (hb : Below W.heap.size W W') : RwB W' b r := (hb.block _ (Array.getElem?_eq_some_iff.1 h).1).trans h
/-- What one step reads. -/
structure S11 (w5 : World) (m0 bx br Bl Bs : Nat) (x : Ins) (r : Rw) (v : Value) (s : Int) (i m : Nat) (W : World) : Prop where
  b : Below w5.heap.size w5 W
  r_ : RwB W br r
  x_ : InI W bx x
  cs : W.cell? ⟨Bs, 0, none⟩ = some (.int .i64 s)
  cl : W.cell? ⟨Bl, 0, none⟩ = some v
  cm : W.cell? ⟨m0, i, none⟩ = some (.int .u16 m)
  tab : TabB W
set_option maxRecDepth 100000 in
theorem S11.on {w5 W W' : World} {m0 bx br Bl Bs : Nat} {x : Ins} {r : Rw} {v : Value} {s : Int} {i m : Nat} (h : S11 w5 m0 bx br Bl Bs x r v s i m W) (hb : Below W.heap.size W W') : S11 w5 m0 bx br Bl Bs x r v s i m W' :=
  have hc : ∀ {p : Addr} {u : Value}, W.cell? p = some u → W'.cell? p = some u := fun hp => (World.cell?_of_block (hb.block _ (World.block_lt_of_cell? W _ hp))).trans hp
  ⟨h.b.trans (hb.mono h.b.size), h.r_.on hb, h.x_.on hb, hc h.cs, hc h.cl, hc h.cm, h.tab.on hb⟩
set_option maxRecDepth 100000 in
theorem insA_size (x : Ins) : (Tryd.prog.info? 61).map (·.size) = some (insA x).size := by kernel_rfl
set_option maxRecDepth 100000 in
theorem rwA_size (r : Rw) : (Tryd.prog.info? 107).map (·.size) = some (rwA r).size := by kernel_rfl
set_option maxRecDepth 100000 in
theorem stA_size (h b e : Int) : (Tryd.prog.info? 94).map (·.size) = some (stA h b e).size := by kernel_rfl
def yst (x : Stp) : Array Value := #[.int .i64 x.i, .agg (stA x.h x.b x.e)]
def StepsPost (ls : List Ins) (s : Int) (J Jx : List Stp → World → Prop) (e : Ending) (W' : World) : Prop :=
  (∃ v, e = .returned v) ∧ ((∃ ys, Told ls s ys ∧ J ys W') ∨ (∃ pre, ToldTo ls s pre ∧ Jx pre W'))
set_option maxRecDepth 100000 in
theorem nextK_len (i : Nat) (x : Ins) : (nextK i x).length ≤ 2 := by
  unfold nextK
  split
  · simp
  · split <;> simp
set_option maxRecDepth 100000 in
theorem upd_lt {k : Nat} (hk : k < 9) : ∀ (L : List Nat) {f : Nat → Nat}, (∀ j, f j < 512) → ∀ j, (L.foldl (updM k) f) j < 512
  | [], _, h, j => h j
  | t :: L, f, h, j => by
    rw [List.foldl_cons]
    refine upd_lt hk L (fun i => ?_) j
    unfold updM
    split
    · exact or_lt ⟨k, hk⟩ ⟨f i, h i⟩
    · exact h i
/-- The places where one goes on, in a block of their own. -/
def NxT (m0 : Nat) (an : Option Addr) (L : List Nat) (W : World) : Prop := ∀ j (_ : j < L.length), ∃ gn, an = some ⟨gn, 0, none⟩ ∧ m0 ≠ gn ∧ W.cell? ⟨gn, j, none⟩ = some (.int .i64 ((L.getD j 0 : Nat) : Int))
set_option maxRecDepth 100000 in
theorem NxT.of {w1 W : World} {an : Option Addr} {L : List Nat} {c m0 : Nat} (h : EI w1 W (.slice an (List.map Int.ofNat L).length c) (List.map Int.ofNat L).length (List.map Int.ofNat L)) (hm : m0 < w1.heap.size) : NxT m0 an L W := fun j hj => by
  rcases h.1.2 with ⟨q1, q2⟩ | ⟨g, cap', cs, q1, q2, q3⟩
  · have := h.1.1
    rw [List.length_map] at *
    omega
  · cases q1
    refine ⟨g, rfl, by omega, ?_⟩
    have := h.cell (j := j) (by rw [List.length_map]; exact hj)
    rw [this]
    simp [hj]
set_option maxRecDepth 100000 in
theorem NxT.set {m0 : Nat} {an : Option Addr} {L : List Nat} {W : World} (h : NxT m0 an L W) (j : Nat) (v : Value) : NxT m0 an L (W.setCell ⟨m0, j, none⟩ v) := fun k hk => by
  obtain ⟨gn, h1, h2, h3⟩ := h k hk
  exact ⟨gn, h1, h2, (World.cell?_of_block (Below.heap_setCell W ⟨m0, j, none⟩ v gn (fun e => h2 e.symm))).trans h3⟩
set_option maxRecDepth 100000 in
set_option maxHeartbeats 4000000 in
theorem steps_in (n lp Bl Bs c B N : Nat) (S : Nat → Prop) (ad : Option Addr) (ls : List Ins) (s : Int) (J Jx : List Stp → World → Prop)
    (W : World) (hJ : OwnT 104 W.heap.size J) (hJx : OwnT 104 W.heap.size Jx)
    (hY : ∀ pre (x : Stp) W, J pre W → pre.length < 33 → YieldAt Fence.wide (n - 1) Tryd.prog lp (yst x) W fun e W' =>
      (e = .returned (.bool true) ∧ J (pre ++ [x]) W' ∧ KT S TY W W') ∨ (e = .returned (.bool false) ∧ Jx (pre ++ [x]) W'))
    (hBl : Boxed W Bl 56 (.slice ad N c)) (hBs : Boxed W Bs 3 (.int .i64 s)) (hR : RwI W B ad ls) (hN : N = ls.length) (hNc : N ≤ c) (hc : c ≤ 9223372036854775807) (hok : ∀ x ∈ ls, InsOk x) (hs : J64 s) (hT : TabB W)
    (hS : ∀ k, k < B → S k) (hSl : S Bl) (hSs : S Bs) (hSt : S 0) (h0 : J [] W) :
    CallsIn Fence.wide n Tryd.prog 52 #[.func (.yield lp) #[] #[], .pointer (some ⟨Bl, 0, none⟩), .pointer (some ⟨Bs, 0, none⟩)] W (StepsPost ls s J Jx) := by
  have HJO := hid hJ
  have HJXO := hid hJx
  have HY := hid hY
  have H0 := hid h0
  have HR := hid hR
  have HBl := hid hBl
  have HBs := hid hBs
  have HN := hid hN
  have HOK := hid hok
  have HS64 := hid hs
  have HT := hid hT
  have HS := hid hS
  have HSl := hid hSl
  have HSs := hid hSs
  have HSt := hid hSt
  have cl := hBl.cell
  have cs := hBs.cell
  have hcc1 := hNc
  have hcc2 := hc
  clear hJ hJx hY h0 hR hBl hBs hN hok hs hT hS hSl hSs hSt hNc hc
  refine callsIn_of_wp Tryd.func52 rfl trivial ?_ rfl
  simp only [Tryd.ntmps52, List.size_toArray, List.length_cons, List.length_nil, Nat.reduceAdd, Nat.reduceSub, Array.replicate_succ, Array.replicate_zero, List.push_toArray, List.append_toArray, List.nil_append, List.cons_append]
  by_cases hn1 : N < 1 ∨ 32 < N
  · have htn := told_none (s := s) 0 0 (by rw [← HN.out]; exact hn1)
    have HTN := hid htn
    have hy0 := HY.out [] ⟨0, 0, 0, 20⟩ W H0.out (by decide)
    obtain ⟨fn, tmps, assign, body, hy, hRd⟩ := hy0
    dsimp only [yst, stA] at hy
    have HRD := hid hRd
    clear hRd htn
    by_cases hn0 : N < 1
    · have d1 : decide ((N : Int) < 1) = true := by simp; omega
      have HN0 := hid hn0
      clear hn0 hn1
      refine wpIn_scope ?_
      gi_wp2
      refine ⟨(fun h => by cases h), HRD.out.mono ?_⟩
      rintro e7 W7 (⟨rfl, hJ7, hk7⟩ | ⟨rfl, hJx7⟩)
      · have J7 := hid hJ7
        clear hJ7 hk7 hy
        gi_wp2
        refine bodyPost_ret (results_none rfl _ _ _) rfl ?_
        exact ⟨⟨_, rfl⟩, .inl ⟨_, HTN.out, J7.out⟩⟩
      · have J7 := hid hJx7
        clear hJx7 hy
        gi_wp2
        refine bodyPost_ret (results_none rfl _ _ _) rfl ?_
        exact ⟨⟨_, rfl⟩, .inr ⟨_, ⟨_, HTN.out, List.prefix_rfl⟩, J7.out⟩⟩
    · have d1 : decide ((N : Int) < 1) = false := by simp; omega
      have d2 : decide (32 < (N : Int)) = true := by simp; omega
      have HN0 := hid hn0
      clear hn0 hn1
      refine wpIn_scope ?_
      gi_wp2
      refine ⟨(fun h => by cases h), HRD.out.mono ?_⟩
      rintro e7 W7 (⟨rfl, hJ7, hk7⟩ | ⟨rfl, hJx7⟩)
      · have J7 := hid hJ7
        clear hJ7 hk7 hy
        gi_wp2
        refine bodyPost_ret (results_none rfl _ _ _) rfl ?_
        exact ⟨⟨_, rfl⟩, .inl ⟨_, HTN.out, J7.out⟩⟩
      · have J7 := hid hJx7
        clear hJx7 hy
        gi_wp2
        refine bodyPost_ret (results_none rfl _ _ _) rfl ?_
        exact ⟨⟨_, rfl⟩, .inr ⟨_, ⟨_, HTN.out, List.prefix_rfl⟩, J7.out⟩⟩
  · have d1 : decide ((N : Int) < 1) = false := by simp; omega
    have d2 : decide (32 < (N : Int)) = false := by simp; omega
    have hNN : 1 ≤ N ∧ N ≤ 32 := by omega
    clear hn1
    refine wpIn_scope ?_
    gi_wp2
    change _ ∧ _ ∧ CallsIn _ _ _ _ _ (W.alloc (.cells (metA fun _ => 0) 104)) _
    obtain ⟨m0, hm0⟩ : ∃ m0, m0 = W.heap.size := ⟨_, rfl⟩
    obtain ⟨W1, hW1⟩ : ∃ W1, W1 = W.alloc (.cells (metA fun _ => 0) 104) := ⟨_, rfl⟩
    have hB1 : Below W.heap.size W W1 := by rw [hW1]; exact (Below.refl _ _).alloc (Nat.le_refl _) _
    have hm1 : MetB W1 m0 (fun _ => 0) := by rw [hW1, hm0]; exact heap_alloc_new _ _
    have hJ1 := HJO.out.on H0.out hB1
    rw [← hW1, ← hm0]
    have c0 : W1.cell? ⟨m0, 0, none⟩ = some (.int .u16 0) := hm1.cell (j := 0) (by decide)
    have f0 := hm1.frozen 0
    have hJ2 := HJO.out.set (j := 0) (v := .int .u16 1) hJ1 (by omega) hm1
    have hm2 := hm1.set (j := 0) (by decide) 1
    have hB2 := (hB1.setCell (p := ⟨m0, 0, none⟩) (by show W.heap.size ≤ m0; omega) (.int .u16 1))
    obtain ⟨W2, hW2⟩ : ∃ W2, W2 = W1.setCell ⟨m0, 0, none⟩ (.int .u16 1) := ⟨_, rfl⟩
    have hm2' : MetB W2 m0 (fun j => maskP ls s [] j 0) := by rw [hW2]; exact hm2
    rw [← hW2] at hB2 hJ2
    have hk2 : KT S TY W W2 := KT.below hB2
    have cl2 := hk2.cell (p := ⟨Bl, 0, none⟩) HSl.out cl
    have HJ2 := hid hJ2
    have HM2 := hid hm2'
    have HK2 := hid hk2
    have HM0 := hid hm0
    have HW2 := hid hW2
    clear hB1 hm1 hJ1 hJ2 hm2 hm2' hk2 hB2 hW1 hm0 hW2 cl cs
    refine ⟨trivial, (fun h => by cases h), (callsIn_wide.2 (with_any 0 0 (by decide) (by decide) _)).mono ?_⟩
    rintro e w' ⟨rfl, rfl⟩
    gi_wp2
    rw [← HW2.out]
    refine wpIn_label ?_
    clear c0 f0
    obtain ⟨b, o, rfl, hb⟩ := HR.out.at_ (by have := HN.out; omega)
    have HBb := hid hb
    have HSI := hid (show SI S W J m0 [] (fun j => maskP ls s [] j 0) W2 from ⟨HJ2.out, HM2.out, HK2.out⟩)
    clear HJ2 HM2 HK2 hb
    gi_wp2
    gi_loopw [29] (fun p wr => ∃ (i : Nat) (hs : List Int), i ≤ N ∧ p = .int .i64 i ∧ RowKit.Hid (runP ls s i = (hs, none)) ∧ RowKit.Hid (SI S W J m0 (goodL ls s hs) (fun j => maskP ls s hs j i) wr)) (fun p _ => N - (intOf p).toNat)
    case atStart => exact ⟨0, [], by omega, rfl, hid rfl, HSI⟩
    case round =>
      obtain ⟨i, hs, hi, rfl, HRUN, HI⟩ := hrel
      clear HSI HW2
      by_cases hiN : i < N
      · have hx : ls[i]? = some ls[i] := List.getElem?_eq_getElem (by rw [← HN.out]; exact hiN)
        have hxm := HOK.out ls[i] (List.getElem_mem _)
        generalize ls[i] = x at hx hxm
        have HX := hid hx
        have HXOK := hid hxm
        have hrw := HR.out.kt HI.out.k HS.out
        have hat := hrw.rows b o rfl i x hx
        have HAT := hid hat
        obtain ⟨w3, hw3⟩ : ∃ w3, w3 = wr.alloc (.cells (insA x) 61) := ⟨_, rfl⟩
        obtain ⟨bx, hbx⟩ : ∃ bx, bx = wr.heap.size := ⟨_, rfl⟩
        have hb3 : Below wr.heap.size wr w3 := by rw [hw3]; exact (Below.refl _ _).alloc (Nat.le_refl _) _
        have hx3 : InI w3 bx x := by rw [hw3, hbx]; exact heap_alloc_new _ _
        have HI3 := hid (HI.out.on HJO.out hb3)
        have HX3 := hid hx3
        have HW3 := hid hw3
        have HBX := hid hbx
        clear hx hxm hrw hat hw3 hbx hb3 hx3
        gi_wp2_with (first | ((with_reducible refine AI.at_opI ⟨some 33, _, _, _, _, _⟩ ?_); refine AI.wpListIn_run rfl (.agg #[.int .i64 x.op, .int .i64 x.a, .int .i64 x.b]) wr (load_ia rfl rfl HAT.out) ?_) | fail)
        change _ ∧ _ ∧ CallsIn _ _ _ _ _ (wr.alloc (.cells (insA x) 61)) _
        rw [← HW3.out, ← HBX.out]
        refine ⟨trivial, (fun h => by cases h), (callsIn_wide.2 (rows_any w3)).mono ?_⟩
        rintro e w4 ⟨rfl, hb4⟩
        have HI4 := hid (HI3.out.on HJO.out hb4)
        have HX4 := hid (HX3.out.on hb4)
        clear hb4 HI3 HX3 HW3 HBX HI HAT
        gi_wp2
        gi_loopw [35] (fun p wr => ∃ q : Nat, q ≤ 11 ∧ p = .int .i64 q ∧ RowKit.Hid (∀ r ∈ rowL.take q, r.op ≠ x.op) ∧ RowKit.Hid (SI S W J m0 (goodL ls s hs) (fun j => maskP ls s hs j i) wr) ∧ RowKit.Hid (InI wr bx x)) (fun p _ => 11 - (intOf p).toNat)
        case atStart => exact ⟨0, by omega, rfl, hid (by simp), HI4, HX4⟩
        case round =>
          obtain ⟨q, hq, rfl, HQ, HIq, HXq⟩ := hrel
          clear HI4 HX4
          by_cases hq11 : q < 11
          · have hr : rowL[q]? = some (rowL[q]'(by show q < 11; exact hq11)) := List.getElem?_eq_getElem _
            have hrm := List.mem_of_getElem? hr
            generalize rowL[q]'(by show q < 11; exact hq11) = r at hr hrm
            have HRq := hid hr
            have HRm := hid hrm
            obtain ⟨w5, hw5⟩ : ∃ w5, w5 = wr.alloc (.cells (rwA r) 107) := ⟨_, rfl⟩
            obtain ⟨br, hbr⟩ : ∃ br, br = wr.heap.size := ⟨_, rfl⟩
            have hb5 : Below wr.heap.size wr w5 := by rw [hw5]; exact (Below.refl _ _).alloc (Nat.le_refl _) _
            have hr5 : RwB w5 br r := by rw [hw5, hbr]; exact heap_alloc_new _ _
            have HI5 := hid (HIq.out.on HJO.out hb5)
            have HX5 := hid (HXq.out.on hb5)
            have HR5 := hid hr5
            have HW5 := hid hw5
            have HBR := hid hbr
            have HB5 := hid hb5
            have hcx := (HX5.out).c0
            rw [hw5] at hcx
            have cx : (wr.alloc (.cells #[.int .i64 r.op, .int .i64 r.a, .int .i64 r.b, .int .i64 r.takes, .int .i64 r.lays] 107)).cell? ⟨bx, 0, none⟩ = some (.int .i64 x.op) := hcx
            clear hr hrm hw5 hbr hb5 hr5 hcx
            by_cases ho : r.op = x.op
            case neg =>
              have d0 : (r.op != x.op) = true := by simpa using ho
              have HO := hid ho
              clear ho
              gi_wp2_with (first | ((with_reducible refine AI.at_opI ⟨some 37, _, _, _, _, _⟩ ?_); refine AI.wpListIn_run rfl (.agg #[.int .i64 r.op, .int .i64 r.a, .int .i64 r.b, .int .i64 r.takes, .int .i64 r.lays]) wr (exec_index_row rfl rfl rfl HRq.out) ?_) | fail)
              go_roundw
              case rel =>
                refine ⟨q + 1, by omega, by go_num, hid (fun r' hr' => ?_), ?_, ?_⟩
                · rw [List.take_add_one, HRq.out] at hr'
                  rcases List.mem_append.1 hr' with hr' | hr'
                  · exact HQ.out r' hr'
                  · simp only [Option.toList_some, List.mem_singleton] at hr'; subst hr'; exact HO.out
                · first | exact HI5 | (have := HI5.out; rw [HW5.out] at this; exact hid this)
                · first | exact HX5 | (have := HX5.out; rw [HW5.out] at this; exact hid this)
              case measure => simp [intOf]; omega
            have d0 : (r.op != x.op) = false := by simpa using ho
            have HO := hid ho
            clear ho
            gi_wp2_with (first | ((with_reducible refine AI.at_opI ⟨some 37, _, _, _, _, _⟩ ?_); refine AI.wpListIn_run rfl (.agg #[.int .i64 r.op, .int .i64 r.a, .int .i64 r.b, .int .i64 r.takes, .int .i64 r.lays]) wr (exec_index_row rfl rfl rfl HRq.out) ?_) | fail)
            clear cx d0
            change Code.wpIn _ _ _ _ _ _ (wr.alloc (.cells (rwA r) 107))
            rw [← HW5.out, ← HBR.out]
            clear HW5 HBR HB5 HQ
            obtain ⟨m, hm⟩ : ∃ m, m = maskP ls s hs i i := ⟨_, rfl⟩
            have hmlt : m < 512 := by rw [hm]; exact (mask_now HRUN.out (by rw [← HN.out]; exact hi) i i (Nat.le_refl _)).1
            have hS5 : S11 w5 m0 bx br Bl Bs x r (.slice (some ⟨b, o, none⟩) N c) s i m w5 := by
              refine ⟨Below.refl _ _, HR5.out, HX5.out, HI5.out.k.cell HSs.out HBs.out.cell, HI5.out.k.cell HSl.out HBl.out.cell, ?_, HI5.out.k.tab HSt.out HT.out⟩
              have := HI5.out.m.cell (j := i) (by omega)
              rw [hm]; exact this
            have hWHY := step_why HRUN.out (by rw [← HN.out]; exact hiN) HX.out HRm.out HO.out.symm hm
            obtain ⟨q1, q2, q3, q4⟩ := rowL_ok r HRm.out
            have hst := fun W (hS : S11 w5 m0 bx br Bl Bs x r (.slice (some ⟨b, o, none⟩) N c) s i m W) => stepOf_any r x s ((N : Int) - i - 1) m hmlt W hS.tab q1 q2 q3 q4
            rw [← HN.out] at hWHY
            obtain ⟨h, hh⟩ : ∃ v, v = (onlyP m).1 := ⟨_, rfl⟩
            obtain ⟨bh, hbh⟩ : ∃ v, v = (onlyP m).1 - r.takes + r.lays := ⟨_, rfl⟩
            obtain ⟨e, he⟩ : ∃ v, v = whyP r x s (onlyP m).2 (onlyP m).1 ((N : Int) - i - 1) := ⟨_, rfl⟩
            rw [← he, ← hbh, ← hh] at hWHY
            rw [← he, ← hbh, ← hh] at hst
            have HST := hid hst
            have HWHY := hid hWHY
            have HS5 := hid hS5
            have HM := hid hm
            have wr1 : IntKind.i64.wrap ((N : Int) - i) = (N : Int) - i := IntWalk.i64_in _ (by omega)
            have wr2 : IntKind.i64.wrap ((N : Int) - i - 1) = (N : Int) - i - 1 := IntWalk.i64_in _ (by omega)
            have hi32 : i < 32 := by omega
            clear hst hWHY hS5 hm hmlt hh hbh he q1 q2 q3 q4
            refine AI.wp_region_new' 12 _ _ rfl (S11 w5 m0 bx br Bl Bs x r (.slice (some ⟨b, o, none⟩) N c) s i m) (fun g W' => W'.heap[g]? = some (.cells (stA 0 0 0) 94 (0, 0)) ∧ w5.heap.size ≤ g) (by kernel_rfl) (by kernel_rfl) rfl rfl (HS5.out.on (Below.refl _ _).drew) ?hT ?hal ?_
            case hT => exact fun g W W' hh hF => ⟨(hF.block g (Array.getElem?_eq_some_iff.1 hh.1).1 (fun h => h)).trans hh.1, hh.2⟩
            case hal =>
              intro a W' hS
              refine ⟨W'.alloc (.cells (stA 0 0 0) 94), ?_, hS.on ((Below.refl _ _).alloc (Nat.le_refl _) _), heap_alloc_new _ _, hS.b.size⟩
              go_simp
              rfl
            simp only [List.take_succ_cons, List.take_zero]
            repeat (first
              | ((with_reducible refine A.atS ⟨some 43, _, _, _, _, _⟩ ?_); refine A.wpSure_read (.agg (rwA r)) rfl (fun W hS => AI.exec_load_row 107 _ rfl br rfl 107 _ _ _ hS.r_ Tryd.underlying107 rfl (rwA_size r)) ?_; simp only [Act.put, List.setIfInBounds_toArray, List.set_cons_zero, List.set_cons_succ])
              | ((with_reducible refine A.atS ⟨some 44, _, _, _, _, _⟩ ?_); refine A.wpSure_read (.agg (insA x)) rfl (fun W hS => AI.exec_load_row 61 _ rfl bx rfl 61 _ _ _ hS.x_ Tryd.underlying61 rfl (insA_size x)) ?_; simp only [Act.put, List.setIfInBounds_toArray, List.set_cons_zero, List.set_cons_succ])
              | ((with_reducible refine A.atS ⟨some 54, _, _, _, _, _⟩ ?_); refine A.wpSure_call _ _ _ rfl ?_ (fun W hS => HST.out W hS) (fun W W' hS hB => hS.on hB) ?_; (solve | (intro W; go_simp)); simp only [Act.put, List.setIfInBounds_toArray, List.set_cons_zero, List.set_cons_succ])
              | ((with_reducible refine A.atS ⟨some 47, _, _, _, _, _⟩ ?_); refine A.wpSure_value (.pointer (some ⟨m0, i, none⟩)) rfl (fun W => by go_simp; intro hh; exfalso; omega) ?_; simp only [Act.put, List.setIfInBounds_toArray, List.set_cons_zero, List.set_cons_succ])
              | (refine' A.wpSure_value _ rfl _ _; rotate_left; (solve | (intro W; go_simp) | (intro W; go_simp; with_reducible rfl)); simp only [Act.put, List.setIfInBounds_toArray, List.set_cons_zero, List.set_cons_succ])
              | (refine' A.wpSure_read _ rfl _ _; rotate_left; (solve | (intro W hS; have k1 := hS.cs; have k2 := hS.cl; have k3 := hS.cm; clear hS; go_simp) | (intro W hS; have k1 := hS.cs; have k2 := hS.cl; have k3 := hS.cm; clear hS; go_simp; with_reducible rfl)); simp only [Act.put, List.setIfInBounds_toArray, List.set_cons_zero, List.set_cons_succ]))
            refine A.wpSure_end ?_
            intro g W' hS hg
            obtain ⟨W6, hW6⟩ : ∃ W6, W6 = W'.setRow g (stA h bh e) := ⟨_, rfl⟩
            have hb6 : Below w5.heap.size w5 W6 := by rw [hW6]; exact below_setRow hS.b _ _ hg.2
            have hg6 : W6.heap[g]? = some (.cells (stA h bh e) 94 (0, 0)) := by rw [hW6]; exact setRow_heap _ _ _ _ _ _ hg.1
            have hmg : m0 < g := Nat.lt_of_lt_of_le (Array.getElem?_eq_some_iff.1 HI5.out.m).1 hg.2
            have HI6 := hid (HI5.out.on HJO.out hb6)
            have HX6 := hid (HX5.out.on hb6)
            have HG6 := hid hg6
            have HW6 := hid hW6
            have hy0 := HY.out (goodL ls s hs) ⟨i, h, bh, e⟩ W6 HI6.out.j (by rw [good_len, (run_small i HRUN.out (by rw [← HN.out]; omega)).1]; omega)
            obtain ⟨fn, tmps, assign, body, hy, hRd⟩ := hy0
            dsimp only [yst] at hy
            have HRD := hid hRd
            refine AI.wpListIn_skipW rfl W6 (by rw [HW6.out]; exact exec_store_row 94 _ _ rfl g (stA h bh e) rfl rfl 94 (stA 0 0 0) hg.1 (stA_size h bh e) rfl (stA_one _ _ _)) ?_
            clear HW6 hW6 hb6 hg6 hg hS HI5 HX5 HR5 HS5 HST hRd W'
            simp only [Act.put, List.setIfInBounds_toArray, List.set_cons_zero, List.set_cons_succ]
            gi_wp2_with (first | ((with_reducible refine AI.at_opI ⟨some 57, _, _, _, _, _⟩ ?_); refine AI.wpListIn_run rfl (.agg (stA h bh e)) W6 (AI.exec_load_row 94 _ rfl g rfl 94 _ _ _ HG6.out Tryd.underlying94 rfl (stA_size h bh e)) ?_) | fail)
            refine ⟨(fun h => by cases h), HRD.out.mono ?_⟩
            rintro e7 W7 (⟨rfl, hJ7, hk7⟩ | ⟨rfl, hJx7⟩)
            · have hg7 := hk7 g _ _ _ (.inr (.inr (.inr rfl))) HG6.out
              have HX7 : RowKit.Hid (InI W7 bx x) := hid (hk7 bx _ _ _ (.inr (.inr (.inl rfl))) HX6.out)
              have HI7 : RowKit.Hid (SI S W J m0 (goodL ls s hs ++ [⟨i, h, bh, e⟩]) (fun j => maskP ls s hs j i) W7) := hid ⟨hJ7, hk7 m0 _ _ _ (.inr (.inl rfl)) HI6.out.m, HI6.out.k.t hk7⟩
              have s2 : W7.cell? ⟨g, 2, none⟩ = some (.int .i64 e) := by simp [World.cell?, hg7, stA]
              have HG7 := hid hg7
              clear hJ7 hk7 hg7 HG6 HX6 HI6 HRD hy
              by_cases he0 : e = 0
              · subst he0
                obtain ⟨hw1, hw2⟩ := HWHY.out
                obtain ⟨rfl, rfl⟩ := hw2 hw1.symm
                have hst0 := hw1.symm
                obtain ⟨q7, q11⟩ := step_right HX.out hst0
                rw [← HN.out] at q7 q11
                have hnl := next_lt q7 q11
                have hrg := run_go HRUN.out hst0
                have hsm := (run_small (i + 1) hrg (by rw [← HN.out]; omega)).2 i (by omega) x HX.out
                have hlen := (run_small i HRUN.out (by rw [← HN.out]; omega)).1
                have hg := good_app (ls := ls) (s := s) (h := hs) (v := (stepE ls s hs i).2) (x := x) (by rw [hlen]; exact HX.out)
                rw [hlen] at hg
                obtain ⟨v, hv⟩ : ∃ v, v = (stepE ls s hs i).2 := ⟨_, rfl⟩
                rw [← hv] at hrg hsm hg HI7 HG7
                have hms := mask_step (s := s) (v := v) hlen HX.out (fun hh => (q7 hh).1)
                have hl9 : (leftP x s v).toNat < 9 := by
                  have hx1 : (hs ++ [v]).getD i 0 = v := by rw [← hlen]; exact getD_end _ _
                  rw [hx1] at hsm
                  omega
                have hl9' : 0 ≤ leftP x s v := by
                  have hx1 : (hs ++ [v]).getD i 0 = v := by rw [← hlen]; exact getD_end _ _
                  rw [hx1] at hsm
                  exact hsm.2.2.1
                rw [← hg] at HI7
                have hnx := next_any i x W7 (by omega) (fun hh => by have := q7 hh; omega)
                rw [next_k i x (fun hh => (q7 hh).1)] at hnx
                obtain ⟨L, hL⟩ : ∃ L, L = nextK i x := ⟨_, rfl⟩
                obtain ⟨bv, hbv⟩ : ∃ u, u = leftP x s v := ⟨_, rfl⟩
                rw [← hbv] at hms hl9 hl9' HG7
                rw [← hL] at hnx hms hnl
                have hLl : L.length ≤ 2 := by rw [hL]; exact nextK_len i x
                clear hbv
                obtain ⟨kb, rfl⟩ := Int.eq_ofNat_of_zero_le hl9'
                rw [Int.toNat_natCast] at hl9 hms
                have HNX := hid hnx
                have HMS := hid hms
                have HNL := hid hnl
                have HRG := hid hrg
                have HL9 := hid hl9
                have hm07 := (Array.getElem?_eq_some_iff.1 HI7.out.m).1
                have hg07 := (Array.getElem?_eq_some_iff.1 HG7.out).1
                have HMG := hid hmg
                clear hw1 hw2 HWHY hst0 q7 q11 hlen hg hsm hv hms hl9 hl9' hnx hL hnl hrg hmg
                gi_wp2_with (first | ((with_reducible refine AI.at_opI ⟨some 66, _, _, _, _, _⟩ ?_); refine AI.wpListIn_run rfl (.agg (insA x)) W7 (AI.exec_load_row 61 _ rfl bx rfl 61 _ _ _ HX7.out Tryd.underlying61 rfl (insA_size x)) ?_) | fail)
                refine ⟨trivial, (fun h => by cases h), (callsIn_wide.2 HNX.out).mono ?_⟩
                rintro e w8 ⟨an, cn, rfl, hEI⟩
                have HI8 := hid (HI7.out.on HJO.out hEI.2.1)
                have HG8 := hid ((hEI.2.1.block _ hg07).trans HG7.out)
                have HN8 := hid (NxT.of hEI hm07)
                clear hm07 hg07 hEI HNX HI7 HX7 HG7
                have e1 : (List.map Int.ofNat L).length = L.length := List.length_map _
                rw [e1]
                clear e1
                gi_wp2
                gi_loopw [69] (fun p wr => ∃ q : Nat, q ≤ L.length ∧ p = .int .i64 q ∧ RowKit.Hid (SI S W J m0 (goodL ls s (hs ++ [v])) ((L.take q).foldl (updM kb) (fun j => maskP ls s hs j i)) wr) ∧ RowKit.Hid (wr.heap[g]? = some (.cells (stA v kb 0) 94 (0, 0))) ∧ RowKit.Hid (NxT m0 an L wr)) (fun p _ => L.length - (intOf p).toNat)
                case atStart => exact ⟨0, by omega, rfl, HI8, HG8, HN8⟩
                case round =>
                  obtain ⟨q, hq, rfl, HIr, HGr, HNr⟩ := hrel
                  clear HI8 HG8 HN8
                  by_cases hqL : q < L.length
                  · obtain ⟨gn, rfl, hgn, hcn⟩ := HNr.out q hqL
                    obtain ⟨t, hte⟩ : ∃ t, t = L.getD q 0 := ⟨_, rfl⟩
                    have hLq : L[q]? = some t := by rw [hte, List.getD_eq_getElem?_getD, List.getElem?_eq_getElem hqL]; rfl
                    have ht := HNL.out t (List.mem_of_getElem? hLq)
                    rw [← hte] at hcn
                    have ht32 : t < 32 := by omega
                    have hup := List.foldl_append (f := updM kb) (b := fun j => maskP ls s hs j i) (l := L.take q) (l' := [t])
                    rw [show L.take q ++ [t] = L.take (q + 1) by rw [List.take_add_one, hLq]; rfl, List.foldl_cons, List.foldl_nil] at hup
                    have hlt := upd_lt HL9.out (L.take q) (f := fun j => maskP ls s hs j i) (fun j => (mask_now HRUN.out (by rw [← HN.out]; exact hi) j i (Nat.le_refl _)).1) t
                    obtain ⟨F, hF⟩ : ∃ F, F = (L.take q).foldl (updM kb) (fun j => maskP ls s hs j i) := ⟨_, rfl⟩
                    rw [← hF] at hup hlt HIr
                    obtain ⟨m, hm⟩ : ∃ m, m = F t := ⟨_, rfl⟩
                    rw [← hm] at hlt
                    have cm : wr.cell? ⟨m0, t, none⟩ = some (.int .u16 m) := by rw [hm]; exact HIr.out.m.cell ht32
                    have fm := HIr.out.m.frozen t
                    have cb : wr.cell? ⟨g, 1, none⟩ = some (.int .i64 kb) := by simp [World.cell?, HGr.out, stA]
                    have HUP := hid hup
                    have HF := hid hm
                    have hwa := fun w => with_any m kb hlt HL9.out w
                    have HWA := hid hwa
                    have HMLT := hid hlt
                    clear hup hte hLq ht hF hm hlt hwa
                    gi_wp2
                    refine G.wp_region_mix [0, 0, 0, 1, 0, 1, 2, 0, 3] (fun W => W.cell? ⟨m0, t, none⟩ = some (.int .u16 m) ∧ W.cell? ⟨g, 1, none⟩ = some (.int .i64 kb)) (by kernel_rfl) (by kernel_rfl) ⟨cm, cb⟩ ?_
                    repeat (first
                      | ((with_reducible refine E.atM ⟨some 75, _, _, _, _, _⟩ ?_); refine E.wpMix_value (.pointer (some ⟨m0, t, none⟩)) rfl rfl (fun W => by go_simp; intro hh; exfalso; omega) ?_; simp only [Act.put, List.setIfInBounds_toArray, List.set_cons_zero, List.set_cons_succ])
                      | (refine' E.wpMix_value _ rfl rfl _ _; rotate_left; (solve | (intro W; go_simp) | (intro W; go_simp; with_reducible rfl)); simp only [Act.put, List.setIfInBounds_toArray, List.set_cons_zero, List.set_cons_succ])
                      | (refine' E.wpMix_read _ rfl rfl _ _; rotate_left; (solve | (rintro W ⟨h1, h2⟩; go_simp) | (rintro W ⟨h1, h2⟩; go_simp; with_reducible rfl)); simp only [Act.put, List.setIfInBounds_toArray, List.set_cons_zero, List.set_cons_succ]))
                    refine E.wpMix_call 53 #[.int .u16 m, .int .i64 kb] (by decide) rfl (by go_simp) ?_
                    refine (HWA.out _).mono ?_
                    rintro e w' ⟨rfl, rfl⟩
                    refine ⟨_, rfl, fun _ => ⟨cm, cb⟩, ?_⟩
                    simp only [Act.put, List.setIfInBounds_toArray, List.set_cons_zero, List.set_cons_succ]
                    refine E.wpMix_value (.pointer (some ⟨m0, t, none⟩)) rfl rfl (fun W => by go_simp; intro hh; exfalso; omega) ?_
                    simp only [Act.put, List.setIfInBounds_toArray, List.set_cons_zero, List.set_cons_succ]
                    refine E.wpMix_skip (wr.drew.setCell ⟨m0, t, none⟩ (.int .u16 (m ||| 2 ^ kb : Nat))) (by decide) rfl (by clear cb; go_simp) (fun h => by cases h) ?_
                    simp only [Act.put]
                    refine E.wpMix_end ?_
                    obtain ⟨w9, hw9⟩ : ∃ w9, w9 = wr.drew.setCell ⟨m0, t, none⟩ (.int .u16 (m ||| 2 ^ kb : Nat)) := ⟨_, rfl⟩
                    have HId := HIr.out.on HJO.out (Below.refl _ _).drew
                    have hwm : W.heap.size ≤ m0 := by rw [HM0.out]; exact Nat.le_refl _
                    have hj9 := HJO.out.set (j := t) (v := .int .u16 (m ||| 2 ^ kb : Nat)) HId.j hwm HId.m
                    have hm9 := HId.m.set ht32 (m ||| 2 ^ kb)
                    have hk9 : KT S TY W w9 := fun k cs ty fr hS hk => by
                      rw [hw9]
                      have hkW := (Array.getElem?_eq_some_iff.1 hk).1
                      exact (Below.heap_setCell wr.drew ⟨m0, t, none⟩ _ k (fun (e : k = m0) => by omega)).trans (HId.k k cs ty fr hS hk)
                    have hg9 : w9.heap[g]? = some (.cells (stA v kb 0) 94 (0, 0)) := by
                      rw [hw9]
                      exact (Below.heap_setCell wr.drew ⟨m0, t, none⟩ _ g (fun (e : g = m0) => by have := HMG.out; omega)).trans HGr.out
                    have hn9 : NxT m0 (some ⟨gn, 0, none⟩) L w9 := by
                      rw [hw9]
                      exact NxT.set (W := wr.drew) HNr.out t _
                    have hF9 : (fun j => if j = t then m ||| 2 ^ kb else F j) = (L.take (q + 1)).foldl (updM kb) (fun j => maskP ls s hs j i) := by
                      rw [HUP.out]
                      funext j
                      unfold updM
                      by_cases e : j = t
                      · subst e; rw [if_pos rfl, if_pos rfl, HF.out]
                      · rw [if_neg e, if_neg e]
                    rw [hF9, ← hw9] at hm9
                    rw [← hw9] at hj9 ⊢
                    have HI9 := hid (show SI S W J m0 _ _ w9 from ⟨hj9, hm9, hk9⟩)
                    have HG9 := hid hg9
                    have HN9 := hid hn9
                    clear HId hj9 hm9 hk9 hg9 hn9 hw9 hF9 cm fm cb
                    gi_wp2
                    go_roundw
                    case rel => exact ⟨q + 1, by omega, by go_num, HI9, HG9, HN9⟩
                    case measure => simp [intOf]; omega
                  · obtain rfl : q = L.length := by omega
                    have d5 : decide ((L.length : Int) < (L.length : Int)) = false := by simp
                    rw [List.take_length] at HIr
                    rw [HMS.out] at HIr
                    gi_wp2
                    go_roundw
                    case rel => exact ⟨i + 1, _, by omega, by go_num, HRG, HIr⟩
                    case measure => simp [intOf]; omega
              · have d2 : (e != 0) = true := by simpa using he0
                have HE0 := hid he0
                clear he0
                gi_wp2
                refine bodyPost_ret (results_none rfl _ _ _) rfl ?_
                exact ⟨⟨_, rfl⟩, .inl ⟨_, told_at h bh HRUN.out (by rw [← HN.out]; exact hiN) (by rw [← HN.out]; exact hNN.2) HWHY.out.1 HE0.out, HI7.out.j⟩⟩
            · have J7 := hid hJx7
              clear hJx7
              gi_wp2
              refine bodyPost_ret (results_none rfl _ _ _) rfl ?_
              refine ⟨⟨_, rfl⟩, .inr ⟨_, ?_, J7.out⟩⟩
              obtain ⟨hw1, hw2⟩ := HWHY.out
              by_cases he0 : e = 0
              · subst he0
                obtain ⟨rfl, rfl⟩ := hw2 hw1.symm
                have hlen := (run_small i HRUN.out (by rw [← HN.out]; omega)).1
                have hg := good_app (ls := ls) (s := s) (h := hs) (v := (stepE ls s hs i).2) (x := x) (by rw [hlen]; exact HX.out)
                rw [hlen] at hg
                rw [← hg]
                exact told_to (run_go HRUN.out hw1.symm) (by rw [← HN.out]; omega) (by rw [← HN.out]; exact hNN.1) (by rw [← HN.out]; exact hNN.2)
              · exact ⟨_, told_at h bh HRUN.out (by rw [← HN.out]; exact hiN) (by rw [← HN.out]; exact hNN.2) hw1 he0, List.prefix_rfl⟩
          · obtain rfl : q = 11 := by omega
            have hnn := step_none (s := s) (h := hs) HX.out HQ.out
            have HNN := hid hnn
            have hy0 := HY.out (goodL ls s hs) ⟨i, 0, 0, 5⟩ wr HIq.out.j (by rw [good_len, (run_small i HRUN.out (by rw [← HN.out]; omega)).1]; omega)
            obtain ⟨fn, tmps, assign, body, hy, hRd⟩ := hy0
            dsimp only [yst, stA] at hy
            have HRD := hid hRd
            clear hRd hnn HQ
            gi_wp2
            refine ⟨(fun h => by cases h), HRD.out.mono ?_⟩
            rintro e7 W7 (⟨rfl, hJ7, hk7⟩ | ⟨rfl, hJx7⟩)
            · have J7 := hid hJ7
              clear hJ7 hk7 hy
              gi_wp2
              refine bodyPost_ret (results_none rfl _ _ _) rfl ?_
              exact ⟨⟨_, rfl⟩, .inl ⟨_, told_at 0 0 HRUN.out (by rw [← HN.out]; exact hiN) (by rw [← HN.out]; exact hNN.2) HNN.out.symm (by decide), J7.out⟩⟩
            · have J7 := hid hJx7
              clear hJx7 hy
              gi_wp2
              refine bodyPost_ret (results_none rfl _ _ _) rfl ?_
              exact ⟨⟨_, rfl⟩, .inr ⟨_, ⟨_, told_at 0 0 HRUN.out (by rw [← HN.out]; exact hiN) (by rw [← HN.out]; exact hNN.2) HNN.out.symm (by decide), List.prefix_rfl⟩, J7.out⟩⟩
      · have hiN2 : i = N := by omega
        subst hiN2
        have d5 : decide ((i : Int) < (i : Int)) = false := by simp
        have hta := told_all (ls := ls) (s := s) (h := hs) (by rw [← HN.out]; exact HRUN.out) (by rw [← HN.out]; exact hNN.1) (by rw [← HN.out]; exact hNN.2)
        have HTA := hid hta
        clear hta
        gi_wp2
        show bodyPost _ _ _ .normal _ _
        refine bodyPost_end (results_none rfl _ _ _) rfl ?_
        exact ⟨⟨_, rfl⟩, .inl ⟨_, HTA.out, HI.out.j⟩⟩
end Go.Proofs.YtgfimkeopohjaaaDoor

namespace Go.Proofs.YtgfimkeopohjaaaDoor.R
open Go Go.Proofs.YtgfimkeopohjaaaDoor Go.Proofs.YtgfimkeopohjaaaDoor.D

/-- No defer statement. -/
def noDefB (o : Oper) : Bool := match o.op with | .defer _ => false | _ => true
section
variable {P : Program} {ops : Array Oper} {md : Region.Mode} {S : World → Prop} {ks : List Nat} {n : Nat}

theorem wpAny_of_mix {Q : Act → World → Prop} {Q' : Exit → Act → World → Prop} {L : Nat} (hnd : ∀ (i : Nat) (o : Oper), ops[i]? = some o → ∀ c, o.op ≠ .defer c) (hk : kindsT md ops ks = true) (hl : lateB ops ks = true) (hQ : ∀ a w, Q a w → Q' .normal a w) : ∀ (fuel : Nat) (listed : Array Bool) (a : Act) (w : World),
    Closed md ops listed → (Loads ops ks listed → S w) → E.wpAnyM n P md ops S ks Q fuel listed a w → wpAnyIn (Fence.wide.inRound L) n P md ops Q' fuel listed a w
  | 0, _, _, _, _, _, h => ⟨h.1, hQ _ _ h.2⟩
  | fuel + 1, listed, a, w, hcl, hS, h => ⟨fun h0 => hQ _ _ (h.1 h0), fun i hi => by
      have h2 := h.2 i hi
      obtain ⟨hun, o, ho, hall⟩ := mem_ready.1 hi
      have hil : i < ops.size := (Array.getElem?_eq_some_iff.1 ho).1
      unfold E.mixOp at h2
      unfold wpOpIn
      simp only [ho] at h2 ⊢
      by_cases hr : ks.getD i 0 < 2
      · rw [if_pos hr] at h2
        obtain ⟨v, ⟨hw, hy⟩ | ⟨hw, rfl⟩, hK⟩ := h2
        · rw [if_pos hw]
          refine ⟨fun _ _ => trivial, ?_⟩
          show o.uponIn (Fence.wide.inRound L) n P a _ _ ((o.semAt (some L) a.eval).run P w)
          rw [Oper.semAt_some L _ o (hnd i o ho)]
          rcases hy w (fun e => hS ⟨i, hil, e, hun⟩) with hv | ⟨hv, rfl⟩
          · rw [hv]; exact wpAny_of_mix hnd hk hl hQ fuel _ _ _ (hcl.set hi) (fun hm => hS hm.less) hK
          · rw [hv]; exact wpAny_of_mix hnd hk hl hQ fuel _ _ _ (hcl.set hi) (fun hm => hS hm.less) hK
        · rw [if_neg (by rw [hw]; decide)]
          exact ⟨fun _ _ => trivial, wpAny_of_mix hnd hk hl hQ fuel _ _ _ (hcl.set hi) (fun hm => hS hm.less) hK⟩
      · rw [if_neg hr] at h2
        obtain ⟨hw, h2⟩ := h2
        have hS' : ∀ w', (ks.getD i 0 = 2 → S w') → Loads ops ks (listed.setIfInBounds i true) → S w' := fun w' hSw hm => by
          by_cases e2 : ks.getD i 0 = 2
          · exact hSw e2
          · obtain ⟨j, h1, h2, h3⟩ := hm
            have hji : i ≠ j := fun e => by subst e; omega
            have hun2 : listed.getD j true = false := by rw [getD_set_ne true hji] at h3; exact h3
            rcases Nat.lt_or_ge i j with hlt | hge
            · exact absurd h2 (late_no hl hil h1 hlt (by omega))
            · exact (listed_not (waitsN_listed hcl 8 i o ho hall (kindsT_waits (i := j) (j := i) hk hil (by omega) (.inr ⟨h2, by omega⟩))) hun2).elim
        rw [if_pos hw]
        refine ⟨fun _ _ => trivial, ?_⟩
        show o.uponIn (Fence.wide.inRound L) n P a _ _ ((o.semAt (some L) a.eval).run P w)
        rw [Oper.semAt_some L _ o (hnd i o ho)]
        rcases h2 with ⟨v, w', hv, hSw, hK⟩ | ⟨w', hv, hSw, hK⟩ | ⟨f, args, w1, hv, hc⟩ | ⟨l, f, tmps, assign, body, w1, hv, hc⟩
        · rw [hv]; exact wpAny_of_mix hnd hk hl hQ fuel _ _ _ (hcl.set hi) (hS' _ hSw) hK
        · rw [hv]; exact wpAny_of_mix hnd hk hl hQ fuel _ _ _ (hcl.set hi) (hS' _ hSw) hK
        · rw [hv]
          exact ⟨(fun h => by cases h), CallsIn.inRound L (callsIn_wide.2 (hc.mono fun e w'' ⟨v, he, hSw, hK⟩ => by subst he; exact wpAny_of_mix hnd hk hl hQ fuel _ _ _ (hcl.set hi) (hS' _ hSw) hK))⟩
        · rw [hv]
          exact ⟨(fun h => by cases h), hc.mono fun e w'' ⟨v, he, hSw, hK⟩ => by subst he; exact wpAny_of_mix hnd hk hl hQ fuel _ _ _ (hcl.set hi) (hS' _ hSw) hK⟩⟩

/-- THE LAW. -/
theorem wp_region_mix {id : Nat} {Q : Exit → Act → World → Prop} {a : Act} {w : World} {l : List Oper} (ks : List Nat) (S : World → Prop) (hm : P.follows .mixedOrders = true)
    {L : Nat} (hB : (l.all noDefB && Region.lexB .any l.toArray && kindsT .any l.toArray ks && lateB l.toArray ks) = true) (hS : S w.drew)
    (h : E.wpMix n P l.toArray S ks (Q .normal) 0 l a w.drew) : (Code.region id l.toArray true).wpIn (Fence.wide.inRound L) n P Q a w := by
  simp only [Region.lexB, Bool.and_eq_true] at hB
  have hnd : ∀ (i : Nat) (o : Oper), l.toArray[i]? = some o → ∀ c, o.op ≠ .defer c := fun i o ho c e => by
    have h1 := List.all_eq_true.1 hB.1.1.1 o (List.mem_of_getElem? (by simpa using ho))
    simp [noDefB, e] at h1
  have hc0 : Closed .any l.toArray (Array.replicate l.toArray.size false) := fun m om _ hl => by
    exfalso
    rcases Nat.lt_or_ge m l.length with h' | h' <;> simp [h'] at hl
  refine wpIn_region_any hm (wpAny_of_mix (Q := Q .normal) (S := S) (ks := ks) hnd hB.1.2 hB.2 (fun a' w' h1 => h1) _ _ _ _ hc0 (fun _ => hS) ?_)
  have := G.wpAnyM_lex (P := P) (S := S) (ks := ks) (md := .any) hB.1.1.2.1 hB.1.2 hB.2 l 0 (Array.replicate l.toArray.size false) a w.drew (by simp) (by omega) hc0 (by simpa using hB.1.1.2.2) h
  simpa using this

variable {Q : Act → World → Prop} {o : Oper} {rest : List Oper} {a : Act} {w : World} {i : Nat}
/-- append, as the text has it. -/
theorem wpMix_append (hk : 2 ≤ ks.getD i 0) (hw : Region.wanted o (yielded ops a.tmps) = true) (s x : Operand) (t : TypeId)
    (ho : o.op = .call { callee := .builtin .append, args := #[s, x], argTypes := #[t, t] })
    (base : Nat) (e : TypeId) (i0 : TypeInfo) (z : Value) (size bytes : Nat) (ht : P.underlying t = some (.slice e)) (hi : P.info? e = some i0) (hz : i0.zero = some z)
    (hsize : i0.size = size) (hby : i0.bytes = bytes) (hzs : z.cells.size = size) (hsz : 0 < size)
    (v : Value) (nn : Nat) (xs : List Value) (hs : a.eval s = v) (hown : w.ownsRow base e size v nn xs)
    (ad : Addr) (m c : Nat) (news : List Value) (hx : a.eval x = .slice (some ad) m c) (hl : news.length = m * size) (hnews : ∀ j u, news[j]? = some u → w.cell? (ad.add j) = some u) (h1 : ∀ u ∈ news, u.oneCell' = true)
    (hm : 0 < m) (h63 : nn + m ≤ maxLen) (hbytes : (nn + m) * bytes ≤ 140737488355328) (hbase : base ≤ w.heap.size) (H : Nat) (hH : w.heap.size = H)
    (h : ∀ g cap w', w'.ownsRow base e size (.slice (some ⟨g, 0, none⟩) (nn + m) cap) (nn + m) (xs ++ news) → w.grownBy w' v.ownBlock → (v.ownBlock = some g ∨ g = H) → g < w'.heap.size →
      (ks.getD i 0 = 2 → S w') ∧ E.wpMix n P ops S ks Q (i + 1) rest (a.put o.dst (.slice (some ⟨g, 0, none⟩) (nn + m) cap)) w') : E.wpMix n P ops S ks Q i (o :: rest) a w := by
  obtain ⟨g, cap, w', hr, h2, h3, h4, h5⟩ := run_append_lies (P := P) w t o.type base e i0 z size bytes ht hi hz hsize hby hzs hsz v nn xs hown ad m c news hl hnews h1 hm h63 hbytes hbase H hH
  obtain ⟨k1, k2⟩ := h g cap w' h2 h3 h4 h5
  refine E.wpMix_write _ w' hk hw ?_ k1 k2
  unfold execOp
  simp only [ho, resolve, invoke, builtin, Sem.run_bind, Sem.run_pure, Result.andThen_ok, List.map_toArray, List.map_cons, List.map_nil, hs, hx, hr]
end
end Go.Proofs.YtgfimkeopohjaaaDoor.R

namespace Go.Proofs.YtgfimkeopohjaaaDoor
open Go Go.ChangeShapes Go.WideShapes Go.ChangeAt Go.RowKit Go.Shelf
attribute [local go_sem] Oper.semAt_some

/-- The iterator, over its boxes. -/
def itF (b : Nat) : Value := .func (.func 52) #[] #[.pointer (some ⟨b, 0, none⟩), .pointer (some ⟨b + 1, 0, none⟩)]
def StepsP (w : World) (ad : Option Addr) (N c : Nat) (s : Int) (e : Ending) (w' : World) : Prop :=
  e = .returned (itF w.heap.size) ∧ Boxed w' w.heap.size 56 (.slice ad N c) ∧ Boxed w' (w.heap.size + 1) 3 (.int .i64 s) ∧ w'.heap.size = w.heap.size + 2 ∧ Below w.heap.size w w'
set_option maxRecDepth 100000 in
theorem steps_any (ad : Option Addr) (N c : Nat) (s : Int) (w : World) : Calls Tryd.prog 45 #[.slice ad N c, .int .i64 s] w (StepsP w ad N c s) := by
  have b1 := (Boxed.new w 56 (.slice ad N c)).alloc (.cells #[.int .i64 s] 3)
  have b2 := Boxed.new (w.alloc (.cells #[.slice ad N c] 56)) 3 (.int .i64 s)
  rw [World.size_alloc] at b2
  have hb : Below w.heap.size w ((w.alloc (.cells #[.slice ad N c] 56)).alloc (.cells #[.int .i64 s] 3)) := ((Below.refl _ w).alloc (Nat.le_refl _) _).alloc (by simp) _
  have H1 := hid b1
  have H2 := hid b2
  have HB := hid hb
  clear b1 b2 hb
  go_enter Tryd.func45, Tryd.ntmps45
  go_wp2
  go_ret
  exact ⟨rfl, H1.out, H2.out, by simp, HB.out⟩
set_option maxRecDepth 100000 in
theorem steps_tells (n Bl Bs c B N : Nat) (S : Nat → Prop) (ad : Option Addr) (ls : List Ins) (s : Int) (w : World)
    (hBl : Boxed w Bl 56 (.slice ad N c)) (hBs : Boxed w Bs 3 (.int .i64 s)) (hR : RwI w B ad ls) (hB : B ≤ w.heap.size) (hN : N = ls.length) (hNc : N ≤ c) (hc : c ≤ 9223372036854775807) (hok : ∀ x ∈ ls, InsOk x) (hs : J64 s) (hT : TabB w)
    (hS : ∀ k, k < B → S k) (hSl : S Bl) (hSs : S Bs) (hSt : S 0) :
    TellsT 104 Fence.wide n Tryd.prog 52 #[.pointer (some ⟨Bl, 0, none⟩), .pointer (some ⟨Bs, 0, none⟩)] yst (KT S TY) (Told ls s) (ToldTo ls s) 33 w := fun lp J Jx W hW hJ hJx hY h0 =>
  steps_in n lp Bl Bs c B N S ad ls s J Jx W hJ hJx hY ((hW.block Bl hBl.lt).trans hBl) ((hW.block Bs hBs.lt).trans hBs) (hR.kept (hW.mono hB)) hN hNc hc hok hs (hT.on hW) hS hSl hSs hSt h0
set_option maxRecDepth 100000 in
theorem height_leN {ls : List Ins} {s : Int} : (heightP ls s).1.length ≤ ls.length := by
  have key : ∀ j hj oo, runP ls s j = (hj, oo) → hj.length ≤ j := by
    intro j
    induction j with
    | zero => intro hj oo hq; rw [runP] at hq; cases hq; exact Nat.le_refl _
    | succ j ih =>
      intro hj oo hq
      rw [runP] at hq
      cases hp : runP ls s j with
      | mk h0 o0 =>
        rw [hp] at hq
        have := ih _ _ hp
        cases o0 with
        | some e => simp only at hq; cases hq; omega
        | none =>
          simp only at hq
          split at hq <;> cases hq
          · simp; omega
          · omega
  unfold heightP
  split
  · simp
  · cases hr : runP ls s ls.length with
    | mk hs o =>
      have := key _ _ _ hr
      cases o with
      | none => exact this
      | some e => obtain ⟨i, e⟩ := e; exact this
set_option maxRecDepth 100000 in
/-- Check's answer, of what was told. -/
theorem check_done {ls : List Ins} {s : Int} {ys : List Stp} (h : Told ls s ys) (h0 : ∀ x ∈ ys, x.e = 0) : checkP ls s = (mostS ys, 0, 0) := by
  obtain ⟨h1, rfl⟩ := told_done h h0
  unfold checkP
  rw [if_pos h1, good_most height_leN]
set_option maxRecDepth 100000 in
theorem check_stop {ls : List Ins} {s : Int} {p : List Stp} {x : Stp} (h : ToldTo ls s (p ++ [x])) (hx : x.e ≠ 0) : checkP ls s = (0, x.i, x.e) := by
  obtain ⟨h1, h2, h3, _⟩ := told_stop h hx
  unfold checkP
  rw [if_neg h1, h2, h3]
/-- Three boxes. -/
structure B3 (m : Nat) (a b c : Int) (W : World) : Prop where
  b0 : Boxed W m 3 (.int .i64 a)
  b1 : Boxed W (m + 1) 3 (.int .i64 b)
  b2 : Boxed W (m + 2) 27 (.int .i64 c)
set_option maxRecDepth 100000 in
theorem B3.kept {m : Nat} {a b c : Int} {W W' : World} {row : Option Nat} {B : Nat} (h : B3 m a b c W) (hg : W.grownBy W' row) (hr : ∀ r, row = some r → B ≤ r) (hB : m + 2 < B) : B3 m a b c W' :=
  ⟨heap_kept h.b0 hg (fun e => by have := hr _ e.symm; omega), heap_kept h.b1 hg (fun e => by have := hr _ e.symm; omega), heap_kept h.b2 hg (fun e => by have := hr _ e.symm; omega)⟩
set_option maxRecDepth 100000 in
theorem B3.on {m : Nat} {a b c : Int} {W W' : World} (h : B3 m a b c W) (hb : Below W.heap.size W W') : B3 m a b c W' := ⟨(hb.block _ h.b0.lt).trans h.b0, (hb.block _ h.b1.lt).trans h.b1, (hb.block _ h.b2.lt).trans h.b2⟩
/-- Between two rounds of Check. -/
structure CI (w : World) (pre : List Stp) (W : World) : Prop where
  b : B3 w.heap.size (mostS pre) 0 0 W
  e0 : ∀ x ∈ pre, x.e = 0
  below : Below w.heap.size w W
structure CX (w : World) (pre : List Stp) (W : World) : Prop where
  st : ∃ p x, pre = p ++ [x] ∧ x.e ≠ 0 ∧ B3 w.heap.size 0 x.i x.e W
  below : Below w.heap.size w W
/-- A step was taken over. -/
structure CA (w : World) (pre : List Stp) (x : Stp) (g : Nat) (W : World) : Prop where
  i : CI w pre W
  c : W.heap[g]? = some (.cells (stA x.h x.b x.e) 94 (0, 0))
  lt : w.heap.size + 2 < g
set_option maxRecDepth 100000 in
theorem CI.kept {w : World} {pre : List Stp} {W W' : World} {row : Option Nat} {B : Nat} (h : CI w pre W) (hg : W.grownBy W' row) (hr : ∀ r, row = some r → B ≤ r) (hB : w.heap.size + 2 < B) : CI w pre W' :=
  ⟨h.b.kept hg hr hB, h.e0, h.below.grown hg h.below.size (fun k e => by have := hr k e; omega)⟩
set_option maxRecDepth 100000 in
theorem CX.kept {w : World} {pre : List Stp} {W W' : World} {row : Option Nat} {B : Nat} (h : CX w pre W) (hg : W.grownBy W' row) (hr : ∀ r, row = some r → B ≤ r) (hB : w.heap.size + 2 < B) : CX w pre W' :=
  ⟨by obtain ⟨p, x, h1, h2, h3⟩ := h.st; exact ⟨p, x, h1, h2, h3.kept hg hr hB⟩, h.below.grown hg h.below.size (fun k e => by have := hr k e; omega)⟩
set_option maxRecDepth 100000 in
theorem CA.kept {w : World} {pre : List Stp} {x : Stp} {g : Nat} {W W' : World} {row : Option Nat} {B : Nat} (h : CA w pre x g W) (hg : W.grownBy W' row) (hr : ∀ r, row = some r → B ≤ r ∧ ∃ o : Obj, W.heap[r]? = some o ∧ o.isCells = false) (hB : w.heap.size + 2 < B) : CA w pre x g W' :=
  ⟨h.i.kept hg (fun r e => (hr r e).1) hB, heap_kept h.c hg (not_cells h.c (fun r e => (hr r e).2)), h.lt⟩
set_option maxRecDepth 100000 in
theorem kf_below {B : Nat} {W W' : World} (h : Below W.heap.size W W') : KeepsFrom B W W' := ⟨h.size, fun k _ _ hk _ => (h.block k (Array.getElem?_eq_some_iff.1 hk).1).trans hk⟩
set_option maxRecDepth 100000 in
theorem kf_set {B : Nat} (W : World) (p : Addr) (v : Value) (h : p.block < B) : KeepsFrom B W (W.setCell p v) := ⟨by simp, fun k o hk ho _ => (Below.heap_setCell W p v k (fun e => by omega)).trans ho⟩
set_option maxRecDepth 100000 in
theorem kf_tr {B : Nat} {W W' W'' : World} (h : KeepsFrom B W W') (h2 : KeepsFrom B W' W'') : KeepsFrom B W W'' := ⟨Nat.le_trans h.size h2.size, fun k o hk ho hc => h2.same k o hk (h.same k o hk ho hc) hc⟩
set_option maxRecDepth 100000 in
theorem kt_set {S : Nat → Prop} {T : TypeId → Prop} {W : World} {p : Addr} {v : Value} {cs : Array Value} {t : TypeId} {fr : Nat × Nat} (hp : ¬ S p.block) (hb : W.heap[p.block]? = some (.cells cs t fr)) (ht : ¬ T t) : KT S T W (W.setCell p v) := fun k cs' t' fr' hS hk => by
  refine (Below.heap_setCell W p v k (fun e => ?_)).trans hk
  subst e
  rw [hb] at hk
  cases hk
  rcases hS with h | h
  · exact hp h
  · exact ht h
set_option maxRecDepth 100000 in
set_option maxHeartbeats 4000000 in
theorem Check_in (n : Nat) (hn : 3 ≤ n) (ls : List Ins) (s : Int) (ad : Option Addr) (N c : Nat) (w : World) (hT : TabB w) (hok : ∀ x ∈ ls, InsOk x) (hs : J64 s) (hR : RwI w w.heap.size ad ls) (hN : N = ls.length) (hNc : N ≤ c) (hc : c ≤ 9223372036854775807) :
    CallsIn Fence.wide n Tryd.prog 30 #[.slice ad N c, .int .i64 s] w fun e w' => e = .returned (.tuple #[.int .i64 (checkP ls s).1, .int .i64 (checkP ls s).2.1, .int .i64 (checkP ls s).2.2]) ∧ Below w.heap.size w w' := by
  have h1 : 1 ≤ n := by omega
  obtain ⟨w1, hw1⟩ : ∃ w1, w1 = ((w.alloc (.cells #[.int .i64 0] 3)).alloc (.cells #[.int .i64 0] 3)).alloc (.cells #[.int .i64 0] 27) := ⟨_, rfl⟩
  have hb1 : Below w.heap.size w w1 := by rw [hw1]; exact (((Below.refl _ _).alloc (Nat.le_refl _) _).alloc (by simp) _).alloc (by simp; omega) _
  have hz1 : w1.heap.size = w.heap.size + 3 := by rw [hw1]; simp
  have b0 := ((Boxed.new w 3 (.int .i64 0)).alloc (.cells #[.int .i64 0] 3)).alloc (.cells #[.int .i64 0] 27)
  have b1 := (Boxed.new (w.alloc (.cells #[.int .i64 0] 3)) 3 (.int .i64 0)).alloc (.cells #[.int .i64 0] 27)
  have b2 := Boxed.new ((w.alloc (.cells #[.int .i64 0] 3)).alloc (.cells #[.int .i64 0] 3)) 27 (.int .i64 0)
  simp only [World.size_alloc] at b1 b2
  rw [← hw1] at b0 b1 b2
  have HB3 := hid (show B3 w.heap.size 0 0 0 w1 from ⟨b0, b1, b2⟩)
  have HT := hid hT
  have HOK := hid hok
  have HS := hid hs
  have HR := hid hR
  have HN := hid hN
  have HW1 := hid hw1
  have HB1 := hid hb1
  have HZ1 := hid hz1
  have HNC := hid hNc
  have HC := hid hc
  have HST := hid (steps_any ad N c s w1)
  clear hT hok hs hR hN hw1 hb1 hz1 b0 b1 b2 hNc hc
  refine callsIn_of_wp_marks Tryd.func30 rfl trivial ?_ rfl
  simp only [Tryd.ntmps30, List.size_toArray, List.length_cons, List.length_nil, Nat.reduceAdd, Nat.reduceSub, Array.replicate_succ, Array.replicate_zero, List.push_toArray, List.append_toArray, List.nil_append, List.cons_append]
  gi_wp2
  rw [← HW1.out]
  first
    | refine ⟨trivial, (fun h => by cases h), (callsIn_wide.2 HST.out).mono ?_⟩
    | refine ⟨trivial, (callsIn_wide.2 HST.out).mono ?_⟩
    | refine (callsIn_wide.2 HST.out).mono ?_
  rintro e w2 ⟨rfl, hl2, hs2, hz2, hb2⟩
  rw [HZ1.out] at hz2 hl2 hs2
  have hbw2 := HB1.out.trans (hb2.mono HB1.out.size)
  have hst := steps_tells (n - 1) _ _ c w.heap.size N (fun k => k ≠ w.heap.size ∧ k ≠ w.heap.size + 1 ∧ k ≠ w.heap.size + 2) ad ls s w2 hl2 hs2 (HR.out.kept hbw2) hbw2.size HN.out HNC.out HC.out HOK.out HS.out (HT.out.on hbw2) (fun k hk => ⟨by omega, by omega, by omega⟩) ⟨by omega, by omega, by omega⟩ ⟨by omega, by omega, by omega⟩
    (by have := HT.out.lt; exact ⟨by omega, by omega, by omega⟩)
  have HI := hid (show CI w [] w2 from ⟨HB3.out.on hb2, (fun x hx => by cases hx), hbw2⟩)
  have HTL := hid hst
  have hsz : w.heap.size + 2 < w2.heap.size := by omega
  rw [show itF w1.heap.size = .func (.func 52) #[] #[.pointer (some ⟨w.heap.size + 3, 0, none⟩), .pointer (some ⟨w.heap.size + 3 + 1, 0, none⟩)] by rw [HZ1.out]; rfl]
  clear hst hl2 hs2 hb2 hbw2 HST HW1 HB3
  gi_wp2
  refine rangeFunc_T rfl h1 (gf := 52) (lb := #[.pointer (some ⟨w.heap.size + 3, 0, none⟩), .pointer (some ⟨w.heap.size + 3 + 1, 0, none⟩)]) rfl trivial (enters_of Tryd.func52 (by kernel_rfl) rfl)
    HTL.out (fun h k => h.t k) (fun W l o o' _ h2 h3 _ => KT.b W l o o' h2 h3) (fun _ => rfl)
    (fun pre W => CI w pre W) (fun c pre W => c = .ret ∧ CX w pre W)
    (fun _ _ _ _ h hg hr => h.kept hg (fun r e => (hr r e).1) hsz) (fun _ _ _ _ _ ⟨hc, h⟩ hg hr => ⟨hc, h.kept hg (fun r e => (hr r e).1) hsz⟩) HI.out
    (fun pre x a' W => ∃ g, CA w pre x g W ∧ a' = { tmps := #[.slice ad N c, .int .i64 s, undef, undef, .pointer (some ⟨w.heap.size, 0, none⟩), .pointer (some ⟨w.heap.size + 1, 0, none⟩), .pointer (some ⟨w.heap.size + 2, 0, none⟩), .int .i64 x.i, .pointer (some ⟨g, 0, none⟩), .slice ad N c, .int .i64 s, .func (.func 52) #[] #[.pointer (some ⟨w.heap.size + 3, 0, none⟩), .pointer (some ⟨w.heap.size + 3 + 1, 0, none⟩)], .int .i64 x.i, .agg (stA x.h x.b x.e), undef, undef, undef, undef, undef, undef, undef, undef, undef, undef, undef], defers := [] })
    (fun pre x a' _ W W' row ⟨g, hg1, hg2⟩ hg hr => ⟨g, hg1.kept hg (fun r e => hr r e) hsz, hg2⟩) ?assign ?body ?done ?stop
  case assign =>
    intro lp pre x W K hI hlen hK
    have HK := hid hK
    have HII := hid hI
    clear hI hK
    simp only [yst, stA]
    gi_wp2
    have hbn : Below W.heap.size W (W.alloc (.cells (stA x.h x.b x.e) 94)) := (Below.refl _ _).alloc (Nat.le_refl _) _
    refine HK.out _ _ (kf_below hbn) (KT.below hbn) ⟨W.heap.size, ⟨⟨HII.out.b.on hbn, HII.out.e0, HII.out.below.trans (hbn.mono HII.out.below.size)⟩, heap_alloc_new _ _, ?_⟩, rfl⟩
    exact HII.out.b.b2.lt
  case body =>
    rintro lp pre x a' W hlp hloop ⟨g, hA, rfl⟩
    have HA := hid hA
    have e0 := hA.i.b.b0.cell
    have e1 := hA.i.b.b1.cell
    have e2 := hA.i.b.b2.cell
    have f0 := hA.i.b.b0.frozen
    have f1 := hA.i.b.b1.frozen
    have f2 := hA.i.b.b2.frozen
    have c1 : W.cell? ⟨g, 1, none⟩ = some (.int .i64 x.b) := by simp [World.cell?, hA.c, stA]
    have c2 : W.cell? ⟨g, 2, none⟩ = some (.int .i64 x.e) := by simp [World.cell?, hA.c, stA]
    have hgl := hA.lt
    clear hA
    by_cases he : x.e = 0
    · have d0 : (x.e != 0) = false := by simpa using he
      have HE := hid he
      clear he
      gi_wp2
      have hb0 := HA.out.i.b
      refine ⟨kf_set W _ _ (by show w.heap.size < w2.heap.size; omega), kt_set (by simp) hb0.b0 (by unfold TY; decide), ⟨⟨?_, hb0.b1.other (by simp) _, hb0.b2.other (by simp) _⟩, ?_, HA.out.i.below.setCell (p := ⟨w.heap.size, 0, none⟩) (Nat.le_refl _) _⟩⟩
      · rw [mostS_app]; exact hb0.b0.set _
      · intro y hy
        rcases List.mem_append.1 hy with hy | hy
        · exact HA.out.i.e0 y hy
        · simp only [List.mem_singleton] at hy; subst hy; exact HE.out
    · have d0 : (x.e != 0) = true := by simpa using he
      have HE := hid he
      clear he
      gi_wp2
      refine R.wp_region_mix [0, 0, 1, 2, 2, 2] (fun W => W.cell? ⟨g, 2, none⟩ = some (.int .i64 x.e)) (by kernel_rfl) (by kernel_rfl) c2 ?_
      repeat (first
        | (refine' E.wpMix_value _ rfl rfl _ _; rotate_left; (solve | (intro W; go_simp) | (intro W; go_simp; with_reducible rfl)); simp only [Act.put, List.setIfInBounds_toArray, List.set_cons_zero, List.set_cons_succ])
        | (refine' E.wpMix_read _ rfl rfl _ _; rotate_left; (solve | (intro W h1; go_simp) | (intro W h1; go_simp; with_reducible rfl)); simp only [Act.put, List.setIfInBounds_toArray, List.set_cons_zero, List.set_cons_succ]))
      have hb0 := (HA.out.i.b.on (Below.refl _ W).drew)
      have hd0 : W.drew.cell? ⟨g, 2, none⟩ = some (.int .i64 x.e) := c2
      obtain ⟨v0, hv0⟩ : ∃ v0, v0 = W.drew := ⟨_, rfl⟩
      rw [← hv0] at hb0 hd0 ⊢
      have hdr := (Below.refl W.heap.size W).drew
      rw [← hv0] at hdr
      have HDR := hid hdr
      clear hv0 hdr c1 c2 e0 e1 e2 f0 f1 f2
      have q0 := hb0.b0.cell
      have q1 := hb0.b0.frozen
      refine E.wpMix_skip (v0.setCell ⟨w.heap.size, 0, none⟩ (.int .i64 0)) (by decide) rfl (by go_simp) (fun _ => (World.cell?_of_block (Below.heap_setCell v0 ⟨w.heap.size, 0, none⟩ _ g (fun (e : g = w.heap.size) => by omega))).trans hd0) ?_
      simp only [Act.put]
      have hb1 : B3 w.heap.size 0 0 0 (v0.setCell ⟨w.heap.size, 0, none⟩ (.int .i64 0)) := ⟨hb0.b0.set _, hb0.b1.other (by simp) _, hb0.b2.other (by simp) _⟩
      have hd1 := (World.cell?_of_block (Below.heap_setCell v0 ⟨w.heap.size, 0, none⟩ (.int .i64 0) g (fun (e : g = w.heap.size) => by omega))).trans hd0
      clear q0 q1
      obtain ⟨v1, hv1⟩ : ∃ v1, v1 = v0.setCell ⟨w.heap.size, 0, none⟩ (.int .i64 0) := ⟨_, rfl⟩
      have hk1 : Below w.heap.size W v1 ∧ KeepsFrom w2.heap.size W v1 := by
        rw [hv1]
        have hdr := HDR.out
        exact ⟨(hdr.mono HA.out.i.below.size).setCell (p := ⟨w.heap.size, 0, none⟩) (Nat.le_refl _) _, kf_tr (kf_below hdr) (kf_set _ _ _ (by show w.heap.size < w2.heap.size; omega))⟩
      rw [← hv1] at hb1 hd1 ⊢
      clear hv1 hb0 hd0
      have q0 := hb1.b1.cell
      have q1 := hb1.b1.frozen
      refine E.wpMix_skip (v1.setCell ⟨w.heap.size + 1, 0, none⟩ (.int .i64 x.i)) (by decide) rfl (by go_simp) (fun _ => (World.cell?_of_block (Below.heap_setCell v1 ⟨w.heap.size + 1, 0, none⟩ _ g (fun (e : g = w.heap.size + 1) => by omega))).trans hd1) ?_
      simp only [Act.put]
      have hb2 : B3 w.heap.size 0 x.i 0 (v1.setCell ⟨w.heap.size + 1, 0, none⟩ (.int .i64 x.i)) := ⟨hb1.b0.other (by simp) _, hb1.b1.set _, hb1.b2.other (by simp) _⟩
      have hd2 := (World.cell?_of_block (Below.heap_setCell v1 ⟨w.heap.size + 1, 0, none⟩ (.int .i64 x.i) g (fun (e : g = w.heap.size + 1) => by omega))).trans hd1
      clear q0 q1
      obtain ⟨v2, hv2⟩ : ∃ v2, v2 = v1.setCell ⟨w.heap.size + 1, 0, none⟩ (.int .i64 x.i) := ⟨_, rfl⟩
      have hk2 : Below w.heap.size W v2 ∧ KeepsFrom w2.heap.size W v2 := by
        rw [hv2]
        exact ⟨hk1.1.setCell (p := ⟨w.heap.size + 1, 0, none⟩) (by simp) _, kf_tr hk1.2 (kf_set _ _ _ (by show w.heap.size + 1 < w2.heap.size; omega))⟩
      rw [← hv2] at hb2 hd2 ⊢
      clear hv2 hb1 hd1 hk1
      have q0 := hb2.b2.cell
      have q1 := hb2.b2.frozen
      refine E.wpMix_skip (v2.setCell ⟨w.heap.size + 2, 0, none⟩ (.int .i64 x.e)) (by decide) rfl (by go_simp) (fun _ => (World.cell?_of_block (Below.heap_setCell v2 ⟨w.heap.size + 2, 0, none⟩ _ g (fun (e : g = w.heap.size + 2) => by omega))).trans hd2) ?_
      simp only [Act.put]
      have hb3 : B3 w.heap.size 0 x.i x.e (v2.setCell ⟨w.heap.size + 2, 0, none⟩ (.int .i64 x.e)) := ⟨hb2.b0.other (by simp) _, hb2.b1.other (by simp) _, hb2.b2.set _⟩
      clear q0 q1 hd2
      have hk3 : Below w.heap.size W (v2.setCell ⟨w.heap.size + 2, 0, none⟩ (.int .i64 x.e)) ∧ KeepsFrom w2.heap.size W (v2.setCell ⟨w.heap.size + 2, 0, none⟩ (.int .i64 x.e)) :=
        ⟨hk2.1.setCell (p := ⟨w.heap.size + 2, 0, none⟩) (by simp) _, kf_tr hk2.2 (kf_set _ _ _ (by show w.heap.size + 2 < w2.heap.size; omega))⟩
      obtain ⟨v3, hv3⟩ : ∃ v3, v3 = v2.setCell ⟨w.heap.size + 2, 0, none⟩ (.int .i64 x.e) := ⟨_, rfl⟩
      rw [← hv3] at hb3 hk3 ⊢
      have HK3 := hid hk3
      have HB3 := hid hb3
      clear hk3 hb3 hv3 hb2 hk2
      refine E.wpMix_end ?_
      gi_wp2
      refine ⟨HK3.out.2, rfl, ⟨pre, x, rfl, HE.out, HB3.out⟩, ?_⟩
      exact HA.out.i.below.trans HK3.out.1
  case done =>
    rintro D ys W hD hS H hK
    have e0 := H.b.b0.cell
    have e1 := H.b.b1.cell
    have e2 := H.b.b2.cell
    have f0 := H.b.b0.frozen
    have f1 := H.b.b1.frozen
    have f2 := H.b.b2.frozen
    have HH := hid H
    have HSS := hid hS
    have hWf : ∀ Wf, Wf = ((W.setCell ⟨w.heap.size, 0, none⟩ (.int .i64 (mostS ys))).setCell ⟨w.heap.size + 1, 0, none⟩ (.int .i64 0)).setCell ⟨w.heap.size + 1 + 1, 0, none⟩ (.int .i64 0) → B3 w.heap.size (mostS ys) 0 0 Wf ∧ Below w.heap.size W Wf ∧ KeepsFrom w2.heap.size W Wf := by
      rintro Wf rfl
      refine ⟨⟨((H.b.b0.set _).other (by simp <;> omega) _).other (by simp <;> omega) _, ((H.b.b1.other (by simp <;> omega) _).set _).other (by simp <;> omega) _, ((H.b.b2.other (by simp <;> omega) _).other (by simp <;> omega) _).set _⟩, ?_, ?_⟩
      · exact (((Below.refl _ _).setCell (p := ⟨w.heap.size, 0, none⟩) (by simp) _).setCell (p := ⟨w.heap.size + 1, 0, none⟩) (by simp) _).setCell (p := ⟨w.heap.size + 1 + 1, 0, none⟩) (by simp; omega) _
      · exact kf_tr (kf_tr (kf_set _ _ _ (by show w.heap.size < w2.heap.size; omega)) (kf_set _ _ _ (by show w.heap.size + 1 < w2.heap.size; omega))) (kf_set _ _ _ (by show w.heap.size + 1 + 1 < w2.heap.size; omega))
    have HWF := hid hWf
    clear H hS hWf
    gi_wp2
    obtain ⟨Wf, hwf⟩ : ∃ Wf, Wf = ((W.setCell ⟨w.heap.size, 0, none⟩ (.int .i64 (mostS ys))).setCell ⟨w.heap.size + 1, 0, none⟩ (.int .i64 0)).setCell ⟨w.heap.size + 1 + 1, 0, none⟩ (.int .i64 0) := ⟨_, rfl⟩
    obtain ⟨hb3, hbf, hkf⟩ := HWF.out Wf hwf
    rw [← hwf]
    have hK' := hkf.same D _ hD hK rfl
    refine ⟨by simp, .inl ⟨_, _, rfl, run_takeDeferred hK', ?_⟩⟩
    have c0 := cell_kept hb3.b0.cell (grownBy_putObj' _ D (.deferred none)) (fun r e => by cases e; exact ⟨_, hK', rfl⟩)
    have c1 := cell_kept hb3.b1.cell (grownBy_putObj' _ D (.deferred none)) (fun r e => by cases e; exact ⟨_, hK', rfl⟩)
    have c2 := cell_kept hb3.b2.cell (grownBy_putObj' _ D (.deferred none)) (fun r e => by cases e; exact ⟨_, hK', rfl⟩)
    refine ⟨_, ?_, by rw [check_done HSS.out HH.out.e0], (HH.out.below.trans hbf).trans (belowK_b (w := w) (Nat.le_refl _) _ D _ _ (by omega) hK' rfl rfl)⟩
    simp [results, Tryd.f30, go_sem, c0, c1, c2]
  case stop =>
    rintro D c pre W hD hp ⟨rfl, H⟩ hK
    obtain ⟨p, x, rfl, hx, hb⟩ := H.st
    have HB := hid hb
    have HH := hid H
    have HX := hid hx
    have HP := hid hp
    clear H hx hp hb
    gi_wp2
    refine ⟨by simp, .inl ⟨_, _, rfl, run_takeDeferred hK, ?_⟩⟩
    have c0 := cell_kept HB.out.b0.cell (grownBy_putObj' _ D (.deferred none)) (fun r e => by cases e; exact ⟨_, hK, rfl⟩)
    have c1 := cell_kept HB.out.b1.cell (grownBy_putObj' _ D (.deferred none)) (fun r e => by cases e; exact ⟨_, hK, rfl⟩)
    have c2 := cell_kept HB.out.b2.cell (grownBy_putObj' _ D (.deferred none)) (fun r e => by cases e; exact ⟨_, hK, rfl⟩)
    refine ⟨_, ?_, by rw [check_stop HP.out HX.out], HH.out.below.trans (belowK_b (w := w) (Nat.le_refl _) _ D _ _ (by omega) hK rfl rfl)⟩
    simp [results, Tryd.f30, go_sem, c0, c1, c2]
set_option maxRecDepth 100000 in
theorem Check_any (ls : List Ins) (s : Int) (ad : Option Addr) (N c : Nat) (w : World) (hT : TabB w) (hok : ∀ x ∈ ls, InsOk x) (hs : J64 s) (hR : RwI w w.heap.size ad ls) (hN : N = ls.length) (hNc : N ≤ c) (hc : c ≤ 9223372036854775807) :
    Calls Tryd.prog 30 #[.slice ad N c, .int .i64 s] w fun e w' => e = .returned (.tuple #[.int .i64 (checkP ls s).1, .int .i64 (checkP ls s).2.1, .int .i64 (checkP ls s).2.2]) ∧ Below w.heap.size w w' :=
  (callsIn_wide (n := 3)).1 (Check_in 3 (by omega) ls s ad N c w hT hok hs hR hN hNc hc)
end Go.Proofs.YtgfimkeopohjaaaDoor
