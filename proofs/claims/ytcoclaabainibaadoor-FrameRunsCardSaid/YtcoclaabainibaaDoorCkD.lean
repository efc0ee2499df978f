/-
  What the program's steps tell.
-/
import Derived.RangeFuncNested
import Derived.RangeFuncBound
import Derived.RangeFuncCalls
import Derived.RangeFuncLeaves
import Derived.RangeFuncFrom
import Derived.RangeFuncBox
import Derived.Shelf.Abstract
import Derived.OwnWalkIn
import Derived.TacticsInMore
import Derived.LoopNIn
import Derived.LoopIn
import Derived.Test.YtcoclaabainibaaDoorCkT
import Derived.Test.YtcoclaabainibaaDoorMemT
import Derived.Test.YtcoclaabainibaaDoorMixG
import Derived.Test.YtcoclaabainibaaDoorSureI
import Derived.Test.YtcoclaabainibaaDoorScope
import Derived.Test.YtcoclaabainibaaDoorCdD
namespace Go.Proofs.YtcoclaabainibaaDoor
open Go Go.ChangeShapes Go.WideShapes Go.ChangeAt Go.RowKit Go.Shelf
attribute [local go_sem] Oper.semAt_some

/-- What a loop's body keeps: the cells in these blocks, and those of one type. -/
def KT (S : Nat → Prop) (T : TypeId → Prop) (W W' : World) : Prop := ∀ (k : Nat) (cs : Array Value) (t : TypeId) (fr : Nat × Nat), (S k ∨ T t) → W.heap[k]? = some (.cells cs t fr) → W'.heap[k]? = some (.cells cs t fr)
/-- The types of the iterator's own blocks that are read behind a round. -/
def TY (t : TypeId) : Prop := t = 77 ∨ t = 45 ∨ t = 70
section
variable {S : Nat → Prop} {T : TypeId → Prop}
set_option maxRecDepth 100000 in
theorem KT.refl (W : World) : KT S T W W := fun _ _ _ _ _ h => h
set_option maxRecDepth 100000 in
theorem KT.t {A B C : World} (h : KT S T A B) (k : KT S T B C) : KT S T A C := fun j cs t fr hS hj => k j cs t fr hS (h j cs t fr hS hj)
set_option maxRecDepth 100000 in
theorem KT.b (W : World) (l : Nat) (o o' : Obj) (h : W.heap[l]? = some o) (hc : o.isCells = false) : KT S T W (W.putObj l o') := fun k cs t fr _ hk => by
  have hne : k ≠ l := fun e => by subst e; rw [hk] at h; cases h; cases hc
  rw [World.putObj_heap_other hne]; exact hk
set_option maxRecDepth 100000 in
theorem KT.below {W W' : World} (h : Below W.heap.size W W') : KT S T W W' := fun k cs t fr _ hk => by rw [h.block k (Array.getElem?_eq_some_iff.1 hk).1]; exact hk
set_option maxRecDepth 100000 in
theorem KT.cell {W W' : World} {p : Addr} {v : Value} (h : KT S T W W') (hp : S p.block) (hc : W.cell? p = some v) : W'.cell? p = some v := by
  have hh : ∃ cs t fr, W.heap[p.block]? = some (.cells cs t fr) := by
    unfold World.cell? at hc
    split at hc
    · rename_i c e f hb; exact ⟨_, _, _, hb⟩
    · cases hc
  obtain ⟨cs, t, fr, hb⟩ := hh
  rw [World.cell?_of_block (w := W) (w' := W') (a := p) (by rw [hb, h _ _ _ _ (.inl hp) hb])]
  exact hc
set_option maxRecDepth 100000 in
theorem KT.box {W W' : World} {b : Nat} {t : TypeId} {v : Value} (h : KT S T W W') (hp : S b) (hb : Boxed W b t v) : Boxed W' b t v := h _ _ _ _ (.inl hp) hb
set_option maxRecDepth 100000 in
theorem KT.tab {W W' : World} (h : KT S T W W') (hp : S 0) (hT : TabB W) : TabB W' := fun j hj => h.cell (p := ⟨0, j, none⟩) hp (hT j hj)
set_option maxRecDepth 100000 in
theorem RwI.kt {W W' : World} {B : Nat} {a : Option Addr} {ls : List Ins} (h : RwI W B a ls) (hk : KT S T W W') (hS : ∀ k, k < B → S k) : RwI W' B a ls :=
  ⟨h.at_, fun b o he i x hx j u hu => by
    obtain ⟨b', o', h1, h2⟩ := h.at_ (by have := (List.getElem?_eq_some_iff.1 hx).1; omega)
    rw [he] at h1; cases h1
    exact hk.cell (p := ⟨b, o + i * 3 + j, none⟩) (hS b h2) (h.rows b o he i x hx j u hu)⟩
end
set_option maxRecDepth 100000 in
theorem grown_below {W W' : World} (h : Below W.heap.size W W') : W.grownBy W' none := ⟨h.os, h.tape, h.output, h.size, fun k hk _ => h.block k hk⟩
set_option maxRecDepth 100000 in
theorem OwnT.on {β : Type} {T : TypeId} {B : Nat} {J : β → World → Prop} {x : β} {W W' : World} (hJ : OwnT T B J) (h : J x W) (hb : Below W.heap.size W W') : J x W' := hJ _ _ _ none h (grown_below hb) (fun _ e => by cases e)
set_option maxRecDepth 100000 in
theorem OwnT.set {β : Type} {T : TypeId} {B : Nat} {J : β → World → Prop} {x : β} {W : World} {b j : Nat} {v : Value} {cs : Array Value} {fr : Nat × Nat} (hJ : OwnT T B J) (h : J x W) (hB : B ≤ b) (hb : W.heap[b]? = some (.cells cs T fr)) : J x (W.setCell ⟨b, j, none⟩ v) :=
  hJ _ _ _ (some b) h ⟨rfl, rfl, rfl, by simp, fun k hk hne => Below.heap_setCell _ _ _ _ (fun e => hne (by rw [e]))⟩ (fun r e => by cases e; exact ⟨hB, _, hb, .inr (by simp [ofT])⟩)
/-- Heights met, in memory. -/
def metA (f : Nat → Nat) : Array Value := ((List.range 32).map fun j => Value.int .u16 (f j)).toArray
def MetB (W : World) (b : Nat) (f : Nat → Nat) : Prop := W.heap[b]? = some (.cells (metA f) 77 (0, 0))
set_option maxRecDepth 100000 in
theorem metA_at {f : Nat → Nat} {j : Nat} (hj : j < 32) : (metA f)[j]? = some (.int .u16 (f j)) := by simp [metA, hj]
set_option maxRecDepth 100000 in
theorem MetB.cell {W : World} {b : Nat} {f : Nat → Nat} (h : MetB W b f) {j : Nat} (hj : j < 32) : W.cell? ⟨b, j, none⟩ = some (.int .u16 (f j)) := by
  unfold MetB at h
  simp [World.cell?, h, metA_at hj]
set_option maxRecDepth 100000 in
theorem MetB.frozen {W : World} {b : Nat} {f : Nat → Nat} (h : MetB W b f) (j : Nat) : W.frozen? ⟨b, j, none⟩ = false := by
  unfold MetB at h
  simp [World.frozen?, h]
set_option maxRecDepth 100000 in
theorem MetB.set {W : World} {b : Nat} {f : Nat → Nat} (h : MetB W b f) {j : Nat} (hj : j < 32) (m : Nat) : MetB (W.setCell ⟨b, j, none⟩ (.int .u16 m)) b (fun i => if i = j then m else f i) := by
  unfold MetB at *
  rw [heap_setCell_same W b j _ _ _ h]
  congr 2
  apply Array.ext_getElem?
  intro i
  by_cases hi : i < 32
  · rw [metA_at hi, Array.getElem?_setIfInBounds]
    by_cases he : j = i
    · subst he; simp [metA, hj]
    · have : i ≠ j := fun e => he e.symm
      simp [he, this, metA_at hi]
  · have h1 : ∀ g : Nat → Nat, (metA g).size = 32 := fun g => by simp [metA]
    rw [Array.getElem?_eq_none (by simp [h1]; omega), Array.getElem?_eq_none (by rw [h1]; omega)]
/-- Between two steps. -/
structure SI (S : Nat → Prop) (W0 : World) (J : List Stp → World → Prop) (m0 : Nat) (pre : List Stp) (f : Nat → Nat) (W : World) : Prop where
  j : J pre W
  m : MetB W m0 f
  k : KT S TY W0 W
section
variable {S : Nat → Prop} {W0 W W' : World} {J : List Stp → World → Prop} {m0 : Nat} {pre : List Stp} {f : Nat → Nat}
set_option maxRecDepth 100000 in
theorem SI.on (h : SI S W0 J m0 pre f W) (hJ : OwnT 77 W0.heap.size J) (hb : Below W.heap.size W W') : SI S W0 J m0 pre f W' :=
  ⟨hJ.on h.j hb, (hb.block _ (Array.getElem?_eq_some_iff.1 h.m).1).trans h.m, h.k.t (KT.below hb)⟩
end
set_option maxRecDepth 100000 in
/-- The row of an Op. -/
theorem rows_index : ∀ (q : Nat) (r : Rw), rowL[q]? = some r → ∀ W : World, (Instr.index 81 (.agg rowsA) (.int .i64 (q : Int))).run Tryd.prog W = .ok (.agg (rwA r)) W := by
  intro q r hr W
  have hq : q < 11 := (List.getElem?_eq_some_iff.1 hr).1
  rcases (show q = 0 ∨ q = 1 ∨ q = 2 ∨ q = 3 ∨ q = 4 ∨ q = 5 ∨ q = 6 ∨ q = 7 ∨ q = 8 ∨ q = 9 ∨ q = 10 by omega) with rfl | rfl | rfl | rfl | rfl | rfl | rfl | rfl | rfl | rfl | rfl
  all_goals
    cases hr
    simp [Instr.index, asIntOf, run_underlying Tryd.underlying81, rowsA, rowL, rwc, rwA, part, go_sem]
set_option maxRecDepth 100000 in
theorem exec_index_row {o : Oper} {f : Operand → Value} {W : World} {x y : Operand} {q : Nat} {r : Rw} (ho : o.op = .index 81 x y) (hx : f x = .agg rowsA) (hy : f y = .int .i64 (q : Int)) (hr : rowL[q]? = some r) : (execOp f o).run Tryd.prog W = .ok (.value (.agg (rwA r))) W := by
  unfold execOp
  simp only [ho, hx, hy, Sem.run_bind, rows_index q r hr W, Result.andThen_ok, Sem.run_pure]
set_option maxRecDepth 100000 in
theorem ins_at {W : World} {b : Nat} {x : Ins} (h : InI W b x) : AtL W b 0 (insc x) := fun j u hu => by
  match j, hu with
  | 0, hu => cases hu; exact h.c0
  | 1, hu => cases hu; exact h.c1
  | 2, hu => cases hu; exact h.c2
set_option maxRecDepth 100000 in
theorem rowL_ok : ∀ r ∈ rowL, (r.a = 0 ∨ r.a = 1 ∨ r.a = 2 ∨ r.a = 3 ∨ r.a = 4) ∧ (r.b = 0 ∨ r.b = 1 ∨ r.b = 2 ∨ r.b = 3 ∨ r.b = 4) ∧ (0 ≤ r.takes ∧ r.takes ≤ 2) ∧ (0 ≤ r.lays ∧ r.lays ≤ 1) := by
  intro r hr
  simp only [rowL, List.mem_cons, List.not_mem_nil, or_false] at hr
  rcases hr with rfl | rfl | rfl | rfl | rfl | rfl | rfl | rfl | rfl | rfl | rfl <;> decide
set_option maxRecDepth 100000 in
theorem InI.on {W W' : World} {b : Nat} {x : Ins} (h : InI W b x) (hb : Below W.heap.size W W') : InI W' b x := (hb.block _ (Array.getElem?_eq_some_iff.1 h).1).trans h
set_option maxRecDepth 100000 in
theorem RwB.on {W W' : World} {b : Nat} {r : Rw} (h : RwB W b r) (hb : Below W.heap.size W W') : RwB W' b r := (hb.block _ (Array.getElem?_eq_some_iff.1 h).1).trans h
/-- What one step reads. -/
structure S11 (w5 : World) (m0 bx br Bl Bs : Nat) (x : Ins) (r : Rw) (v : Value) (s : Int) (i m : Nat) (W : World) : Prop where
  b : Below w5.heap.size w5 W
  r_ : RwB W br r
  x_ : InI W bx x
  cs : W.cell? ⟨Bs, 0, none⟩ = some (.int .i64 s)
  cl : W.cell? ⟨Bl, 0, none⟩ = some v
  cm : W.cell? ⟨m0, i, none⟩ = some (.int .u16 m)
  tab : TabB W
set_option maxRecDepth 100000 in
theorem S11.on {w5 W W' : World} {m0 bx br Bl Bs : Nat} {x : Ins} {r : Rw} {v : Value} {s : Int} {i m : Nat} (h : S11 w5 m0 bx br Bl Bs x r v s i m W) (hb : Below W.heap.size W W') : S11 w5 m0 bx br Bl Bs x r v s i m W' :=
  have hc : ∀ {p : Addr} {u : Value}, W.cell? p = some u → W'.cell? p = some u := fun hp => (World.cell?_of_block (hb.block _ (World.block_lt_of_cell? W _ hp))).trans hp
  ⟨h.b.trans (hb.mono h.b.size), h.r_.on hb, h.x_.on hb, hc h.cs, hc h.cl, hc h.cm, h.tab.on hb⟩
set_option maxRecDepth 100000 in
theorem insA_size (x : Ins) : (Tryd.prog.info? 45).map (·.size) = some (insA x).size := by kernel_rfl
set_option maxRecDepth 100000 in
theorem rwA_size (r : Rw) : (Tryd.prog.info? 80).map (·.size) = some (rwA r).size := by kernel_rfl
set_option maxRecDepth 100000 in
theorem stA_size (h b e : Int) : (Tryd.prog.info? 70).map (·.size) = some (stA h b e).size := by kernel_rfl
def yst (x : Stp) : Array Value := #[.int .i64 x.i, .agg (stA x.h x.b x.e)]
def StepsPost (ls : List Ins) (s : Int) (J Jx : List Stp → World → Prop) (e : Ending) (W' : World) : Prop :=
  (∃ v, e = .returned v) ∧ ((∃ ys, Told ls s ys ∧ J ys W') ∨ (∃ pre, ToldTo ls s pre ∧ Jx pre W'))
set_option maxRecDepth 100000 in
theorem nextK_len (i : Nat) (x : Ins) : (nextK i x).length ≤ 2 := by
  unfold nextK
  split
  · simp
  · split <;> simp
set_option maxRecDepth 100000 in
theorem upd_lt {k : Nat} (hk : k < 9) : ∀ (L : List Nat) {f : Nat → Nat}, (∀ j, f j < 512) → ∀ j, (L.foldl (updM k) f) j < 512
  | [], _, h, j => h j
  | t :: L, f, h, j => by
    rw [List.foldl_cons]
    refine upd_lt hk L (fun i => ?_) j
    unfold updM
    split
    · exact or_lt ⟨k, hk⟩ ⟨f i, h i⟩
    · exact h i
/-- The places where one goes on, in a block of their own. -/
def NxT (m0 : Nat) (an : Option Addr) (L : List Nat) (W : World) : Prop := ∀ j (_ : j < L.length), ∃ gn, an = some ⟨gn, 0, none⟩ ∧ m0 ≠ gn ∧ W.cell? ⟨gn, j, none⟩ = some (.int .i64 ((L.getD j 0 : Nat) : Int))
set_option maxRecDepth 100000 in
theorem NxT.of {w1 W : World} {an : Option Addr} {L : List Nat} {c m0 : Nat} (h : EI w1 W (.slice an (List.map Int.ofNat L).length c) (List.map Int.ofNat L).length (List.map Int.ofNat L)) (hm : m0 < w1.heap.size) : NxT m0 an L W := fun j hj => by
  rcases h.1.2 with ⟨q1, q2⟩ | ⟨g, cap', cs, q1, q2, q3⟩
  · have := h.1.1
    rw [List.length_map] at *
    omega
  · cases q1
    refine ⟨g, rfl, by omega, ?_⟩
    have := h.cell (j := j) (by rw [List.length_map]; exact hj)
    rw [this]
    simp [hj]
set_option maxRecDepth 100000 in
theorem NxT.set {m0 : Nat} {an : Option Addr} {L : List Nat} {W : World} (h : NxT m0 an L W) (j : Nat) (v : Value) : NxT m0 an L (W.setCell ⟨m0, j, none⟩ v) := fun k hk => by
  obtain ⟨gn, h1, h2, h3⟩ := h k hk
  exact ⟨gn, h1, h2, (World.cell?_of_block (Below.heap_setCell W ⟨m0, j, none⟩ v gn (fun e => h2 e.symm))).trans h3⟩
set_option maxRecDepth 100000 in
set_option maxHeartbeats 4000000 in
theorem steps_in (n lp Bl Bs c B N : Nat) (S : Nat → Prop) (ad : Option Addr) (ls : List Ins) (s : Int) (J Jx : List Stp → World → Prop)
    (W : World) (hJ : OwnT 77 W.heap.size J) (hJx : OwnT 77 W.heap.size Jx)
    (hY : ∀ pre (x : Stp) W, J pre W → pre.length < 33 → YieldAt Fence.wide (n - 1) Tryd.prog lp (yst x) W fun e W' =>
      (e = .returned (.bool true) ∧ J (pre ++ [x]) W' ∧ KT S TY W W') ∨ (e = .returned (.bool false) ∧ Jx (pre ++ [x]) W'))
    (hBl : Boxed W Bl 22 (.slice ad N c)) (hBs : Boxed W Bs 3 (.int .i64 s)) (hR : RwI W B ad ls) (hN : N = ls.length) (hNc : N ≤ c) (hc : c ≤ 9223372036854775807) (hok : ∀ x ∈ ls, InsOk x) (hs : J64 s) (hT : TabB W)
    (hS : ∀ k, k < B → S k) (hSl : S Bl) (hSs : S Bs) (hSt : S 0) (h0 : J [] W) :
    CallsIn Fence.wide n Tryd.prog 30 #[.func (.yield lp) #[] #[], .pointer (some ⟨Bl, 0, none⟩), .pointer (some ⟨Bs, 0, none⟩)] W (StepsPost ls s J Jx) := by
  have HJO := hid hJ
  have HJXO := hid hJx
  have HY := hid hY
  have H0 := hid h0
  have HR := hid hR
  have HBl := hid hBl
  have HBs := hid hBs
  have HN := hid hN
  have HOK := hid hok
  have HS64 := hid hs
  have HT := hid hT
  have HS := hid hS
  have HSl := hid hSl
  have HSs := hid hSs
  have HSt := hid hSt
  have cl := hBl.cell
  have cs := hBs.cell
  have hcc1 := hNc
  have hcc2 := hc
  clear hJ hJx hY h0 hR hBl hBs hN hok hs hT hS hSl hSs hSt hNc hc
  refine callsIn_of_wp Tryd.func30 rfl trivial ?_ rfl
  simp only [Tryd.ntmps30, List.size_toArray, List.length_cons, List.length_nil, Nat.reduceAdd, Nat.reduceSub, Array.replicate_succ, Array.replicate_zero, List.push_toArray, List.append_toArray, List.nil_append, List.cons_append]
  by_cases hn1 : N < 1 ∨ 32 < N
  · have htn := told_none (s := s) 0 0 (by rw [← HN.out]; exact hn1)
    have HTN := hid htn
    have hy0 := HY.out [] ⟨0, 0, 0, 20⟩ W H0.out (by decide)
    obtain ⟨fn, tmps, assign, body, hy, hRd⟩ := hy0
    dsimp only [yst, stA] at hy
    have HRD := hid hRd
    clear hRd htn
    by_cases hn0 : N < 1
    · have d1 : decide ((N : Int) < 1) = true := by simp; omega
      have HN0 := hid hn0
      clear hn0 hn1
      refine wpIn_scope ?_
      gi_wp2
      refine ⟨(fun h => by cases h), HRD.out.mono ?_⟩
      rintro e7 W7 (⟨rfl, hJ7, hk7⟩ | ⟨rfl, hJx7⟩)
      · have J7 := hid hJ7
        clear hJ7 hk7 hy
        gi_wp2
        refine bodyPost_ret (results_none rfl _ _ _) rfl ?_
        exact ⟨⟨_, rfl⟩, .inl ⟨_, HTN.out, J7.out⟩⟩
      · have J7 := hid hJx7
        clear hJx7 hy
        gi_wp2
        refine bodyPost_ret (results_none rfl _ _ _) rfl ?_
        exact ⟨⟨_, rfl⟩, .inr ⟨_, ⟨_, HTN.out, List.prefix_rfl⟩, J7.out⟩⟩
    · have d1 : decide ((N : Int) < 1) = false := by simp; omega
      have d2 : decide (32 < (N : Int)) = true := by simp; omega
      have HN0 := hid hn0
      clear hn0 hn1
      refine wpIn_scope ?_
      gi_wp2
      refine ⟨(fun h => by cases h), HRD.out.mono ?_⟩
      rintro e7 W7 (⟨rfl, hJ7, hk7⟩ | ⟨rfl, hJx7⟩)
      · have J7 := hid hJ7
        clear hJ7 hk7 hy
        gi_wp2
        refine bodyPost_ret (results_none rfl _ _ _) rfl ?_
        exact ⟨⟨_, rfl⟩, .inl ⟨_, HTN.out, J7.out⟩⟩
      · have J7 := hid hJx7
        clear hJx7 hy
        gi_wp2
        refine bodyPost_ret (results_none rfl _ _ _) rfl ?_
        exact ⟨⟨_, rfl⟩, .inr ⟨_, ⟨_, HTN.out, List.prefix_rfl⟩, J7.out⟩⟩
  · have d1 : decide ((N : Int) < 1) = false := by simp; omega
    have d2 : decide (32 < (N : Int)) = false := by simp; omega
    have hNN : 1 ≤ N ∧ N ≤ 32 := by omega
    clear hn1
    refine wpIn_scope ?_
    gi_wp2
    change _ ∧ _ ∧ CallsIn _ _ _ _ _ (W.alloc (.cells (metA fun _ => 0) 77)) _
    obtain ⟨m0, hm0⟩ : ∃ m0, m0 = W.heap.size := ⟨_, rfl⟩
    obtain ⟨W1, hW1⟩ : ∃ W1, W1 = W.alloc (.cells (metA fun _ => 0) 77) := ⟨_, rfl⟩
    have hB1 : Below W.heap.size W W1 := by rw [hW1]; exact (Below.refl _ _).alloc (Nat.le_refl _) _
    have hm1 : MetB W1 m0 (fun _ => 0) := by rw [hW1, hm0]; exact heap_alloc_new _ _
    have hJ1 := HJO.out.on H0.out hB1
    rw [← hW1, ← hm0]
    have c0 : W1.cell? ⟨m0, 0, none⟩ = some (.int .u16 0) := hm1.cell (j := 0) (by decide)
    have f0 := hm1.frozen 0
    have hJ2 := HJO.out.set (j := 0) (v := .int .u16 1) hJ1 (by omega) hm1
    have hm2 := hm1.set (j := 0) (by decide) 1
    have hB2 := (hB1.setCell (p := ⟨m0, 0, none⟩) (by show W.heap.size ≤ m0; omega) (.int .u16 1))
    obtain ⟨W2, hW2⟩ : ∃ W2, W2 = W1.setCell ⟨m0, 0, none⟩ (.int .u16 1) := ⟨_, rfl⟩
    have hm2' : MetB W2 m0 (fun j => maskP ls s [] j 0) := by rw [hW2]; exact hm2
    rw [← hW2] at hB2 hJ2
    have hk2 : KT S TY W W2 := KT.below hB2
    have cl2 := hk2.cell (p := ⟨Bl, 0, none⟩) HSl.out cl
    have HJ2 := hid hJ2
    have HM2 := hid hm2'
    have HK2 := hid hk2
    have HM0 := hid hm0
    have HW2 := hid hW2
    clear hB1 hm1 hJ1 hJ2 hm2 hm2' hk2 hB2 hW1 hm0 hW2 cl cs
    refine ⟨trivial, (fun h => by cases h), (callsIn_wide.2 (with_any 0 0 (by decide) (by decide) _)).mono ?_⟩
    rintro e w' ⟨rfl, rfl⟩
    gi_wp2
    rw [← HW2.out]
    refine wpIn_label ?_
    clear c0 f0
    obtain ⟨b, o, rfl, hb⟩ := HR.out.at_ (by have := HN.out; omega)
    have HBb := hid hb
    have HSI := hid (show SI S W J m0 [] (fun j => maskP ls s [] j 0) W2 from ⟨HJ2.out, HM2.out, HK2.out⟩)
    clear HJ2 HM2 HK2 hb
    gi_wp2
    gi_loopw [29] (fun p wr => ∃ (i : Nat) (hs : List Int), i ≤ N ∧ p = .int .i64 i ∧ RowKit.Hid (runP ls s i = (hs, none)) ∧ RowKit.Hid (SI S W J m0 (goodL ls s hs) (fun j => maskP ls s hs j i) wr)) (fun p _ => N - (intOf p).toNat)
    case atStart => exact ⟨0, [], by omega, rfl, hid rfl, HSI⟩
    case round =>
      obtain ⟨i, hs, hi, rfl, HRUN, HI⟩ := hrel
      clear HSI HW2
      by_cases hiN : i < N
      · have hx : ls[i]? = some ls[i] := List.getElem?_eq_getElem (by rw [← HN.out]; exact hiN)
        have hxm := HOK.out ls[i] (List.getElem_mem _)
        generalize ls[i] = x at hx hxm
        have HX := hid hx
        have HXOK := hid hxm
        have hrw := HR.out.kt HI.out.k HS.out
        have hat := hrw.rows b o rfl i x hx
        have HAT := hid hat
        obtain ⟨w3, hw3⟩ : ∃ w3, w3 = wr.alloc (.cells (insA x) 45) := ⟨_, rfl⟩
        obtain ⟨bx, hbx⟩ : ∃ bx, bx = wr.heap.size := ⟨_, rfl⟩
        have hb3 : Below wr.heap.size wr w3 := by rw [hw3]; exact (Below.refl _ _).alloc (Nat.le_refl _) _
        have hx3 : InI w3 bx x := by rw [hw3, hbx]; exact heap_alloc_new _ _
        have HI3 := hid (HI.out.on HJO.out hb3)
        have HX3 := hid hx3
        have HW3 := hid hw3
        have HBX := hid hbx
        clear hx hxm hrw hat hw3 hbx hb3 hx3
        gi_wp2_with (first | ((with_reducible refine AI.at_opI ⟨some 33, _, _, _, _, _⟩ ?_); refine AI.wpListIn_run rfl (.agg #[.int .i64 x.op, .int .i64 x.a, .int .i64 x.b]) wr (load_ia rfl rfl HAT.out) ?_) | fail)
        change _ ∧ _ ∧ CallsIn _ _ _ _ _ (wr.alloc (.cells (insA x) 45)) _
        rw [← HW3.out, ← HBX.out]
        refine ⟨trivial, (fun h => by cases h), (callsIn_wide.2 (rows_any w3)).mono ?_⟩
        rintro e w4 ⟨rfl, hb4⟩
        have HI4 := hid (HI3.out.on HJO.out hb4)
        have HX4 := hid (HX3.out.on hb4)
        clear hb4 HI3 HX3 HW3 HBX HI HAT
        gi_wp2
        gi_loopw [35] (fun p wr => ∃ q : Nat, q ≤ 11 ∧ p = .int .i64 q ∧ RowKit.Hid (∀ r ∈ rowL.take q, r.op ≠ x.op) ∧ RowKit.Hid (SI S W J m0 (goodL ls s hs) (fun j => maskP ls s hs j i) wr) ∧ RowKit.Hid (InI wr bx x)) (fun p _ => 11 - (intOf p).toNat)
        case atStart => exact ⟨0, by omega, rfl, hid (by simp), HI4, HX4⟩
        case round =>
          obtain ⟨q, hq, rfl, HQ, HIq, HXq⟩ := hrel
          clear HI4 HX4
          by_cases hq11 : q < 11
          · have hr : rowL[q]? = some (rowL[q]'(by show q < 11; exact hq11)) := List.getElem?_eq_getElem _
            have hrm := List.mem_of_getElem? hr
            generalize rowL[q]'(by show q < 11; exact hq11) = r at hr hrm
            have HRq := hid hr
            have HRm := hid hrm
            obtain ⟨w5, hw5⟩ : ∃ w5, w5 = wr.alloc (.cells (rwA r) 80) := ⟨_, rfl⟩
            obtain ⟨br, hbr⟩ : ∃ br, br = wr.heap.size := ⟨_, rfl⟩
            have hb5 : Below wr.heap.size wr w5 := by rw [hw5]; exact (Below.refl _ _).alloc (Nat.le_refl _) _
            have hr5 : RwB w5 br r := by rw [hw5, hbr]; exact heap_alloc_new _ _
            have HI5 := hid (HIq.out.on HJO.out hb5)
            have HX5 := hid (HXq.out.on hb5)
            have HR5 := hid hr5
            have HW5 := hid hw5
            have HBR := hid hbr
            have HB5 := hid hb5
            have hcx := (HX5.out).c0
            rw [hw5] at hcx
            have cx : (wr.alloc (.cells #[.int .i64 r.op, .int .i64 r.a, .int .i64 r.b, .int .i64 r.takes, .int .i64 r.lays] 80)).cell? ⟨bx, 0, none⟩ = some (.int .i64 x.op) := hcx
            clear hr hrm hw5 hbr hb5 hr5 hcx
            by_cases ho : r.op = x.op
            case neg =>
              have d0 : (r.op != x.op) = true := by simpa using ho
              have HO := hid ho
              clear ho
              gi_wp2_with (first | ((with_reducible refine AI.at_opI ⟨some 37, _, _, _, _, _⟩ ?_); refine AI.wpListIn_run rfl (.agg #[.int .i64 r.op, .int .i64 r.a, .int .i64 r.b, .int .i64 r.takes, .int .i64 r.lays]) wr (exec_index_row rfl rfl rfl HRq.out) ?_) | fail)
              go_roundw
              case rel =>
                refine ⟨q + 1, by omega, by go_num, hid (fun r' hr' => ?_), ?_, ?_⟩
                · rw [List.take_add_one, HRq.out] at hr'
                  rcases List.mem_append.1 hr' with hr' | hr'
                  · exact HQ.out r' hr'
                  · simp only [Option.toList_some, List.mem_singleton] at hr'; subst hr'; exact HO.out
                · first | exact HI5 | (have := HI5.out; rw [HW5.out] at this; exact hid this)
                · first | exact HX5 | (have := HX5.out; rw [HW5.out] at this; exact hid this)
              case measure => simp [intOf]; omega
            have d0 : (r.op != x.op) = false := by simpa using ho
            have HO := hid ho
            clear ho
            gi_wp2_with (first | ((with_reducible refine AI.at_opI ⟨some 37, _, _, _, _, _⟩ ?_); refine AI.wpListIn_run rfl (.agg #[.int .i64 r.op, .int .i64 r.a, .int .i64 r.b, .int .i64 r.takes, .int .i64 r.lays]) wr (exec_index_row rfl rfl rfl HRq.out) ?_) | fail)
            clear cx d0
            change Code.wpIn _ _ _ _ _ _ (wr.alloc (.cells (rwA r) 80))
            rw [← HW5.out, ← HBR.out]
            clear HW5 HBR HB5 HQ
            obtain ⟨m, hm⟩ : ∃ m, m = maskP ls s hs i i := ⟨_, rfl⟩
            have hmlt : m < 512 := by rw [hm]; exact (mask_now HRUN.out (by rw [← HN.out]; exact hi) i i (Nat.le_refl _)).1
            have hS5 : S11 w5 m0 bx br Bl Bs x r (.slice (some ⟨b, o, none⟩) N c) s i m w5 := by
              refine ⟨Below.refl _ _, HR5.out, HX5.out, HI5.out.k.cell HSs.out HBs.out.cell, HI5.out.k.cell HSl.out HBl.out.cell, ?_, HI5.out.k.tab HSt.out HT.out⟩
              have := HI5.out.m.cell (j := i) (by omega)
              rw [hm]; exact this
            have hWHY := step_why HRUN.out (by rw [← HN.out]; exact hiN) HX.out HRm.out HO.out.symm hm
            obtain ⟨q1, q2, q3, q4⟩ := rowL_ok r HRm.out
            have hst := fun W (hS : S11 w5 m0 bx br Bl Bs x r (.slice (some ⟨b, o, none⟩) N c) s i m W) => stepOf_any r x s ((N : Int) - i - 1) m hmlt W hS.tab q1 q2 q3 q4
            rw [← HN.out] at hWHY
            obtain ⟨h, hh⟩ : ∃ v, v = (onlyP m).1 := ⟨_, rfl⟩
            obtain ⟨bh, hbh⟩ : ∃ v, v = (onlyP m).1 - r.takes + r.lays := ⟨_, rfl⟩
            obtain ⟨e, he⟩ : ∃ v, v = whyP r x s (onlyP m).2 (onlyP m).1 ((N : Int) - i - 1) := ⟨_, rfl⟩
            rw [← he, ← hbh, ← hh] at hWHY
            rw [← he, ← hbh, ← hh] at hst
            have HST := hid hst
            have HWHY := hid hWHY
            have HS5 := hid hS5
            have HM := hid hm
            have wr1 : IntKind.i64.wrap ((N : Int) - i) = (N : Int) - i := IntWalk.i64_in _ (by omega)
            have wr2 : IntKind.i64.wrap ((N : Int) - i - 1) = (N : Int) - i - 1 := IntWalk.i64_in _ (by omega)
            have hi32 : i < 32 := by omega
            clear hst hWHY hS5 hm hmlt hh hbh he q1 q2 q3 q4
            refine AI.wp_region_new' 12 _ _ rfl (S11 w5 m0 bx br Bl Bs x r (.slice (some ⟨b, o, none⟩) N c) s i m) (fun g W' => W'.heap[g]? = some (.cells (stA 0 0 0) 70 (0, 0)) ∧ w5.heap.size ≤ g) (by kernel_rfl) (by kernel_rfl) rfl rfl (HS5.out.on (Below.refl _ _).drew) ?hT ?hal ?_
            case hT => exact fun g W W' hh hF => ⟨(hF.block g (Array.getElem?_eq_some_iff.1 hh.1).1 (fun h => h)).trans hh.1, hh.2⟩
            case hal =>
              intro a W' hS
              refine ⟨W'.alloc (.cells (stA 0 0 0) 70), ?_, hS.on ((Below.refl _ _).alloc (Nat.le_refl _) _), heap_alloc_new _ _, hS.b.size⟩
              go_simp
              rfl
            simp only [List.take_succ_cons, List.take_zero]
            repeat (first
              | ((with_reducible refine A.atS ⟨some 43, _, _, _, _, _⟩ ?_); refine A.wpSure_read (.agg (rwA r)) rfl (fun W hS => AI.exec_load_row 80 _ rfl br rfl 80 _ _ _ hS.r_ Tryd.underlying80 rfl (rwA_size r)) ?_; simp only [Act.put, List.setIfInBounds_toArray, List.set_cons_zero, List.set_cons_succ])
              | ((with_reducible refine A.atS ⟨some 44, _, _, _, _, _⟩ ?_); refine A.wpSure_read (.agg (insA x)) rfl (fun W hS => AI.exec_load_row 45 _ rfl bx rfl 45 _ _ _ hS.x_ Tryd.underlying45 rfl (insA_size x)) ?_; simp only [Act.put, List.setIfInBounds_toArray, List.set_cons_zero, List.set_cons_succ])
              | ((with_reducible refine A.atS ⟨some 54, _, _, _, _, _⟩ ?_); refine A.wpSure_call _ _ _ rfl ?_ (fun W hS => HST.out W hS) (fun W W' hS hB => hS.on hB) ?_; (solve | (intro W; go_simp)); simp only [Act.put, List.setIfInBounds_toArray, List.set_cons_zero, List.set_cons_succ])
              | ((with_reducible refine A.atS ⟨some 47, _, _, _, _, _⟩ ?_); refine A.wpSure_value (.pointer (some ⟨m0, i, none⟩)) rfl (fun W => by go_simp; intro hh; exfalso; omega) ?_; simp only [Act.put, List.setIfInBounds_toArray, List.set_cons_zero, List.set_cons_succ])
              | (refine' A.wpSure_value _ rfl _ _; rotate_left; (solve | (intro W; go_simp) | (intro W; go_simp; with_reducible rfl)); simp only [Act.put, List.setIfInBounds_toArray, List.set_cons_zero, List.set_cons_succ])
              | (refine' A.wpSure_read _ rfl _ _; rotate_left; (solve | (intro W hS; have k1 := hS.cs; have k2 := hS.cl; have k3 := hS.cm; clear hS; go_simp) | (intro W hS; have k1 := hS.cs; have k2 := hS.cl; have k3 := hS.cm; clear hS; go_simp; with_reducible rfl)); simp only [Act.put, List.setIfInBounds_toArray, List.set_cons_zero, List.set_cons_succ]))
            refine A.wpSure_end ?_
            intro g W' hS hg
            obtain ⟨W6, hW6⟩ : ∃ W6, W6 = W'.setRow g (stA h bh e) := ⟨_, rfl⟩
            have hb6 : Below w5.heap.size w5 W6 := by rw [hW6]; exact below_setRow hS.b _ _ hg.2
            have hg6 : W6.heap[g]? = some (.cells (stA h bh e) 70 (0, 0)) := by rw [hW6]; exact setRow_heap _ _ _ _ _ _ hg.1
            have hmg : m0 < g := Nat.lt_of_lt_of_le (Array.getElem?_eq_some_iff.1 HI5.out.m).1 hg.2
            have HI6 := hid (HI5.out.on HJO.out hb6)
            have HX6 := hid (HX5.out.on hb6)
            have HG6 := hid hg6
            have HW6 := hid hW6
            have hy0 := HY.out (goodL ls s hs) ⟨i, h, bh, e⟩ W6 HI6.out.j (by rw [good_len, (run_small i HRUN.out (by rw [← HN.out]; omega)).1]; omega)
            obtain ⟨fn, tmps, assign, body, hy, hRd⟩ := hy0
            dsimp only [yst] at hy
            have HRD := hid hRd
            refine AI.wpListIn_skipW rfl W6 (by rw [HW6.out]; exact exec_store_row 70 _ _ rfl g (stA h bh e) rfl rfl 70 (stA 0 0 0) hg.1 (stA_size h bh e) rfl (stA_one _ _ _)) ?_
            clear HW6 hW6 hb6 hg6 hg hS HI5 HX5 HR5 HS5 HST hRd W'
            simp only [Act.put, List.setIfInBounds_toArray, List.set_cons_zero, List.set_cons_succ]
            gi_wp2_with (first | ((with_reducible refine AI.at_opI ⟨some 57, _, _, _, _, _⟩ ?_); refine AI.wpListIn_run rfl (.agg (stA h bh e)) W6 (AI.exec_load_row 70 _ rfl g rfl 70 _ _ _ HG6.out Tryd.underlying70 rfl (stA_size h bh e)) ?_) | fail)
            refine ⟨(fun h => by cases h), HRD.out.mono ?_⟩
            rintro e7 W7 (⟨rfl, hJ7, hk7⟩ | ⟨rfl, hJx7⟩)
            · have hg7 := hk7 g _ _ _ (.inr (.inr (.inr rfl))) HG6.out
              have HX7 : RowKit.Hid (InI W7 bx x) := hid (hk7 bx _ _ _ (.inr (.inr (.inl rfl))) HX6.out)
              have HI7 : RowKit.Hid (SI S W J m0 (goodL ls s hs ++ [⟨i, h, bh, e⟩]) (fun j => maskP ls s hs j i) W7) := hid ⟨hJ7, hk7 m0 _ _ _ (.inr (.inl rfl)) HI6.out.m, HI6.out.k.t hk7⟩
              have s2 : W7.cell? ⟨g, 2, none⟩ = some (.int .i64 e) := by simp [World.cell?, hg7, stA]
              have HG7 := hid hg7
              clear hJ7 hk7 hg7 HG6 HX6 HI6 HRD hy
              by_cases he0 : e = 0
              · subst he0
                obtain ⟨hw1, hw2⟩ := HWHY.out
                obtain ⟨rfl, rfl⟩ := hw2 hw1.symm
                have hst0 := hw1.symm
                obtain ⟨q7, q11⟩ := step_right HX.out hst0
                rw [← HN.out] at q7 q11
                have hnl := next_lt q7 q11
                have hrg := run_go HRUN.out hst0
                have hsm := (run_small (i + 1) hrg (by rw [← HN.out]; omega)).2 i (by omega) x HX.out
                have hlen := (run_small i HRUN.out (by rw [← HN.out]; omega)).1
                have hg := good_app (ls := ls) (s := s) (h := hs) (v := (stepE ls s hs i).2) (x := x) (by rw [hlen]; exact HX.out)
                rw [hlen] at hg
                obtain ⟨v, hv⟩ : ∃ v, v = (stepE ls s hs i).2 := ⟨_, rfl⟩
                rw [← hv] at hrg hsm hg HI7 HG7
                have hms := mask_step (s := s) (v := v) hlen HX.out (fun hh => (q7 hh).1)
                have hl9 : (leftP x s v).toNat < 9 := by
                  have hx1 : (hs ++ [v]).getD i 0 = v := by rw [← hlen]; exact getD_end _ _
                  rw [hx1] at hsm
                  omega
                have hl9' : 0 ≤ leftP x s v := by
                  have hx1 : (hs ++ [v]).getD i 0 = v := by rw [← hlen]; exact getD_end _ _
                  rw [hx1] at hsm
                  exact hsm.2.2.1
                rw [← hg] at HI7
                have hnx := next_any i x W7 (by omega) (fun hh => by have := q7 hh; omega)
                rw [next_k i x (fun hh => (q7 hh).1)] at hnx
                obtain ⟨L, hL⟩ : ∃ L, L = nextK i x := ⟨_, rfl⟩
                obtain ⟨bv, hbv⟩ : ∃ u, u = leftP x s v := ⟨_, rfl⟩
                rw [← hbv] at hms hl9 hl9' HG7
                rw [← hL] at hnx hms hnl
                have hLl : L.length ≤ 2 := by rw [hL]; exact nextK_len i x
                clear hbv
                obtain ⟨kb, rfl⟩ := Int.eq_ofNat_of_zero_le hl9'
                rw [Int.toNat_natCast] at hl9 hms
                have HNX := hid hnx
                have HMS := hid hms
                have HNL := hid hnl
                have HRG := hid hrg
                have HL9 := hid hl9
                have hm07 := (Array.getElem?_eq_some_iff.1 HI7.out.m).1
                have hg07 := (Array.getElem?_eq_some_iff.1 HG7.out).1
                have HMG := hid hmg
                clear hw1 hw2 HWHY hst0 q7 q11 hlen hg hsm hv hms hl9 hl9' hnx hL hnl hrg hmg
                gi_wp2_with (first | ((with_reducible refine AI.at_opI ⟨some 66, _, _, _, _, _⟩ ?_); refine AI.wpListIn_run rfl (.agg (insA x)) W7 (AI.exec_load_row 45 _ rfl bx rfl 45 _ _ _ HX7.out Tryd.underlying45 rfl (insA_size x)) ?_) | fail)
                refine ⟨trivial, (fun h => by cases h), (callsIn_wide.2 HNX.out).mono ?_⟩
                rintro e w8 ⟨an, cn, rfl, hEI⟩
                have HI8 := hid (HI7.out.on HJO.out hEI.2.1)
                have HG8 := hid ((hEI.2.1.block _ hg07).trans HG7.out)
                have HN8 := hid (NxT.of hEI hm07)
                clear hm07 hg07 hEI HNX HI7 HX7 HG7
                have e1 : (List.map Int.ofNat L).length = L.length := List.length_map _
                rw [e1]
                clear e1
                gi_wp2
                gi_loopw [69] (fun p wr => ∃ q : Nat, q ≤ L.length ∧ p = .int .i64 q ∧ RowKit.Hid (SI S W J m0 (goodL ls s (hs ++ [v])) ((L.take q).foldl (updM kb) (fun j => maskP ls s hs j i)) wr) ∧ RowKit.Hid (wr.heap[g]? = some (.cells (stA v kb 0) 70 (0, 0))) ∧ RowKit.Hid (NxT m0 an L wr)) (fun p _ => L.length - (intOf p).toNat)
                case atStart => exact ⟨0, by omega, rfl, HI8, HG8, HN8⟩
                case round =>
                  obtain ⟨q, hq, rfl, HIr, HGr, HNr⟩ := hrel
                  clear HI8 HG8 HN8
                  by_cases hqL : q < L.length
                  · obtain ⟨gn, rfl, hgn, hcn⟩ := HNr.out q hqL
                    obtain ⟨t, hte⟩ : ∃ t, t = L.getD q 0 := ⟨_, rfl⟩
                    have hLq : L[q]? = some t := by rw [hte, List.getD_eq_getElem?_getD, List.getElem?_eq_getElem hqL]; rfl
                    have ht := HNL.out t (List.mem_of_getElem? hLq)
                    rw [← hte] at hcn
                    have ht32 : t < 32 := by omega
                    have hup := List.foldl_append (f := updM kb) (b := fun j => maskP ls s hs j i) (l := L.take q) (l' := [t])
                    rw [show L.take q ++ [t] = L.take (q + 1) by rw [List.take_add_one, hLq]; rfl, List.foldl_cons, List.foldl_nil] at hup
                    have hlt := upd_lt HL9.out (L.take q) (f := fun j => maskP ls s hs j i) (fun j => (mask_now HRUN.out (by rw [← HN.out]; exact hi) j i (Nat.le_refl _)).1) t
                    obtain ⟨F, hF⟩ : ∃ F, F = (L.take q).foldl (updM kb) (fun j => maskP ls s hs j i) := ⟨_, rfl⟩
                    rw [← hF] at hup hlt HIr
                    obtain ⟨m, hm⟩ : ∃ m, m = F t := ⟨_, rfl⟩
                    rw [← hm] at hlt
                    have cm : wr.cell? ⟨m0, t, none⟩ = some (.int .u16 m) := by rw [hm]; exact HIr.out.m.cell ht32
                    have fm := HIr.out.m.frozen t
                    have cb : wr.cell? ⟨g, 1, none⟩ = some (.int .i64 kb) := by simp [World.cell?, HGr.out, stA]
                    have HUP := hid hup
                    have HF := hid hm
                    have hwa := fun w => with_any m kb hlt HL9.out w
                    have HWA := hid hwa
                    have HMLT := hid hlt
                    clear hup hte hLq ht hF hm hlt hwa
                    gi_wp2
                    refine G.wp_region_mix [0, 0, 0, 1, 0, 1, 2, 0, 3] (fun W => W.cell? ⟨m0, t, none⟩ = some (.int .u16 m) ∧ W.cell? ⟨g, 1, none⟩ = some (.int .i64 kb)) (by kernel_rfl) (by kernel_rfl) ⟨cm, cb⟩ ?_
                    repeat (first
                      | ((with_reducible refine E.atM ⟨some 75, _, _, _, _, _⟩ ?_); refine E.wpMix_value (.pointer (some ⟨m0, t, none⟩)) rfl rfl (fun W => by go_simp; intro hh; exfalso; omega) ?_; simp only [Act.put, List.setIfInBounds_toArray, List.set_cons_zero, List.set_cons_succ])
                      | (refine' E.wpMix_value _ rfl rfl _ _; rotate_left; (solve | (intro W; go_simp) | (intro W; go_simp; with_reducible rfl)); simp only [Act.put, List.setIfInBounds_toArray, List.set_cons_zero, List.set_cons_succ])
                      | (refine' E.wpMix_read _ rfl rfl _ _; rotate_left; (solve | (rintro W ⟨h1, h2⟩; go_simp) | (rintro W ⟨h1, h2⟩; go_simp; with_reducible rfl)); simp only [Act.put, List.setIfInBounds_toArray, List.set_cons_zero, List.set_cons_succ]))
                    refine E.wpMix_call 31 #[.int .u16 m, .int .i64 kb] (by decide) rfl (by go_simp) ?_
                    refine (HWA.out _).mono ?_
                    rintro e w' ⟨rfl, rfl⟩
                    refine ⟨_, rfl, fun _ => ⟨cm, cb⟩, ?_⟩
                    simp only [Act.put, List.setIfInBounds_toArray, List.set_cons_zero, List.set_cons_succ]
                    refine E.wpMix_value (.pointer (some ⟨m0, t, none⟩)) rfl rfl (fun W => by go_simp; intro hh; exfalso; omega) ?_
                    simp only [Act.put, List.setIfInBounds_toArray, List.set_cons_zero, List.set_cons_succ]
                    refine E.wpMix_skip (wr.drew.setCell ⟨m0, t, none⟩ (.int .u16 (m ||| 2 ^ kb : Nat))) (by decide) rfl (by clear cb; go_simp) (fun h => by cases h) ?_
                    simp only [Act.put]
                    refine E.wpMix_end ?_
                    obtain ⟨w9, hw9⟩ : ∃ w9, w9 = wr.drew.setCell ⟨m0, t, none⟩ (.int .u16 (m ||| 2 ^ kb : Nat)) := ⟨_, rfl⟩
                    have HId := HIr.out.on HJO.out (Below.refl _ _).drew
                    have hwm : W.heap.size ≤ m0 := by rw [HM0.out]; exact Nat.le_refl _
                    have hj9 := HJO.out.set (j := t) (v := .int .u16 (m ||| 2 ^ kb : Nat)) HId.j hwm HId.m
                    have hm9 := HId.m.set ht32 (m ||| 2 ^ kb)
                    have hk9 : KT S TY W w9 := fun k cs ty fr hS hk => by
                      rw [hw9]
                      have hkW := (Array.getElem?_eq_some_iff.1 hk).1
                      exact (Below.heap_setCell wr.drew ⟨m0, t, none⟩ _ k (fun (e : k = m0) => by omega)).trans (HId.k k cs ty fr hS hk)
                    have hg9 : w9.heap[g]? = some (.cells (stA v kb 0) 70 (0, 0)) := by
                      rw [hw9]
                      exact (Below.heap_setCell wr.drew ⟨m0, t, none⟩ _ g (fun (e : g = m0) => by have := HMG.out; omega)).trans HGr.out
                    have hn9 : NxT m0 (some ⟨gn, 0, none⟩) L w9 := by
                      rw [hw9]
                      exact NxT.set (W := wr.drew) HNr.out t _
                    have hF9 : (fun j => if j = t then m ||| 2 ^ kb else F j) = (L.take (q + 1)).foldl (updM kb) (fun j => maskP ls s hs j i) := by
                      rw [HUP.out]
                      funext j
                      unfold updM
                      by_cases e : j = t
                      · subst e; rw [if_pos rfl, if_pos rfl, HF.out]
                      · rw [if_neg e, if_neg e]
                    rw [hF9, ← hw9] at hm9
                    rw [← hw9] at hj9 ⊢
                    have HI9 := hid (show SI S W J m0 _ _ w9 from ⟨hj9, hm9, hk9⟩)
                    have HG9 := hid hg9
                    have HN9 := hid hn9
                    clear HId hj9 hm9 hk9 hg9 hn9 hw9 hF9 cm fm cb
                    gi_wp2
                    go_roundw
                    case rel => exact ⟨q + 1, by omega, by go_num, HI9, HG9, HN9⟩
                    case measure => simp [intOf]; omega
                  · obtain rfl : q = L.length := by omega
                    have d5 : decide ((L.length : Int) < (L.length : Int)) = false := by simp
                    rw [List.take_length] at HIr
                    rw [HMS.out] at HIr
                    gi_wp2
                    go_roundw
                    case rel => exact ⟨i + 1, _, by omega, by go_num, HRG, HIr⟩
                    case measure => simp [intOf]; omega
              · have d2 : (e != 0) = true := by simpa using he0
                have HE0 := hid he0
                clear he0
                gi_wp2
                refine bodyPost_ret (results_none rfl _ _ _) rfl ?_
                exact ⟨⟨_, rfl⟩, .inl ⟨_, told_at h bh HRUN.out (by rw [← HN.out]; exact hiN) (by rw [← HN.out]; exact hNN.2) HWHY.out.1 HE0.out, HI7.out.j⟩⟩
            · have J7 := hid hJx7
              clear hJx7
              gi_wp2
              refine bodyPost_ret (results_none rfl _ _ _) rfl ?_
              refine ⟨⟨_, rfl⟩, .inr ⟨_, ?_, J7.out⟩⟩
              obtain ⟨hw1, hw2⟩ := HWHY.out
              by_cases he0 : e = 0
              · subst he0
                obtain ⟨rfl, rfl⟩ := hw2 hw1.symm
                have hlen := (run_small i HRUN.out (by rw [← HN.out]; omega)).1
                have hg := good_app (ls := ls) (s := s) (h := hs) (v := (stepE ls s hs i).2) (x := x) (by rw [hlen]; exact HX.out)
                rw [hlen] at hg
                rw [← hg]
                exact told_to (run_go HRUN.out hw1.symm) (by rw [← HN.out]; omega) (by rw [← HN.out]; exact hNN.1) (by rw [← HN.out]; exact hNN.2)
              · exact ⟨_, told_at h bh HRUN.out (by rw [← HN.out]; exact hiN) (by rw [← HN.out]; exact hNN.2) hw1 he0, List.prefix_rfl⟩
          · obtain rfl : q = 11 := by omega
            have hnn := step_none (s := s) (h := hs) HX.out HQ.out
            have HNN := hid hnn
            have hy0 := HY.out (goodL ls s hs) ⟨i, 0, 0, 5⟩ wr HIq.out.j (by rw [good_len, (run_small i HRUN.out (by rw [← HN.out]; omega)).1]; omega)
            obtain ⟨fn, tmps, assign, body, hy, hRd⟩ := hy0
            dsimp only [yst, stA] at hy
            have HRD := hid hRd
            clear hRd hnn HQ
            gi_wp2
            refine ⟨(fun h => by cases h), HRD.out.mono ?_⟩
            rintro e7 W7 (⟨rfl, hJ7, hk7⟩ | ⟨rfl, hJx7⟩)
            · have J7 := hid hJ7
              clear hJ7 hk7 hy
              gi_wp2
              refine bodyPost_ret (results_none rfl _ _ _) rfl ?_
              exact ⟨⟨_, rfl⟩, .inl ⟨_, told_at 0 0 HRUN.out (by rw [← HN.out]; exact hiN) (by rw [← HN.out]; exact hNN.2) HNN.out.symm (by decide), J7.out⟩⟩
            · have J7 := hid hJx7
              clear hJx7 hy
              gi_wp2
              refine bodyPost_ret (results_none rfl _ _ _) rfl ?_
              exact ⟨⟨_, rfl⟩, .inr ⟨_, ⟨_, told_at 0 0 HRUN.out (by rw [← HN.out]; exact hiN) (by rw [← HN.out]; exact hNN.2) HNN.out.symm (by decide), List.prefix_rfl⟩, J7.out⟩⟩
      · have hiN2 : i = N := by omega
        subst hiN2
        have d5 : decide ((i : Int) < (i : Int)) = false := by simp
        have hta := told_all (ls := ls) (s := s) (h := hs) (by rw [← HN.out]; exact HRUN.out) (by rw [← HN.out]; exact hNN.1) (by rw [← HN.out]; exact hNN.2)
        have HTA := hid hta
        clear hta
        gi_wp2
        show bodyPost _ _ _ .normal _ _
        refine bodyPost_end (results_none rfl _ _ _) rfl ?_
        exact ⟨⟨_, rfl⟩, .inl ⟨_, HTA.out, HI.out.j⟩⟩
end Go.Proofs.YtcoclaabainibaaDoor
