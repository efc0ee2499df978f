/-
  A range over a function that tells what lies in memory: the body of a round is handed what holds of the told one in the world of the yield. It speaks of any program.
-/
import Derived.RangeFuncNested
import Derived.RangeFuncBound
import Derived.RangeFuncCalls
import Derived.RangeFuncLeaves
import Derived.RangeFuncFrom
import Derived.RangeFuncBox
namespace Go.Proofs.Ytbdhjkdojgdhbaa
open Go Go.RowKit

/-- An iterator's word: what it tells is as 'Mem' says when it is told. -/
def Tells {α : Type} (F : Fence) (n : Nat) (P : Program) (g : Nat) (lb : Array Value) (encs : α → Array Value) (Mem : α → World → Prop) (Kp : World → World → Prop) (S Sp : List α → Prop) (w : World) : Prop :=
  ∀ (l : Nat) (J Jx : List α → World → Prop) (W : World), Below w.heap.size w W → OwnFrom W.heap.size J → OwnFrom W.heap.size Jx →
    (∀ pre x W1, J pre W1 → Mem x W1 → YieldAt F (n - 1) P l (encs x) W1 fun e W' => (e = .returned (.bool true) ∧ J (pre ++ [x]) W' ∧ Kp W1 W' ∧ KeepsFrom W.heap.size W1 W') ∨ (e = .returned (.bool false) ∧ Jx (pre ++ [x]) W' ∧ KeepsFrom W.heap.size W1 W')) →
    J [] W → CallsIn F n P g (#[.func (.yield l) #[] #[]] ++ lb) W fun e W' => (∃ v, e = .returned v) ∧ ((∃ xs, S xs ∧ J xs W') ∨ (∃ pre, Sp pre ∧ Jx pre W'))
theorem kf_up {B B' : Nat} {W W' : World} (h : KeepsFrom B W W') (hB : B ≤ B') : KeepsFrom B' W W' := ⟨h.size, fun k o hk => h.same k o (Nat.le_trans hB hk)⟩
theorem kf_puts {B l : Nat} (W : World) (o : Obj) (hl : l < B) : KeepsFrom B W (W.putObj l o) := ⟨by simp, fun k o' hk ho _ => (World.putObj_heap_other (by omega)).trans ho⟩
variable {F : Fence} {n : Nat} {P : Program}
/-- The loop's record and its block for deferred calls, at these places. -/
structure Books (rec : LoopState → Option Code → Loop) (k : Nat) (st : LoopState) (pe : Option Code) (W : World) : Prop where
  loop : W.heap[k + 1]? = some (.loop (rec st pe))
  defs : W.heap[k]? = some (.deferred (some []))
theorem Books.lt {rec : LoopState → Option Code → Loop} {k : Nat} {st : LoopState} {pe : Option Code} {W : World} (h : Books rec k st pe W) : k + 1 < W.heap.size := (Array.getElem?_eq_some_iff.1 h.loop).1
theorem Books.keep {rec : LoopState → Option Code → Loop} {k : Nat} {st : LoopState} {pe : Option Code} {W W' : World} (h : Books rec k st pe W) (hk : KeepsFrom k W W') : Books rec k st pe W' := ⟨hk.same _ _ (by omega) h.loop rfl, hk.same _ _ (Nat.le_refl _) h.defs rfl⟩
theorem Books.put {rec : LoopState → Option Code → Loop} {k : Nat} {st st' : LoopState} {pe pe' : Option Code} {W : World} (h : Books rec k st pe W) : Books rec k st' pe' (W.putObj (k + 1) (.loop (rec st' pe'))) := ⟨World.putObj_heap_same h.lt, (World.putObj_heap_other (by omega)).trans h.defs⟩
theorem Books.walk {rec : LoopState → Option Code → Loop} {k : Nat} {st : LoopState} {pe : Option Code} {W W' : World} {row : Option Nat} (h : Books rec k st pe W) (hg : W.grownBy W' row) (hr : ∀ r, row = some r → ∃ o : Obj, W.heap[r]? = some o ∧ o.isWalk = true) : Books rec k st pe W' :=
  ⟨(grownBy_keeps hg hr h.loop rfl).trans h.loop, (grownBy_keeps hg hr h.defs rfl).trans h.defs⟩
set_option maxHeartbeats 2000000 in
theorem rangeFunc_mem {α : Type} {g : Operand} {ps : Array Tmp} {assign body : Code} {Q : Exit → Act → World → Prop} {a : Act} {w : World} (hro : F.round = none) (h1 : 1 ≤ n) {gf : Nat} {lb : Array Value} (hg : a.eval g = .func (.func gf) #[] lb) (hFg : F.fn gf)
    (eg : ∀ args w, (callFunc gf args).run P w = .ok (.enter gf args) w) {encs : α → Array Value} {Mem : α → World → Prop} {Kp : World → World → Prop} {S Sp : List α → Prop} (hseq : Tells F (n - 1) P gf lb encs Mem Kp S Sp w)
    (hKt : ∀ {A B C : World}, Kp A B → Kp B C → Kp A C) (hKb : ∀ (W : World) (l : Nat) (o o' : Obj), w.heap.size ≤ l → W.heap[l]? = some o → o.isCells = false → o.isWalk = false → Kp W (W.putObj l o')) (hps : ∀ x, (encs x).size = ps.size)
    (I : List α → World → Prop) (Ix : Code → List α → World → Prop) (hI : OwnFrom w.heap.size I) (hIx : ∀ c, OwnFrom w.heap.size (Ix c)) (h0 : I [] w) (Ax : List α → α → Act → World → Prop) (hAx : ∀ pre x a', OwnFrom w.heap.size (fun (_ : Unit) W => Ax pre x a' W))
    (hassign : ∀ (l : Nat) (pre : List α) (x : α) (W : World) (K : Act → World → Prop), I pre W → Mem x W → (∀ a' W', KeepsFrom w.heap.size W W' → Kp W W' → Ax pre x a' W' → K a' W') →
      assign.wpIn (F.inRound l) (n - 1 - 1) P (Exit.then K (fun _ _ _ => False)) { tmps := (ps.zip (encs x)).foldl (fun t (p, v) => t.setIfInBounds p v) a.tmps, defers := [] } W)
    (hbody : ∀ (l : Nat) (pre : List α) (x : α) (a' : Act) (W : World), w.heap.size ≤ l → (∃ r, W.heap[l]? = some (.loop r)) → Ax pre x a' W → body.wpIn (F.inRound l) (n - 1 - 1) P (ownPostG w.heap.size Kp I Ix (pre ++ [x]) W) a' W)
    (hdone : ∀ (D : Nat) (xs : List α) (W : World), w.heap.size ≤ D → S xs → I xs W → W.heap[D]? = some (.deferred (some [])) → Q .normal { a with defers := { target := .collected D, args := #[] } :: a.defers } W)
    (hstop : ∀ (D : Nat) (c : Code) (pre : List α) (W : World), w.heap.size ≤ D → Sp pre → Ix c pre W → W.heap[D]? = some (.deferred (some [])) → c.wpIn F n P Q { a with defers := { target := .collected D, args := #[] } :: a.defers } W) :
    (Code.rangeFunc g ps assign body).wpIn F n P Q a w := by
  refine wpIn_rangeFunc fun fn hfn => ?_
  rw [hro]
  obtain ⟨rec, hrec⟩ : ∃ rec : LoopState → Option Code → Loop, rec = fun st pe => { state := st, pending := pe, fn, tmps := a.tmps, params := ps, assign, body, defers := w.heap.size } := ⟨_, rfl⟩
  have hbk : Books rec w.heap.size .ready none ((w.alloc (.deferred (some []))).alloc (.loop (rec .ready none))) := by
    refine ⟨?_, (Below.heap_alloc _ _ _ (by simp)).trans (World.alloc_heap_new w _)⟩
    have h := World.alloc_heap_new (w.alloc (.deferred (some []))) (.loop (rec .ready none))
    rwa [World.size_alloc] at h
  have hbw : Below w.heap.size w ((w.alloc (.deferred (some []))).alloc (.loop (rec .ready none))) := ((Below.refl _ w).alloc (Nat.le_refl _) _).alloc (by simp) _
  have hI1 : I [] ((w.alloc (.deferred (some []))).alloc (.loop (rec .ready none))) := hI.alloc _ (hI.alloc _ h0)
  have hen := run_enterLoop_outer (P := P) (w := w) fn a.tmps ps assign body
  rw [show ({ state := .ready, pending := none, fn, tmps := a.tmps, params := ps, assign, body, defers := w.heap.size } : Loop) = rec .ready none by rw [hrec]] at hen
  obtain ⟨W1, hW1⟩ : ∃ W1, W1 = (w.alloc (.deferred (some []))).alloc (.loop (rec .ready none)) := ⟨_, rfl⟩
  rw [← hW1] at hbk hbw hI1 hen
  have hsz : w.heap.size ≤ W1.heap.size := hbw.size
  have hsz2 : W1.heap.size = w.heap.size + 2 := by rw [hW1]; simp
  -- one round
  have round : ∀ pre x W, (I pre W ∧ Books rec w.heap.size .ready none W) → Mem x W → YieldAt F (n - 1 - 1) P (w.heap.size + 1) (encs x) W fun e W' =>
      (e = .returned (.bool true) ∧ (I (pre ++ [x]) W' ∧ Books rec w.heap.size .ready none W') ∧ Kp W W' ∧ KeepsFrom W1.heap.size W W') ∨ (e = .returned (.bool false) ∧ (∃ c, Ix c (pre ++ [x]) W' ∧ Books rec w.heap.size .done (some c) W') ∧ KeepsFrom W1.heap.size W W') := by
    rintro pre x W ⟨hi, hb⟩ hm
    have hy := run_yield (P := P) (args := encs x) hb.loop (by rw [hrec]; exact hps x)
    rw [hrec] at hy
    refine ⟨fn, _, assign, body, hy, roundIn_of_wpIn hfn (hassign _ pre x W _ hi hm fun a' Wa hk hkp hax => ?_)⟩
    have hba := hb.keep hk
    refine ⟨_, run_beginRound hba.loop (by rw [hrec]), ?_⟩
    have hbb : Books rec w.heap.size .busy none (Wa.putObj (w.heap.size + 1) (.loop (rec .busy none))) := hba.put
    have hkb : Kp Wa (Wa.putObj (w.heap.size + 1) (.loop (rec .busy none))) := hKb _ _ _ _ (by omega) hba.loop rfl rfl
    have hab := (hAx pre x a').putObj (s := ()) (.loop (rec .busy none)) hax (by omega) hba.loop rfl
    have hr : ({ rec .ready none with state := .busy } : Loop) = rec .busy none := by rw [hrec]
    rw [hr]
    refine wpIn_mono (hbody _ pre x a' _ (by omega) ⟨_, hbb.loop⟩ hab) ?_
    have kept : ∀ (W3 : World) (o : Obj), KeepsFrom w.heap.size (Wa.putObj (w.heap.size + 1) (.loop (rec .busy none))) W3 → KeepsFrom W1.heap.size W (W3.putObj (w.heap.size + 1) o) := fun W3 o hk3 =>
      (((kf_up hk hsz).trans (kf_puts Wa _ (by omega))).trans (kf_up hk3 hsz)).trans (kf_puts W3 o (by omega))
    have left : ∀ (c : Code) (W3 : World), KeepsFrom w.heap.size (Wa.putObj (w.heap.size + 1) (.loop (rec .busy none))) W3 → Ix c (pre ++ [x]) W3 → ∃ v W4, (Instr.endRound (w.heap.size + 1) (some c)).run P W3 = .ok v W4 ∧
        ((Ending.returned v = .returned (.bool true) ∧ (I (pre ++ [x]) W4 ∧ Books rec w.heap.size .ready none W4) ∧ Kp W W4 ∧ KeepsFrom W1.heap.size W W4) ∨ (Ending.returned v = .returned (.bool false) ∧ (∃ c, Ix c (pre ++ [x]) W4 ∧ Books rec w.heap.size .done (some c) W4) ∧ KeepsFrom W1.heap.size W W4)) := fun c W3 hk3 hi3 => by
      have hb3 := hbb.keep hk3
      have he := run_endRound (P := P) (some c) hb3.loop
      have hr2 : ({ rec .busy none with state := if (some c).isNone then .ready else .done, pending := some c } : Loop) = rec .done (some c) := by rw [hrec]; rfl
      refine ⟨_, _, he, .inr ⟨by simp, ⟨c, ?_, ?_⟩, kept W3 _ hk3⟩⟩
      · exact (hIx c).putObj _ hi3 (by omega) hb3.loop rfl
      · have := hb3.put (st' := .done) (pe' := some c)
        rw [← hr2] at this; exact this
    rintro e a3 W3 hp
    cases e with
    | normal =>
      obtain ⟨hk3, hkp3, hi3⟩ := hp
      have hb3 := hbb.keep hk3
      have he := run_endRound (P := P) none hb3.loop
      have hr2 : ({ rec .busy none with state := if (none : Option Code).isNone then .ready else .done, pending := none } : Loop) = rec .ready none := by rw [hrec]; rfl
      refine ⟨_, _, he, .inl ⟨by simp, ⟨hI.putObj _ hi3 (by omega) hb3.loop rfl, ?_⟩, hKt hkp (hKt hkb (hKt hkp3 (hKb _ _ _ _ (by omega) hb3.loop rfl rfl))), kept W3 _ hk3⟩⟩
      have := hb3.put (st' := .ready) (pe' := none)
      rw [← hr2] at this; exact this
    | ret => exact left .ret W3 hp.1 hp.2
    | exit id => exact left (.exit id) W3 hp.1 hp.2
    | goto t => exact left (.goto t) W3 hp.1 hp.2
    | panic ch => exact hp.elim
    | outgrown => exact hp.elim
  have bk : ∀ {st : LoopState} {pe : Option Code} {A B : World} {row : Option Nat}, Books rec w.heap.size st pe A → A.grownBy B row → (∀ r, row = some r → W1.heap.size ≤ r ∧ ∃ o : Obj, A.heap[r]? = some o ∧ o.isCells = false) → Books rec w.heap.size st pe B := fun h3 hg hr =>
    ⟨(hg.block _ h3.lt (fun e => by have := (hr _ e.symm).1; omega)).trans h3.loop, (hg.block _ (by have := h3.lt; omega) (fun e => by have := (hr _ e.symm).1; omega)).trans h3.defs⟩
  have call := hseq (w.heap.size + 1) (fun pre W => I pre W ∧ Books rec w.heap.size .ready none W) (fun pre W => ∃ c, Ix c pre W ∧ Books rec w.heap.size .done (some c) W) W1 hbw
    (fun s A B row ⟨h2, h3⟩ hg hr => ⟨hI s A B row h2 hg (fun r e => ⟨Nat.le_trans hsz (hr r e).1, (hr r e).2⟩), bk h3 hg hr⟩)
    (fun s A B row ⟨c, h2, h3⟩ hg hr => ⟨c, hIx c s A B row h2 hg (fun r e => ⟨Nat.le_trans hsz (hr r e).1, (hr r e).2⟩), bk h3 hg hr⟩) round ⟨hI1, hbk⟩
  refine ⟨w.heap.size + 1, [{ target := .collected w.heap.size, args := #[] }], W1, { target := .fn (.func gf) lb, args := #[.func (.yield (w.heap.size + 1)) #[] #[]] }, W1, gf, #[.func (.yield (w.heap.size + 1)) #[] #[]] ++ lb, W1, ?_, ?_, ?_, ?_, fun _ => h1, ?_⟩
  · exact hen
  · simp only [resolve, hg]
    simp [go_sem]
  · intro f' hf'
    simp [Target.leads] at hf'
    subst hf'
    exact hFg
  · simp [invoke, go_sem, eg]
  · refine call.mono ?_
    rintro e W2 ⟨⟨v, rfl⟩, (⟨xs, hS, hi, hb⟩ | ⟨pre, hSp, c, hi, hb⟩)⟩
    · have he := run_endLoop (P := P) hb.loop (by rw [hrec]; simp)
      rw [show (rec .ready none).pending = none by rw [hrec]] at he
      exact ⟨none, _, he, hdone _ xs _ (Nat.le_refl _) hS (hI.putObj _ hi (by omega) hb.loop rfl) ((World.putObj_heap_other (by omega)).trans hb.defs)⟩
    · have he := run_endLoop (P := P) hb.loop (by rw [hrec]; simp)
      rw [show (rec .done (some c)).pending = some c by rw [hrec]] at he
      exact ⟨some c, _, he, hstop _ c pre _ (Nat.le_refl _) hSp ((hIx c).putObj _ hi (by omega) hb.loop rfl) ((World.putObj_heap_other (by omega)).trans hb.defs)⟩
end Go.Proofs.Ytbdhjkdojgdhbaa
