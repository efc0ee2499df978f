/-
  A range over a function whose body is told that what comes is the next one of a row, and keeps what the iterator has chosen when it began. It speaks of any program.
-/
import Derived.Test.YtbdhjkdojgdhbaaMem
namespace Go.Proofs.Ytbdhjkdojgdhbaa
open Go Go.RowKit

/-- An iterator's word: it tells a row, one by one; t: what it has chosen at its beginning (Ok), which the rounds keep (Kp); Gd: what it asks of the world between two rounds. -/
def TellsX {α κ : Type} (F : Fence) (n : Nat) (P : Program) (g : Nat) (lb : Array Value) (encs : α → Array Value) (Ok : κ → World → World → Prop) (Kp : κ → World → World → Prop) (Gd : List α → World → Prop) (xs : List α) (w : World) : Prop :=
  ∀ (l : Nat) (J : κ → List α → World → Prop) (Jx : List α → World → Prop) (W : World), Below w.heap.size w W → (∀ t, OwnFrom W.heap.size (J t)) → OwnFrom W.heap.size Jx → (∀ t pre W', J t pre W' → Gd pre W') → Gd [] W →
    (∀ t pre x W1, J t pre W1 → pre ++ [x] <+: xs → YieldAt F (n - 1) P l (encs x) W1 fun e W' => (e = .returned (.bool true) ∧ J t (pre ++ [x]) W' ∧ Kp t W1 W' ∧ KeepsFrom W.heap.size W1 W') ∨ (e = .returned (.bool false) ∧ Jx (pre ++ [x]) W' ∧ KeepsFrom W.heap.size W1 W')) →
    (∀ t W', Ok t W W' → J t [] W') → CallsIn F n P g (#[.func (.yield l) #[] #[]] ++ lb) W fun e W' => (∃ v, e = .returned v) ∧ ((∃ t, J t xs W') ∨ (∃ pre, pre <+: xs ∧ Jx pre W'))
variable {F : Fence} {n : Nat} {P : Program}
set_option maxHeartbeats 2000000 in
theorem rangeFunc_x {α κ : Type} {g : Operand} {ps : Array Tmp} {assign body : Code} {Q : Exit → Act → World → Prop} {a : Act} {w : World} (hro : F.round = none) (h1 : 1 ≤ n) {gf : Nat} {lb : Array Value} (hg : a.eval g = .func (.func gf) #[] lb) (hFg : F.fn gf)
    (eg : ∀ args w, (callFunc gf args).run P w = .ok (.enter gf args) w) {encs : α → Array Value} {Ok : κ → World → World → Prop} {Kp : κ → World → World → Prop} {Gd : List α → World → Prop} {xs : List α} (hseq : TellsX F (n - 1) P gf lb encs Ok Kp Gd xs w) (hOk : ∀ t W W', Ok t W W' → Below W.heap.size W W')
    (hKt : ∀ t {A B C : World}, Kp t A B → Kp t B C → Kp t A C) (hKb : ∀ t (W : World) (l : Nat) (o o' : Obj), w.heap.size ≤ l → W.heap[l]? = some o → o.isCells = false → o.isWalk = false → Kp t W (W.putObj l o')) (hps : ∀ x, (encs x).size = ps.size)
    (I : κ → List α → World → Prop) (Ix : Code → List α → World → Prop) (hI : ∀ t, OwnFrom w.heap.size (I t)) (hIx : ∀ c, OwnFrom w.heap.size (Ix c)) (hGd : ∀ t pre W, I t pre W → Gd pre W) (hG0 : ∀ W, Below w.heap.size w W → Gd [] W) (h0 : ∀ t W1 W, Below w.heap.size w W1 → w.heap.size + 2 ≤ W1.heap.size → Ok t W1 W → I t [] W) (Ax : κ → List α → α → Act → World → Prop) (hAx : ∀ t pre x a', OwnFrom w.heap.size (fun (_ : Unit) W => Ax t pre x a' W))
    (hassign : ∀ (l : Nat) (t : κ) (pre : List α) (x : α) (W : World) (K : Act → World → Prop), I t pre W → pre ++ [x] <+: xs → (∀ a' W', KeepsFrom w.heap.size W W' → Kp t W W' → Ax t pre x a' W' → K a' W') →
      assign.wpIn (F.inRound l) (n - 1 - 1) P (Exit.then K (fun _ _ _ => False)) { tmps := (ps.zip (encs x)).foldl (fun t (p, v) => t.setIfInBounds p v) a.tmps, defers := [] } W)
    (hbody : ∀ (l : Nat) (t : κ) (pre : List α) (x : α) (a' : Act) (W : World), w.heap.size ≤ l → (∃ r, W.heap[l]? = some (.loop r)) → pre ++ [x] <+: xs → Ax t pre x a' W → body.wpIn (F.inRound l) (n - 1 - 1) P (ownPostG w.heap.size (Kp t) (I t) Ix (pre ++ [x]) W) a' W)
    (hdone : ∀ (D : Nat) (t : κ) (W : World), w.heap.size ≤ D → I t xs W → W.heap[D]? = some (.deferred (some [])) → Q .normal { a with defers := { target := .collected D, args := #[] } :: a.defers } W)
    (hstop : ∀ (D : Nat) (c : Code) (pre : List α) (W : World), w.heap.size ≤ D → pre <+: xs → Ix c pre W → W.heap[D]? = some (.deferred (some [])) → c.wpIn F n P Q { a with defers := { target := .collected D, args := #[] } :: a.defers } W) :
    (Code.rangeFunc g ps assign body).wpIn F n P Q a w := by
  refine wpIn_rangeFunc fun fn hfn => ?_
  rw [hro]
  obtain ⟨rec, hrec⟩ : ∃ rec : LoopState → Option Code → Loop, rec = fun st pe => { state := st, pending := pe, fn, tmps := a.tmps, params := ps, assign, body, defers := w.heap.size } := ⟨_, rfl⟩
  have hbk : Books rec w.heap.size .ready none ((w.alloc (.deferred (some []))).alloc (.loop (rec .ready none))) := by
    refine ⟨?_, (Below.heap_alloc _ _ _ (by simp)).trans (World.alloc_heap_new w _)⟩
    have h := World.alloc_heap_new (w.alloc (.deferred (some []))) (.loop (rec .ready none))
    rwa [World.size_alloc] at h
  have hbw : Below w.heap.size w ((w.alloc (.deferred (some []))).alloc (.loop (rec .ready none))) := ((Below.refl _ w).alloc (Nat.le_refl _) _).alloc (by simp) _
  have hen := run_enterLoop_outer (P := P) (w := w) fn a.tmps ps assign body
  rw [show ({ state := .ready, pending := none, fn, tmps := a.tmps, params := ps, assign, body, defers := w.heap.size } : Loop) = rec .ready none by rw [hrec]] at hen
  obtain ⟨W1, hW1⟩ : ∃ W1, W1 = (w.alloc (.deferred (some []))).alloc (.loop (rec .ready none)) := ⟨_, rfl⟩
  rw [← hW1] at hbk hbw hen
  have hsz : w.heap.size ≤ W1.heap.size := hbw.size
  have hsz2 : W1.heap.size = w.heap.size + 2 := by rw [hW1]; simp
  -- one round
  have round : ∀ t pre x W, (I t pre W ∧ Books rec w.heap.size .ready none W) → pre ++ [x] <+: xs → YieldAt F (n - 1 - 1) P (w.heap.size + 1) (encs x) W fun e W' =>
      (e = .returned (.bool true) ∧ (I t (pre ++ [x]) W' ∧ Books rec w.heap.size .ready none W') ∧ Kp t W W' ∧ KeepsFrom W1.heap.size W W') ∨ (e = .returned (.bool false) ∧ (∃ c, Ix c (pre ++ [x]) W' ∧ Books rec w.heap.size .done (some c) W') ∧ KeepsFrom W1.heap.size W W') := by
    rintro t pre x W ⟨hi, hb⟩ hm
    have hy := run_yield (P := P) (args := encs x) hb.loop (by rw [hrec]; exact hps x)
    rw [hrec] at hy
    refine ⟨fn, _, assign, body, hy, roundIn_of_wpIn hfn (hassign _ t pre x W _ hi hm fun a' Wa hk hkp hax => ?_)⟩
    have hba := hb.keep hk
    refine ⟨_, run_beginRound hba.loop (by rw [hrec]), ?_⟩
    have hbb : Books rec w.heap.size .busy none (Wa.putObj (w.heap.size + 1) (.loop (rec .busy none))) := hba.put
    have hkb : Kp t Wa (Wa.putObj (w.heap.size + 1) (.loop (rec .busy none))) := hKb t _ _ _ _ (by omega) hba.loop rfl rfl
    have hab := (hAx t pre x a').putObj (s := ()) (.loop (rec .busy none)) hax (by omega) hba.loop rfl
    have hr : ({ rec .ready none with state := .busy } : Loop) = rec .busy none := by rw [hrec]
    rw [hr]
    refine wpIn_mono (hbody _ t pre x a' _ (by omega) ⟨_, hbb.loop⟩ hm hab) ?_
    have kept : ∀ (W3 : World) (o : Obj), KeepsFrom w.heap.size (Wa.putObj (w.heap.size + 1) (.loop (rec .busy none))) W3 → KeepsFrom W1.heap.size W (W3.putObj (w.heap.size + 1) o) := fun W3 o hk3 =>
      (((kf_up hk hsz).trans (kf_puts Wa _ (by omega))).trans (kf_up hk3 hsz)).trans (kf_puts W3 o (by omega))
    have left : ∀ (c : Code) (W3 : World), KeepsFrom w.heap.size (Wa.putObj (w.heap.size + 1) (.loop (rec .busy none))) W3 → Ix c (pre ++ [x]) W3 → ∃ v W4, (Instr.endRound (w.heap.size + 1) (some c)).run P W3 = .ok v W4 ∧
        ((Ending.returned v = .returned (.bool true) ∧ (I t (pre ++ [x]) W4 ∧ Books rec w.heap.size .ready none W4) ∧ Kp t W W4 ∧ KeepsFrom W1.heap.size W W4) ∨ (Ending.returned v = .returned (.bool false) ∧ (∃ c, Ix c (pre ++ [x]) W4 ∧ Books rec w.heap.size .done (some c) W4) ∧ KeepsFrom W1.heap.size W W4)) := fun c W3 hk3 hi3 => by
      have hb3 := hbb.keep hk3
      have he := run_endRound (P := P) (some c) hb3.loop
      have hr2 : ({ rec .busy none with state := if (some c).isNone then .ready else .done, pending := some c } : Loop) = rec .done (some c) := by rw [hrec]; rfl
      refine ⟨_, _, he, .inr ⟨by simp, ⟨c, ?_, ?_⟩, kept W3 _ hk3⟩⟩
      · exact (hIx c).putObj _ hi3 (by omega) hb3.loop rfl
      · have := hb3.put (st' := .done) (pe' := some c)
        rw [← hr2] at this; exact this
    rintro e a3 W3 hp
    cases e with
    | normal =>
      obtain ⟨hk3, hkp3, hi3⟩ := hp
      have hb3 := hbb.keep hk3
      have he := run_endRound (P := P) none hb3.loop
      have hr2 : ({ rec .busy none with state := if (none : Option Code).isNone then .ready else .done, pending := none } : Loop) = rec .ready none := by rw [hrec]; rfl
      refine ⟨_, _, he, .inl ⟨by simp, ⟨(hI t).putObj _ hi3 (by omega) hb3.loop rfl, ?_⟩, hKt t hkp (hKt t hkb (hKt t hkp3 (hKb t _ _ _ _ (by omega) hb3.loop rfl rfl))), kept W3 _ hk3⟩⟩
      have := hb3.put (st' := .ready) (pe' := none)
      rw [← hr2] at this; exact this
    | ret => exact left .ret W3 hp.1 hp.2
    | exit id => exact left (.exit id) W3 hp.1 hp.2
    | goto t => exact left (.goto t) W3 hp.1 hp.2
    | panic ch => exact hp.elim
    | outgrown => exact hp.elim
  have bk : ∀ {st : LoopState} {pe : Option Code} {A B : World} {row : Option Nat}, Books rec w.heap.size st pe A → A.grownBy B row → (∀ r, row = some r → W1.heap.size ≤ r ∧ ∃ o : Obj, A.heap[r]? = some o ∧ o.isCells = false) → Books rec w.heap.size st pe B := fun h3 hg hr =>
    ⟨(hg.block _ h3.lt (fun e => by have := (hr _ e.symm).1; omega)).trans h3.loop, (hg.block _ (by have := h3.lt; omega) (fun e => by have := (hr _ e.symm).1; omega)).trans h3.defs⟩
  have call := hseq (w.heap.size + 1) (fun t pre W => I t pre W ∧ Books rec w.heap.size .ready none W) (fun pre W => ∃ c, Ix c pre W ∧ Books rec w.heap.size .done (some c) W) W1 hbw
    (fun t s A B row ⟨h2, h3⟩ hg hr => ⟨hI t s A B row h2 hg (fun r e => ⟨Nat.le_trans hsz (hr r e).1, (hr r e).2⟩), bk h3 hg hr⟩)
    (fun s A B row ⟨c, h2, h3⟩ hg hr => ⟨c, hIx c s A B row h2 hg (fun r e => ⟨Nat.le_trans hsz (hr r e).1, (hr r e).2⟩), bk h3 hg hr⟩) (fun t pre W' h => hGd t pre W' h.1) (hG0 W1 hbw) round (fun t W' h => ⟨h0 t W1 W' hbw (by omega) h, ⟨((hOk t W1 W' h).block _ hbk.lt).trans hbk.loop, ((hOk t W1 W' h).block _ (by have := hbk.lt; omega)).trans hbk.defs⟩⟩)
  refine ⟨w.heap.size + 1, [{ target := .collected w.heap.size, args := #[] }], W1, { target := .fn (.func gf) lb, args := #[.func (.yield (w.heap.size + 1)) #[] #[]] }, W1, gf, #[.func (.yield (w.heap.size + 1)) #[] #[]] ++ lb, W1, ?_, ?_, ?_, ?_, fun _ => h1, ?_⟩
  · exact hen
  · simp only [resolve, hg]
    simp [go_sem]
  · intro f' hf'
    simp [Target.leads] at hf'
    subst hf'
    exact hFg
  · simp [invoke, go_sem, eg]
  · refine call.mono ?_
    rintro e W2 ⟨⟨v, rfl⟩, (⟨t, hi, hb⟩ | ⟨pre, hSp, c, hi, hb⟩)⟩
    · have he := run_endLoop (P := P) hb.loop (by rw [hrec]; simp)
      rw [show (rec .ready none).pending = none by rw [hrec]] at he
      exact ⟨none, _, he, hdone _ t _ (Nat.le_refl _) ((hI t).putObj _ hi (by omega) hb.loop rfl) ((World.putObj_heap_other (by omega)).trans hb.defs)⟩
    · have he := run_endLoop (P := P) hb.loop (by rw [hrec]; simp)
      rw [show (rec .done (some c)).pending = some c by rw [hrec]] at he
      exact ⟨some c, _, he, hstop _ c pre _ (Nat.le_refl _) hSp ((hIx c).putObj _ hi (by omega) hb.loop rfl) ((World.putObj_heap_other (by omega)).trans hb.defs)⟩
end Go.Proofs.Ytbdhjkdojgdhbaa
