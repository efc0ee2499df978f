/- MemN HuE HuA HtC HtL HuF in one -/
import Derived.Test.YtmkajdfajcodjaaMemX
import Derived.Test.YtmkajdfajcodjaaHtB
import Derived.Test.YtmkajdfajcodjaaHsK
import Derived.Test.YtmkajdfajcodjaaMpO
import Derived.Test.YtmkajdfajcodjaaHtA
import Derived.Test.YtmkajdfajcodjaaHsJ
namespace Go.Proofs.Ytmkajdfajcodjaa
open Go Go.RowKit
variable {F : Fence} {n : Nat} {P : Program}
set_option maxHeartbeats 2000000 in
theorem rangeFunc_xN {α κ : Type} {g : Operand} {ps : Array Tmp} {assign body : Code} {Q : Exit → Act → World → Prop} {a : Act} {w : World} {l₀ : Nat} {r₀ : Loop} (hro : F.round = some l₀) (hl₀ : w.heap[l₀]? = some (.loop r₀)) (h1 : 1 ≤ n) {gf : Nat} {lb : Array Value} (hg : a.eval g = .func (.func gf) #[] lb) (hFg : F.fn gf)
    (eg : ∀ args w, (callFunc gf args).run P w = .ok (.enter gf args) w) {encs : α → Array Value} {Ok : κ → World → World → Prop} {Kp : κ → World → World → Prop} {Gd : List α → World → Prop} {xs : List α} (hseq : TellsX F (n - 1) P gf lb encs Ok Kp Gd xs w) (hOk : ∀ t W W', Ok t W W' → Below W.heap.size W W')
    (hKt : ∀ t {A B C : World}, Kp t A B → Kp t B C → Kp t A C) (hKb : ∀ t (W : World) (l : Nat) (o o' : Obj), w.heap.size ≤ l → W.heap[l]? = some o → o.isCells = false → o.isWalk = false → Kp t W (W.putObj l o')) (hps : ∀ x, (encs x).size = ps.size)
    (I : κ → List α → World → Prop) (Ix : Code → List α → World → Prop) (hI : ∀ t, OwnFrom w.heap.size (I t)) (hIx : ∀ c, OwnFrom w.heap.size (Ix c)) (hGd : ∀ t pre W, I t pre W → Gd pre W) (hG0 : ∀ W, Below w.heap.size w W → Gd [] W) (h0 : ∀ t W1 W, Below w.heap.size w W1 → w.heap.size + 1 ≤ W1.heap.size → Ok t W1 W → I t [] W) (Ax : κ → List α → α → Act → World → Prop) (hAx : ∀ t pre x a', OwnFrom w.heap.size (fun (_ : Unit) W => Ax t pre x a' W))
    (hassign : ∀ (l : Nat) (t : κ) (pre : List α) (x : α) (W : World) (K : Act → World → Prop), I t pre W → pre ++ [x] <+: xs → (∀ a' W', KeepsFrom w.heap.size W W' → Kp t W W' → Ax t pre x a' W' → K a' W') →
      assign.wpIn (F.inRound l) (n - 1 - 1) P (Exit.then K (fun _ _ _ => False)) { tmps := (ps.zip (encs x)).foldl (fun t (p, v) => t.setIfInBounds p v) a.tmps, defers := [] } W)
    (hbody : ∀ (l : Nat) (t : κ) (pre : List α) (x : α) (a' : Act) (W : World), w.heap.size ≤ l → (∃ r, W.heap[l]? = some (.loop r)) → pre ++ [x] <+: xs → Ax t pre x a' W → body.wpIn (F.inRound l) (n - 1 - 1) P (ownPostG w.heap.size (Kp t) (I t) Ix (pre ++ [x]) W) a' W)
    (hdone : ∀ (t : κ) (W : World), I t xs W → Q .normal a W)
    (hstop : ∀ (c : Code) (pre : List α) (W : World), pre <+: xs → Ix c pre W → c.wpIn F n P Q a W) :
    (Code.rangeFunc g ps assign body).wpIn F n P Q a w := by
  refine wpIn_rangeFunc fun fn hfn => ?_
  rw [hro]
  obtain ⟨rec, hrec⟩ : ∃ rec : LoopState → Option Code → Loop, rec = fun st pe => { state := st, pending := pe, fn, tmps := a.tmps, params := ps, assign, body, defers := r₀.defers } := ⟨_, rfl⟩
  have hbk : (w.alloc (.loop (rec .ready none))).heap[w.heap.size]? = some (.loop (rec .ready none)) := World.alloc_heap_new w _
  have hbw : Below w.heap.size w (w.alloc (.loop (rec .ready none))) := (Below.refl _ w).alloc (Nat.le_refl _) _
  have hen := run_enterLoop_inner (P := P) hl₀ fn a.tmps ps assign body
  rw [show ({ state := .ready, pending := none, fn, tmps := a.tmps, params := ps, assign, body, defers := r₀.defers } : Loop) = rec .ready none by rw [hrec]] at hen
  obtain ⟨W1, hW1⟩ : ∃ W1, W1 = w.alloc (.loop (rec .ready none)) := ⟨_, rfl⟩
  rw [← hW1] at hbk hbw hen
  have hsz : w.heap.size ≤ W1.heap.size := hbw.size
  have hsz2 : W1.heap.size = w.heap.size + 1 := by rw [hW1]; simp
  have keep : ∀ {st : LoopState} {pe : Option Code} {A B : World}, A.heap[w.heap.size]? = some (.loop (rec st pe)) → KeepsFrom w.heap.size A B → B.heap[w.heap.size]? = some (.loop (rec st pe)) := fun h hk => hk.same _ _ (Nat.le_refl _) h rfl
  have put : ∀ {st st' : LoopState} {pe pe' : Option Code} {A : World}, A.heap[w.heap.size]? = some (.loop (rec st pe)) → (A.putObj w.heap.size (.loop (rec st' pe'))).heap[w.heap.size]? = some (.loop (rec st' pe')) := fun h => World.putObj_heap_same (Array.getElem?_eq_some_iff.1 h).1
  -- one round
  have round : ∀ t pre x W, (I t pre W ∧ W.heap[w.heap.size]? = some (.loop (rec .ready none))) → pre ++ [x] <+: xs → YieldAt F (n - 1 - 1) P w.heap.size (encs x) W fun e W' =>
      (e = .returned (.bool true) ∧ (I t (pre ++ [x]) W' ∧ W'.heap[w.heap.size]? = some (.loop (rec .ready none))) ∧ Kp t W W' ∧ KeepsFrom W1.heap.size W W') ∨ (e = .returned (.bool false) ∧ (∃ c, Ix c (pre ++ [x]) W' ∧ W'.heap[w.heap.size]? = some (.loop (rec .done (some c)))) ∧ KeepsFrom W1.heap.size W W') := by
    rintro t pre x W ⟨hi, hb⟩ hm
    have hy := run_yield (P := P) (args := encs x) hb (by rw [hrec]; exact hps x)
    rw [hrec] at hy
    refine ⟨fn, _, assign, body, hy, roundIn_of_wpIn hfn (hassign _ t pre x W _ hi hm fun a' Wa hk hkp hax => ?_)⟩
    have hba := keep hb hk
    refine ⟨_, run_beginRound hba (by rw [hrec]), ?_⟩
    have hbb : (Wa.putObj w.heap.size (.loop (rec .busy none))).heap[w.heap.size]? = some (.loop (rec .busy none)) := put hba
    have hkb : Kp t Wa (Wa.putObj w.heap.size (.loop (rec .busy none))) := hKb t _ _ _ _ (Nat.le_refl _) hba rfl rfl
    have hab := (hAx t pre x a').putObj (s := ()) (.loop (rec .busy none)) hax (Nat.le_refl _) hba rfl
    have hr : ({ rec .ready none with state := .busy } : Loop) = rec .busy none := by rw [hrec]
    rw [hr]
    refine wpIn_mono (hbody _ t pre x a' _ (Nat.le_refl _) ⟨_, hbb⟩ hm hab) ?_
    have kept : ∀ (W3 : World) (o : Obj), KeepsFrom w.heap.size (Wa.putObj w.heap.size (.loop (rec .busy none))) W3 → KeepsFrom W1.heap.size W (W3.putObj w.heap.size o) := fun W3 o hk3 =>
      (((kf_up hk hsz).trans (kf_puts Wa _ (by omega))).trans (kf_up hk3 hsz)).trans (kf_puts W3 o (by omega))
    have left : ∀ (c : Code) (W3 : World), KeepsFrom w.heap.size (Wa.putObj w.heap.size (.loop (rec .busy none))) W3 → Ix c (pre ++ [x]) W3 → ∃ v W4, (Instr.endRound w.heap.size (some c)).run P W3 = .ok v W4 ∧
        ((Ending.returned v = .returned (.bool true) ∧ (I t (pre ++ [x]) W4 ∧ W4.heap[w.heap.size]? = some (.loop (rec .ready none))) ∧ Kp t W W4 ∧ KeepsFrom W1.heap.size W W4) ∨ (Ending.returned v = .returned (.bool false) ∧ (∃ c, Ix c (pre ++ [x]) W4 ∧ W4.heap[w.heap.size]? = some (.loop (rec .done (some c)))) ∧ KeepsFrom W1.heap.size W W4)) := fun c W3 hk3 hi3 => by
      have hb3 := keep hbb hk3
      have he := run_endRound (P := P) (some c) hb3
      have hr2 : ({ rec .busy none with state := if (some c).isNone then .ready else .done, pending := some c } : Loop) = rec .done (some c) := by rw [hrec]; rfl
      refine ⟨_, _, he, .inr ⟨by simp, ⟨c, ?_, ?_⟩, kept W3 _ hk3⟩⟩
      · exact (hIx c).putObj _ hi3 (Nat.le_refl _) hb3 rfl
      · exact (congrArg (fun L => (W3.putObj w.heap.size (.loop L)).heap[w.heap.size]? = some (.loop (rec .done (some c)))) hr2).mpr (put (st' := .done) (pe' := some c) hb3)
    rintro e a3 W3 hp
    cases e with
    | normal =>
      obtain ⟨hk3, hkp3, hi3⟩ := hp
      have hb3 := keep hbb hk3
      have he := run_endRound (P := P) none hb3
      have hr2 : ({ rec .busy none with state := if (none : Option Code).isNone then .ready else .done, pending := none } : Loop) = rec .ready none := by rw [hrec]; rfl
      refine ⟨_, _, he, .inl ⟨by simp, ⟨(hI t).putObj _ hi3 (Nat.le_refl _) hb3 rfl, ?_⟩, hKt t hkp (hKt t hkb (hKt t hkp3 (hKb t _ _ _ _ (Nat.le_refl _) hb3 rfl rfl))), kept W3 _ hk3⟩⟩
      exact (congrArg (fun L => (W3.putObj w.heap.size (.loop L)).heap[w.heap.size]? = some (.loop (rec .ready none))) hr2).mpr (put (st' := .ready) (pe' := none) hb3)
    | ret => exact left .ret W3 hp.1 hp.2
    | exit id => exact left (.exit id) W3 hp.1 hp.2
    | goto t => exact left (.goto t) W3 hp.1 hp.2
    | panic ch => exact hp.elim
    | outgrown => exact hp.elim
  have hnw : ∀ {A : World} {row : Option Nat}, (∀ r, row = some r → W1.heap.size ≤ r ∧ ∃ o : Obj, A.heap[r]? = some o ∧ o.isCells = false) → (∀ r, row = some r → w.heap.size ≤ r ∧ ∃ o : Obj, A.heap[r]? = some o ∧ o.isCells = false) := fun hr r e => ⟨Nat.le_trans hsz (hr r e).1, (hr r e).2⟩
  have bk : ∀ {st : LoopState} {pe : Option Code} {A B : World} {row : Option Nat}, A.heap[w.heap.size]? = some (.loop (rec st pe)) → A.grownBy B row → (∀ r, row = some r → W1.heap.size ≤ r ∧ ∃ o : Obj, A.heap[r]? = some o ∧ o.isCells = false) → B.heap[w.heap.size]? = some (.loop (rec st pe)) := fun h3 hg hr =>
    (hg.block _ (Array.getElem?_eq_some_iff.1 h3).1 (fun e => by have := (hr _ e.symm).1; omega)).trans h3
  have call := hseq w.heap.size (fun t pre W => I t pre W ∧ W.heap[w.heap.size]? = some (.loop (rec .ready none))) (fun pre W => ∃ c, Ix c pre W ∧ W.heap[w.heap.size]? = some (.loop (rec .done (some c)))) W1 hbw
    (fun t s A B row ⟨h2, h3⟩ hg hr => ⟨hI t s A B row h2 hg (hnw hr), bk h3 hg hr⟩)
    (fun s A B row ⟨c, h2, h3⟩ hg hr => ⟨c, hIx c s A B row h2 hg (hnw hr), bk h3 hg hr⟩) (fun t pre W' h => hGd t pre W' h.1) (hG0 W1 hbw) round (fun t W' h => ⟨h0 t W1 W' hbw (by omega) h, ((hOk t W1 W' h).block _ (Array.getElem?_eq_some_iff.1 hbk).1).trans hbk⟩)
  refine ⟨w.heap.size, [], W1, { target := .fn (.func gf) lb, args := #[.func (.yield w.heap.size) #[] #[]] }, W1, gf, #[.func (.yield w.heap.size) #[] #[]] ++ lb, W1, ?_, ?_, ?_, ?_, fun _ => h1, ?_⟩
  · exact hen
  · simp only [resolve, hg]
    simp [go_sem]
  · intro f' hf'
    simp [Target.leads] at hf'
    subst hf'
    exact hFg
  · simp [invoke, go_sem, eg]
  · refine call.mono ?_
    rintro e W2 ⟨⟨v, rfl⟩, (⟨t, hi, hb⟩ | ⟨pre, hSp, c, hi, hb⟩)⟩
    · have he := run_endLoop (P := P) hb (by rw [hrec]; simp)
      rw [show (rec .ready none).pending = none by rw [hrec]] at he
      exact ⟨none, _, he, hdone t _ ((hI t).putObj _ hi (Nat.le_refl _) hb rfl)⟩
    · have he := run_endLoop (P := P) hb (by rw [hrec]; simp)
      rw [show (rec .done (some c)).pending = some c by rw [hrec]] at he
      exact ⟨some c, _, he, hstop c pre _ hSp ((hIx c).putObj _ hi (Nat.le_refl _) hb rfl)⟩
end Go.Proofs.Ytmkajdfajcodjaa

namespace Go.Proofs.Ytmkajdfajcodjaa
open Go Go.ChangeShapes Go.WideShapes Go.ChangeAt Go.RowKit Go.Shelf Go.Maps
attribute [local go_sem] Oper.semAt_some

abbrev TMI : TypeId := 102
/-- Between two rounds: the row of edges in its box. -/
structure EgI (w : World) (n0 p pm : Nat) (hd : Int) (t : Option Nat) (E : List Nat) (lv : Value) (W : World) : Prop where
  bel : Below w.heap.size w W
  b0 : Boxed W w.heap.size 24 (.pointer (some ⟨p, 0, none⟩))
  b1 : Boxed W (w.heap.size + 1) TMI (.map (some pm))
  b2 : Boxed W (w.heap.size + 2) TSI lv
  b3 : Boxed W (w.heap.size + 3) 24 (.pointer (some ⟨p, 0, none⟩))
  b4 : Boxed W (w.heap.size + 4) 34 (.int .u64 hd)
  row : W.ownsRow n0 TI 1 lv E.length (E.map nI)
  sz : n0 ≤ W.heap.size
  n5 : w.heap.size + 5 ≤ n0
  tt : ∀ k, t = some k → n0 ≤ k ∧ k < W.heap.size ∧ lv.ownBlock ≠ some k
section
variable {w : World} {n0 p pm : Nat} {hd : Int} {t : Option Nat} {E : List Nat} {lv : Value} {W W' : World}
theorem EgI.kept {row : Option Nat} (h : EgI w n0 p pm hd t E lv W) (hg : W.grownBy W' row) (hr : ∀ r, row = some r → w.heap.size ≤ r ∧ ∃ o : Obj, W.heap[r]? = some o ∧ o.isCells = false) : EgI w n0 p pm hd t E lv W' :=
  have hr' := fun r e => (hr r e).2
  ⟨h.bel.grown hg h.bel.size (fun k e => (hr k e).1), h.b0.kept hg (not_cells h.b0 hr'), h.b1.kept hg (not_cells h.b1 hr'), h.b2.kept hg (not_cells h.b2 hr'), h.b3.kept hg (not_cells h.b3 hr'), h.b4.kept hg (not_cells h.b4 hr'), owns_not_cells h.row hg hr', Nat.le_trans h.sz hg.size, h.n5,
    fun k hk => ⟨(h.tt k hk).1, Nat.lt_of_lt_of_le (h.tt k hk).2.1 hg.size, (h.tt k hk).2.2⟩⟩
theorem EgI.tok (h : EgI w n0 p pm hd none E lv W) {t : Option Nat} (hb : Below W.heap.size W W') (ht : ∀ k, t = some k → W.heap.size ≤ k ∧ k < W'.heap.size) : EgI w n0 p pm hd t E lv W' := by
  have h2 := h.kept (grown_of_below hb) (fun r e => by cases e)
  exact ⟨h2.bel, h2.b0, h2.b1, h2.b2, h2.b3, h2.b4, h2.row, h2.sz, h2.n5, fun k hk => ⟨by have := (ht k hk).1; have := h.sz; omega, (ht k hk).2, fun e => by have := (h.row.lt k e).2; have := (ht k hk).1; omega⟩⟩
theorem EgI.drop (h : EgI w n0 p pm hd t E lv W) : EgI w n0 p pm hd none E lv W := ⟨h.bel, h.b0, h.b1, h.b2, h.b3, h.b4, h.row, h.sz, h.n5, fun k hk => by cases hk⟩
end
theorem edgs_app (L : HL) (Wl : List Int) (P Q : List Lk) : edgs L Wl (P ++ Q) = edgs L Wl P ++ edgs L Wl Q := by unfold edgs; rw [List.flatMap_append]
theorem edgs_le (L : HL) (Wl : List Int) (P : List Lk) : (edgs L Wl P).length ≤ P.length := by
  have := edgs_len L Wl (P := P) (Nat.le_refl _) P.length
  rwa [List.take_length] at this
theorem zip_nextL {l : List Lk} {pre : List (Lk × Nat)} {x : Lk × Nat} (h : pre ++ [x] <+: l.zipIdx) : x.1 ∈ l := by
  have hm : x ∈ l.zipIdx := h.subset (by simp)
  obtain ⟨y, i⟩ := x
  exact List.fst_mem_of_mem_zipIdx hm
theorem own_down {w : World} {B B' k n : Nat} {T : TypeId} {v : Value} {xs : List Value} (hB : B' ≤ B) (h : w.ownsRow B T k v n xs) : w.ownsRow B' T k v n xs := by
  refine ⟨h.1, ?_⟩
  rcases h.2 with e | ⟨g, cap, cur, e, hb, rest⟩
  · exact .inl e
  · exact .inr ⟨g, cap, cur, e, Nat.le_trans hB hb, rest⟩
/-- The edges of what has been told. -/
def ELo (L : HL) (Wl : List Int) (pre : List (Int × Nat)) : List Nat := edgs L Wl ((hds pre).flatMap (linksOf L))
theorem ELo_next (L : HL) (Wl : List Int) (pre : List (Int × Nat)) (x : Int × Nat) : ELo L Wl (pre ++ [x]) = ELo L Wl pre ++ edgs L Wl (linksOf L x.1) := by
  unfold ELo hds
  rw [List.map_append, List.flatMap_append, edgs_app]
  congr 2
  simp
theorem zeroI (w : World) : (zeroValue TI).run Try.prog w = .ok (.int .i64 0) w := by kernel_rfl
def EdgPost (w : World) (E : List Nat) (e : Ending) (w' : World) : Prop := Below w.heap.size w w' ∧ ∃ v, e = .returned v ∧ w'.ownsRow w.heap.size TI 1 v E.length (E.map nI)
section
variable {w : World} {p pa : Nat} {Sa : Nat → Prop} {AA : Ar} {F : Nat → Lab} {B : Int → Nat} {top : Int} {L : HL}
theorem HpW.blw (h : HpW w p pa Sa AA F B top L) {W : World} (hW : Below w.heap.size w W) : HpW W p pa Sa AA F B top L := h.fr (fp := fun _ => False) (Fr.of_below hW) (fun e => e) (fun _ _ e => e) (fun _ _ _ _ _ e => e) (fun _ _ => rfl)
set_option maxRecDepth 100000 in
set_option maxHeartbeats 8000000 in
theorem edges_in (n : Nat) (hn : 6 ≤ n) (h : HpW w p pa Sa AA F B top L) (hi : HIn top L) {o : Ob} (ho : o ∈ L) (ho0 : o.outer = 0) {pm : Nat} {D : DataW Unit} {f : Int → Option Int} {c : Nat} {Wl : List Int}
    (hm : w.ownsMap Try.prog TU (plainElem (H := Unit) Try.prog TI) pm c D) (mo : MapOf .u64 .i64 D f c) (hf : ∀ x ∈ L, x.outer = 0 → f x.h = some ((Wl.idxOf x.h : Nat) : Int)) (hl : (lksW L o).length ≤ 900000) (hin : o.inners.length ≤ 1000000) :
    CallsIn Fence.wide n Try.prog 46 #[.pointer (some ⟨p, 0, none⟩), .int .u64 o.h, .map (some pm)] w (EdgPost w (edgs L Wl (lksW L o))) := by
  have h1 : 1 ≤ n := by omega
  obtain ⟨sv, iv, cc, hob⟩ := h.ob o ho
  obtain ⟨w1, hw1⟩ : ∃ w1, w1 = ((w.alloc (.cells #[.pointer (some ⟨p, 0, none⟩)] 24)).alloc (.cells #[.map (some pm)] TMI)).alloc (.cells #[.slice none 0 0] TSI) := ⟨_, rfl⟩
  have hb1 : Below w.heap.size w w1 := by rw [hw1]; exact (((Below.refl _ _).alloc (Nat.le_refl _) _).alloc (by simp) _).alloc (by simp; omega) _
  have hsz1 : w1.heap.size = w.heap.size + 3 := by rw [hw1]; simp
  have x0 := ((Boxed.new w 24 (.pointer (some ⟨p, 0, none⟩))).alloc (.cells #[.map (some pm)] TMI)).alloc (.cells #[.slice none 0 0] TSI)
  have x1 := (Boxed.new (w.alloc (.cells #[.pointer (some ⟨p, 0, none⟩)] 24)) TMI (.map (some pm))).alloc (.cells #[.slice none 0 0] TSI)
  have x2 := Boxed.new ((w.alloc (.cells #[.pointer (some ⟨p, 0, none⟩)] 24)).alloc (.cells #[.map (some pm)] TMI)) TSI (.slice none 0 0)
  simp only [World.size_alloc] at x1 x2
  rw [← hw1] at x0 x1 x2
  obtain ⟨hd, hhd⟩ : ∃ hd, hd = o.h := ⟨_, rfl⟩
  rw [← hhd]
  have H := hid h
  have HI := hid hi
  have HO := hid ho
  have HO0 := hid ho0
  have HMP := hid hm
  have HMO := hid mo
  have HF := hid hf
  have HL := hid hl
  have HIN := hid hin
  have HOB := hid hob
  have HHD := hid hhd
  have HB1 := hid hb1
  have HW1 := hid hw1
  have HZ1 := hid hsz1
  have X0 := hid x0
  have X1 := hid x1
  have X2 := hid x2
  have dx0 := x0.cell
  clear h hi ho ho0 hm mo hf hl hin hob hhd hb1 hw1 hsz1 x0 x1 x2
  refine callsIn_of_wp_marks Try.func46 rfl trivial ?_ rfl
  simp only [Try.ntmps46, List.size_toArray, List.length_cons, List.length_nil, Nat.reduceAdd, Nat.reduceSub, Array.replicate_succ, Array.replicate_zero, List.push_toArray, List.append_toArray, List.nil_append, List.cons_append]
  gi_upto_region 2 with (fail)
  rw [← HW1.out]
  gi_wp2_with fail
  refine ⟨trivial, (callsIn_wide.2 (parts_any w1 p hd)).mono ?_⟩
  rintro e w2 ⟨rfl, hw2⟩
  have e1 : w1.heap.size = w.heap.size + 3 := HZ1.out
  have hb12 : Below w1.heap.size w1 w2 := by rw [hw2]; exact ((Below.refl _ _).alloc (Nat.le_refl _) _).alloc (by simp) _
  have y3 := (Boxed.new w1 24 (.pointer (some ⟨p, 0, none⟩))).alloc (.cells #[.int .u64 hd] 34)
  have y4 := Boxed.new (w1.alloc (.cells #[.pointer (some ⟨p, 0, none⟩)] 24)) 34 (.int .u64 hd)
  rw [← hw2] at y3 y4
  simp only [World.size_alloc] at y4
  rw [e1] at y3 y4
  rw [show w1.heap.size + 1 = w.heap.size + 4 by omega, e1]
  have hz2 : w2.heap.size = w.heap.size + 5 := by rw [hw2]; simp; omega
  obtain ⟨n0, hn0⟩ : ∃ n0, n0 = w2.heap.size := ⟨_, rfl⟩
  have up : ∀ {b : Nat} {t : TypeId} {v : Value}, Boxed w1 b t v → Boxed w2 b t v := fun hb => (hb12.block _ hb.lt).trans hb
  have hE0 : EgI w n0 p pm hd none [] (.slice none 0 0) w2 :=
    ⟨HB1.out.trans (hb12.mono HB1.out.size), up X0.out, up X1.out, up X2.out, y3, y4, World.ownsRow_nil _ _ _ _, by omega, by omega, fun k hk => by cases hk⟩
  have HE0 := hid hE0
  have HN0 := hid hn0
  have HZ2 := hid hz2
  clear hE0 hn0 hz2 up y3 y4 hb12 hw2 e1 X0 X1 X2 HW1 dx0
  have hGd : ∀ (pre : List (Int × Nat)) (t : Option Nat) (E : List Nat) (lv : Value) (W : World), EgI w n0 p pm hd t E lv W → GdP (w.heap.size + 3) (w.heap.size + 4) p (B hd) hd iv o.inners B pre W := fun pre t E lv W hE => by
    have hob := HOB.out.fr (F' := F) (Fr.of_below (fp := fun _ => False) hE.bel) (fun _ _ _ e => e) (fun _ _ => rfl)
    rw [← HHD.out] at hob
    refine ⟨hE.b3.cell, hE.b4.cell, hob.c3, hob.hi, fun y hy => ?_⟩
    rw [HHD.out] at hy
    obtain ⟨e1, e2, _⟩ := parts_next (List.nodup_cons.2 ⟨HI.out.self HO.out, HI.out.idp o HO.out⟩) rfl hy
    obtain ⟨q, hq, he⟩ : ∃ q ∈ L, q.h = y.1 := by
      rcases List.mem_cons.1 e2 with e | e
      · exact ⟨o, HO.out, e.symm⟩
      · obtain ⟨q, hq, h4, _⟩ := HI.out.inn o HO.out _ e
        exact ⟨q, hq, h4⟩
    have hf := find_some (H.out.blw hE.bel) hq
    rw [he, ← e1] at hf
    exact hf
  have HGD := hid hGd
  clear hGd
  gi_wp2
  refine rangeFunc_x rfl h1 (gf := 73) (lb := #[.pointer (some ⟨w.heap.size + 3, 0, none⟩), .pointer (some ⟨w.heap.size + 4, 0, none⟩)]) rfl trivial (enters_of Try.func73 (by kernel_rfl) rfl)
    (parts_it (n - 1) w2 (w.heap.size + 3) (w.heap.size + 4) p (B hd) hd iv o.inners B HIN.out) (fun _ W W' e => by subst e; exact Below.refl _ _) (fun _ {A B C} _ _ => trivial) (fun _ _ _ _ _ _ _ _ _ => trivial) (fun _ => rfl)
    (fun (_ : Unit) pre W => ∃ lv, EgI w n0 p pm hd none (ELo L Wl pre) lv W) (fun _ _ _ => False)
    (fun _ pre X Y row ⟨lv, hs⟩ hg hr => ⟨lv, hs.kept hg (fun r e => ⟨by have := (hr r e).1; have := HZ2.out; omega, (hr r e).2⟩)⟩) (fun _ _ _ _ _ hs _ _ => hs)
    (fun _ pre W ⟨lv, hs⟩ => HGD.out _ _ _ _ _ hs) (fun W hb => HGD.out _ _ _ _ _ (HE0.out.kept (grown_of_below hb) (fun r e => by cases e)))
    (fun _ W1 W hb _ e => by subst e; exact ⟨_, HE0.out.kept (grown_of_below hb) (fun r e => by cases e)⟩)
    (fun (_ : Unit) pre x a' W => (∃ lv, EgI w n0 p pm hd none (ELo L Wl pre) lv W) ∧ a' = { tmps := #[.pointer (some ⟨p, 0, none⟩), .int .u64 hd, .map (some pm), .pointer (some ⟨w.heap.size, 0, none⟩), undef, .pointer (some ⟨w.heap.size + 1, 0, none⟩), .slice none 0 0, .pointer (some ⟨w.heap.size + 2, 0, none⟩), .int .u64 x.1, undef, undef, undef, undef, .pointer (some ⟨p, 0, none⟩), .int .u64 hd, .func (.func 73) #[] #[.pointer (some ⟨w.heap.size + 3, 0, none⟩), .pointer (some ⟨w.heap.size + 4, 0, none⟩)], .int .u64 x.1, .pointer (some ⟨x.2, 0, none⟩), undef, undef, undef, undef, undef, undef, undef, undef, undef, undef, undef, undef, undef, undef, undef, undef, undef, undef, undef, undef, undef, undef, undef, undef], defers := [] })
    (fun _ pre x a' _ X Y row hs hg hr => by
      obtain ⟨⟨lv, h4⟩, h5⟩ := hs
      exact ⟨⟨lv, h4.kept hg (fun r e => ⟨by have := (hr r e).1; have := HZ2.out; omega, (hr r e).2⟩)⟩, h5⟩)
    ?assign ?body ?done ?stop
  case assign =>
    rintro lo _ pre x Wc K hI _ hK
    simp only [encO]
    have HKK := hid hK
    have HII := hid hI
    clear hK hI
    gi_wp2
    exact HKK.out _ _ (KeepsFrom.refl _ _) trivial ⟨HII.out, rfl⟩
  case body =>
    rintro lo _ pre x a' Wc hlo ⟨r, hr⟩ hpx ⟨⟨lv, hE⟩, rfl⟩
    rw [HHD.out] at hpx
    obtain ⟨g1, g2, _⟩ := parts_next (List.nodup_cons.2 ⟨HI.out.self HO.out, HI.out.idp o HO.out⟩) rfl hpx
    obtain ⟨xh, xb⟩ := x
    simp only at g1 g2
    obtain ⟨ox, hox, hxe⟩ : ∃ q ∈ L, q.h = xh := by
      rcases List.mem_cons.1 g2 with e | e
      · exact ⟨o, HO.out, e.symm⟩
      · obtain ⟨q, hq, h4, _⟩ := HI.out.inn o HO.out _ e
        exact ⟨q, hq, h4⟩
    have hlx : linksOf L xh = ox.links := linksOf_some (by rw [← hxe]; exact fnd_mem HI.out.nd hox)
    have hhn : Hn xh := by have := HI.out.nz ox hox; rw [hxe] at this; unfold Hn; omega
    have hpl : ((hds pre).flatMap (linksOf L)).length + (linksOf L xh).length ≤ 900000 := by
      have h2 : (hds (pre ++ [(xh, xb)])) <+: (o.h :: o.inners) := by
        have h3 := hpx.map (·.1)
        unfold partsL at h3
        rw [List.map_cons, List.map_map] at h3
        unfold hds
        have e4 : ((fun (x : Int × Nat) => x.1) ∘ fun h => (h, B h)) = id := rfl
        rw [e4, List.map_id] at h3
        exact h3
      obtain ⟨r2, hr2⟩ := h2
      have h5 : (hds (pre ++ [(xh, xb)])).flatMap (linksOf L) = (hds pre).flatMap (linksOf L) ++ linksOf L xh := by unfold hds; rw [List.map_append, List.flatMap_append]; simp
      have h6 : lksW L o = (o.h :: o.inners).flatMap (linksOf L) := by
        unfold lksW
        rw [List.flatMap_cons, linksOf_some (fnd_mem HI.out.nd HO.out)]
      have h7 := HL.out
      rw [h6, ← hr2, List.flatMap_append, h5, List.length_append, List.length_append] at h7
      omega
    have hEl : (ELo L Wl pre).length ≤ ((hds pre).flatMap (linksOf L)).length := edgs_le _ _ _
    have d0 := hE.b0.cell
    have HE := hid hE
    have HPL := hid hpl
    have HEL := hid hEl
    have HLX := hid hlx
    have HOX := hid hox
    obtain ⟨E0, hE0⟩ : ∃ E0, E0 = ELo L Wl pre := ⟨_, rfl⟩
    rw [← hE0] at HE HEL
    have HE0 := hid hE0
    have HR := hid hr
    clear hE hpl hEl hlx hox hE0 hr hxe g1 g2 hpx
    gi_wp2_with fail
    refine ⟨trivial, (fun h => by cases h), (CallsIn.inRound lo (callsIn_wide.2 (HLinks_any Wc p xh))).mono ?_⟩
    rintro e w3 ⟨rfl, hw3⟩
    have hb3 : Below Wc.heap.size Wc w3 := by rw [hw3]; exact ((Below.refl _ _).alloc (Nat.le_refl _) _).alloc (by simp) _
    have y1 := (Boxed.new Wc 24 (.pointer (some ⟨p, 0, none⟩))).alloc (.cells #[.int .u64 xh] 34)
    have y2 := Boxed.new (Wc.alloc (.cells #[.pointer (some ⟨p, 0, none⟩)] 24)) 34 (.int .u64 xh)
    rw [← hw3] at y1 y2
    simp only [World.size_alloc] at y2
    have hko : KeepsOthers Wc w3 := by rw [hw3]; exact (KeepsOthers.alloc _ _).trans (KeepsOthers.alloc _ _)
    have hl3 : w3.heap[lo]? = some (.loop r) := (hb3.block _ (Array.getElem?_eq_some_iff.1 HR.out).1).trans HR.out
    have hE3 : EgI w n0 p pm hd none E0 lv w3 := HE.out.kept (grown_of_below hb3) (fun r e => by cases e)
    obtain ⟨c1, hc1⟩ : ∃ c1, c1 = Wc.heap.size := ⟨_, rfl⟩
    rw [← hc1] at y1 y2 ⊢
    have HE3 := hid hE3
    have HKO := hid hko
    have HLT := hid (links_tells (n - 1 - 1 - 1) c1 (c1 + 1) p pa xh hhn w3 y1 y2 (H.out.blw hE3.bel) HI.out)
    have HL3 := hid hl3
    have hs3 : Wc.heap.size ≤ w3.heap.size := hb3.size
    have hnw : w.heap.size ≤ w3.heap.size := hE3.bel.size
    clear hw3 hb3 y1 y2 hko hl3 hE3 hc1 d0
    gi_wp2
    refine rangeFunc_xN (F := Fence.wide.inRound lo) (n := n - 1 - 1) rfl HL3.out (by omega) (gf := 68) (lb := #[.pointer (some ⟨c1, 0, none⟩), .pointer (some ⟨c1 + 1, 0, none⟩)]) rfl trivial (enters_of Try.func68 (by kernel_rfl) rfl)
      HLT.out (fun _ _ _ h => h.1) (fun _ {A B C} h k => KS.t h k) (fun _ W l o o' _ h2 h3 _ => KS.b _ W l o o' h2 h3) (fun _ => rfl)
      (fun t q W => (∃ lv, EgI w n0 p pm hd t (E0 ++ edgs L Wl (q.map (·.1))) lv W) ∧ KeepsFrom w2.heap.size Wc W) (fun _ _ _ => False)
      (fun t q X Y row ⟨⟨lv, h4⟩, h5⟩ hg hr => ⟨⟨lv, h4.kept hg (fun r e => ⟨by have := (hr r e).1; omega, (hr r e).2⟩)⟩, ownFrom_keepsFrom (β := Unit) (B := w2.heap.size) hs3 () X Y row h5 hg hr⟩) (fun _ _ _ _ _ hs _ _ => hs)
      (fun _ _ _ _ => trivial) (fun _ _ => trivial)
      (fun t W1 W hb _ ⟨h4, h5⟩ => ⟨⟨_, by
        have h6 := HE3.out.kept (grown_of_below hb) (fun r e => by cases e)
        have h7 := h6.tok h4 h5
        simpa [edgs] using h7⟩, (HKO.out.from _).trans (KeepsFrom.of_grownBy (grown_of_below (hb.trans (h4.mono hb.size))) (fun _ e => by cases e))⟩)
      (fun t q y a' W => ∃ Bx, (∃ lv, EgI w n0 p pm hd t (E0 ++ edgs L Wl (q.map (·.1))) lv W) ∧ KeepsFrom w2.heap.size Wc W ∧ W.heap[Bx]? = some (.cells #[.int .i64 y.1.kind, .int .u64 y.1.h] 67 (0, 0)) ∧ a' = { tmps := #[.pointer (some ⟨p, 0, none⟩), .int .u64 hd, .map (some pm), .pointer (some ⟨w.heap.size, 0, none⟩), undef, .pointer (some ⟨w.heap.size + 1, 0, none⟩), .slice none 0 0, .pointer (some ⟨w.heap.size + 2, 0, none⟩), .int .u64 xh, undef, .pointer (some ⟨Bx, 0, none⟩), undef, undef, .pointer (some ⟨p, 0, none⟩), .int .u64 hd, .func (.func 73) #[] #[.pointer (some ⟨w.heap.size + 3, 0, none⟩), .pointer (some ⟨w.heap.size + 4, 0, none⟩)], .int .u64 xh, .pointer (some ⟨xb, 0, none⟩), .pointer (some ⟨p, 0, none⟩), .int .u64 xh, .func (.func 68) #[] #[.pointer (some ⟨c1, 0, none⟩), .pointer (some ⟨c1 + 1, 0, none⟩)], nI y.2, .agg #[.int .i64 y.1.kind, .int .u64 y.1.h], undef, undef, undef, undef, undef, undef, undef, undef, undef, undef, undef, undef, undef, undef, undef, undef, undef, undef, undef], defers := [] })
      (fun t q y a' _ X Y row hs hg hr => by
        obtain ⟨Bx, ⟨lv, h4⟩, h5, h6, h7⟩ := hs
        exact ⟨Bx, ⟨lv, h4.kept hg (fun r e => ⟨by have := (hr r e).1; omega, (hr r e).2⟩)⟩, ownFrom_keepsFrom (β := Unit) (B := w2.heap.size) hs3 () X Y row h5 hg hr, heap_kept h6 hg (not_cells h6 (fun r e => (hr r e).2)), h7⟩)
      ?assignN ?bodyN ?doneN ?stopN
    case assignN =>
      rintro lo2 t q y Wd K ⟨⟨lv2, h4⟩, h5⟩ _ hK
      simp only [encL]
      have HKK := hid hK
      have H4 := hid h4
      have H5 := hid h5
      clear hK h4 h5
      gi_wp2
      exact HKK.out _ _ ((KeepsOthers.alloc _ _).from _) ((KS.refl _ Wd).alloc _) ⟨Wd.heap.size, ⟨lv2, H4.out.kept (World.grownBy_alloc Wd _ none) (fun r e => by cases e)⟩, H5.out.trans ((KeepsOthers.alloc _ _).from _), heap_alloc_new _ _, rfl⟩
    case bodyN =>
      rintro lo2 t q y a' Wd hlo2 ⟨r2, hr2⟩ hqx ⟨Bx, ⟨lv2, h4⟩, h5, h6, rfl⟩
      have hyl := zip_nextL hqx
      have hql : q.length + 1 ≤ (linksOf L xh).length := by
        have := hqx.length_le
        rw [List.length_append, List.length_singleton, List.length_zipIdx] at this
        exact this
      rw [HLX.out] at hyl
      obtain ⟨hk, hh⟩ := (HI.out.lnk ox HOX.out).2 _ hyl
      obtain ⟨⟨lk, lh⟩, yi⟩ := y
      simp only at hk hh h6
      have hnext : E0 ++ edgs L Wl ((q ++ [((⟨lk, lh⟩ : Lk), yi)]).map Prod.fst) = (E0 ++ edgs L Wl (q.map (·.1))) ++ edg1 L Wl ⟨lk, lh⟩ := by
        rw [List.map_append, edgs_app, ← List.append_assoc]
        simp [edgs]
      have hEl : (E0 ++ edgs L Wl (q.map (·.1))).length ≤ 900000 := by
        have h7 := edgs_le L Wl (q.map (·.1))
        rw [List.length_map] at h7
        rw [List.length_append]
        have h8 := HPL.out
        have h9 := HEL.out
        omega
      obtain ⟨E1, hE1⟩ : ∃ E1, E1 = E0 ++ edgs L Wl (q.map (·.1)) := ⟨_, rfl⟩
      rw [← hE1] at h4 hnext hEl
      have HNX := hid hnext
      have k0 : Wd.cell? ⟨Bx, 0, none⟩ = some (.int .i64 lk) := by rw [cell_of_row _ _ 0 _ _ _ h6]; rfl
      have k1 : Wd.cell? ⟨Bx, 1, none⟩ = some (.int .u64 lh) := by rw [cell_of_row _ _ 1 _ _ _ h6]; rfl
      have d0 := h4.b0.cell
      have d1 := h4.b1.cell
      have d2 := h4.b2.cell
      have H4 := hid h4
      have H5 := hid h5
      have hpd := H.out.blw h4.bel
      have hmd := (Fr.of_below (fp := fun _ => False) h4.bel).ownsMap HMP.out (fun e => e)
      have HPD := hid hpd
      have HMD := hid hmd
      clear hyl hql h4 h5 h6 hqx hnext hE1 hpd hmd hlo2 hr2
      by_cases hk1 : lk = 1
      · subst hk1
        cases hfl : fnd L lh with
        | none =>
          have HFW := hid (Whole_none HPD.out hfl hh)
          have he : edg1 L Wl ⟨1, lh⟩ = [] := by
            unfold edg1
            rw [if_pos rfl]
            simp only [(whl_none HI.out).2 hfl]
          have HEE := hid he
          clear hfl he hk hh d1 d2
          gi_wp2_with fail
          refine ⟨trivial, (fun h => by cases h), (CallsIn.inRound lo2 (CallsIn.inRound lo (callsIn_wide.2 HFW.out))).mono ?_⟩
          rintro e W' ⟨rfl, rfl⟩
          gi_wp2
          exact ⟨KeepsFrom.refl _ _, KS.refl _ _, ⟨_, by rw [HNX.out, HEE.out, List.append_nil]; exact H4.out⟩, H5.out⟩
        | some ol =>
          obtain ⟨xo, hxo⟩ : ∃ xo, whl L lh = some xo := by
            cases hw : whl L lh with
            | none => rw [(whl_none HI.out).1 hw] at hfl; cases hfl
            | some xo => exact ⟨xo, rfl⟩
          obtain ⟨hxm, hx0⟩ := whl_some HI.out hxo
          have HFW := hid (Whole_some HPD.out HI.out hxo)
          have he : edg1 L Wl ⟨1, lh⟩ = [Wl.idxOf xo.h] := by
            unfold edg1
            rw [if_pos rfl]
            simp only [hxo]
          have hfx := HF.out xo hxm hx0
          have hnz := HI.out.nz xo hxm
          obtain ⟨xo', hxoh⟩ : ∃ x, x = xo.h := ⟨_, rfl⟩
          obtain ⟨m, hm⟩ : ∃ m, m = Wl.idxOf xo.h := ⟨_, rfl⟩
          rw [← hm] at he hfx
          rw [← hxoh] at HFW hfx hnz
          have hlk := HMO.out.look (w := Wd) (x := xo') Try.underlying102 Try.underlying34 Try.underlying3 (zeroI Wd) HMD.out (WalkArith.wf_u64 ⟨by omega, by omega⟩)
          rw [hfx] at hlk
          simp only [Option.getD_some] at hlk
          have HEE := hid he
          obtain ⟨i0, hi, hz0, hz1, hz2⟩ := info_split infoI
          obtain ⟨la, lc, hla⟩ := own_form H4.out.row
          subst hla
          obtain ⟨N, hN⟩ : ∃ N, N = E1.length := ⟨_, rfl⟩
          have HN := hid hN
          rw [← hN] at d2 hEl
          have hrow := H4.out.row
          have hbx := H4.out.b2
          rw [← hN] at hrow hbx
          have HROW := hid hrow
          have HBX := hid hbx
          have hsz := H4.out.sz
          have hn5 := H4.out.n5
          clear hfl he hk hh hxo hxm hx0 hfx hnz hxoh hm hN hrow hbx
          gi_wp2_with fail
          refine ⟨trivial, (fun h => by cases h), (CallsIn.inRound lo2 (CallsIn.inRound lo (callsIn_wide.2 HFW.out))).mono ?_⟩
          rintro e W' ⟨rfl, rfl⟩
          gi_wp2_with (first
            | (gi_at_builtin; refine wpListIn_append_at _ rfl _ _ TSI rfl n0 TI i0 (.int .i64 0) 1 8 Try.underlying57 hi hz0 hz1 hz2 rfl (by decide) _ _ _ rfl (HROW.out.alloc _) ⟨Wd.heap.size, 0, none⟩ 1 1 [nI m] rfl rfl (World.news_of_block (heap_alloc_new Wd _)) (by simp [Value.oneCell']) (by simp only [maxLen]; omega) (by omega) (by simp; omega) ?_; intro v' w9 hown' hgrow hat; obtain ⟨g', cap', rfl⟩ := ownsRow_succ hown'; obtain ⟨p1, p2, p3, p4, p5, p6, p7⟩ := box_push HBX.out (by decide) HROW.out hown' hgrow; have hc1 := p1.cell; have hf1 := p1.frozen))
          have HH := H4.out
          have htt := HH.tt
          rw [← HN.out] at htt
          have hE2 : E1 ++ edg1 L Wl ⟨1, lh⟩ = E1 ++ [m] := by rw [HEE.out]
          refine ⟨p4.from _, ?_, ⟨_, HH.bel.trans (p6 _ (by omega) (by omega) HH.bel.size), p7 _ _ _ HH.b0 (by omega) (by omega), p7 _ _ _ HH.b1 (by omega) (by omega), p2, p7 _ _ _ HH.b3 (by omega) (by omega), p7 _ _ _ HH.b4 (by omega) (by omega), ?_, Nat.le_trans hsz p4.size, hn5, fun k hk => ⟨(htt k hk).1, Nat.lt_of_lt_of_le (htt k hk).2.1 p4.size, ?_⟩⟩, H5.out.trans (p4.from _)⟩
          · exact (((KS.refl _ Wd).alloc _).grown hgrow (fun k ek e2 => (htt k e2).2.2 ek)).set _ _ (fun e => by have h5 : n0 ≤ w.heap.size + 2 := (htt _ e).1; omega)
          · rw [HNX.out, hE2, List.length_append, List.length_singleton, ← HN.out, List.map_append]; exact p3
          · intro e
            rcases hat with e2 | e2
            · rw [e] at e2; exact (htt k hk).2.2 e2.symm
            · rw [e] at e2; have := (htt k hk).2.1; simp at e2; omega
      · have hne : (lk != 1) = true := by simpa using hk1
        have he : edg1 L Wl ⟨lk, lh⟩ = [] := by unfold edg1; rw [if_neg hk1]
        have HEE := hid he
        clear he hk hh hk1 d1 d2
        gi_wp2
        exact ⟨KeepsFrom.refl _ _, KS.refl _ _, ⟨_, by rw [HNX.out, HEE.out, List.append_nil]; exact H4.out⟩, H5.out⟩
    case doneN =>
      rintro t W ⟨⟨lv2, h4⟩, h5⟩
      refine ⟨h5, trivial, lv2, ?_⟩
      rw [ELo_next, ← HE0.out]
      have := h4.drop
      rw [List.zipIdx_map_fst] at this
      exact this
    case stopN => rintro c q W _ h; exact h.elim
  case done =>
    rintro Dd _ Wc hD ⟨lv, hE⟩ hK
    have e2 := hE.b2.cell
    have HE := hid hE
    clear hE
    gi_wp2
    refine ⟨by simp, .inl ⟨_, _, rfl, run_takeDeferred hK, ?_⟩⟩
    have hlk : (partsL hd (B hd) o.inners B).map (·.1) = hd :: o.inners := by
      unfold partsL
      rw [List.map_cons, List.map_map]
      congr 1
      exact List.map_id _
    have hE2 := HE.out.kept (grownBy_putObj' Wc Dd (.deferred none)) (fun r e => by cases e; exact ⟨by have := HZ2.out; omega, _, hK, rfl⟩)
    unfold ELo hds at hE2
    rw [hlk, List.flatMap_cons, linksOf_some (by rw [HHD.out]; exact fnd_mem HI.out.nd HO.out)] at hE2
    exact ⟨_, results_tmp rfl _ _ _, hE2.bel, lv, rfl, own_down (by have := hE2.n5; omega) hE2.row⟩
  case stop => rintro Dd c pre W _ _ h; exact h.elim
end
end Go.Proofs.Ytmkajdfajcodjaa

namespace Go.Proofs.Ytmkajdfajcodjaa
open Go Go.ChangeShapes Go.WideShapes Go.ChangeAt Go.RowKit Go.Shelf
attribute [local go_sem] Oper.semAt_some

theorem pre_all {AA : Ar} {pre : List (Int × Int)} {x : Int × Int} (h : pre ++ [x] <+: pairF 0 AA.L) : pre.map (·.1) ++ [x.1] <+: allA (er AA) := by
  rw [← pairF_allA]
  have := h.map (·.1)
  simpa using this
set_option maxRecDepth 100000 in
set_option maxHeartbeats 4000000 in
theorem all_tellsX (n Bp p pa : Nat) (hn : 3 ≤ n) (Sa : Nat → Prop) (AA : Ar) (w : World) (hb : Boxed w Bp 24 (.pointer (some ⟨p, 0, none⟩))) (hp : w.cell? ⟨p, 0, none⟩ = some (.pointer (some ⟨pa, 0, none⟩))) (hI : InS Sa w pa AA) :
    TellsX Fence.wide n Try.prog 60 #[.pointer (some ⟨Bp, 0, none⟩)] encU (fun (_ : Unit) W W' => Below W.heap.size W W') (fun _ => KT (fun _ => False) KTy) (fun _ _ => True) (allA (er AA)) w := by
  intro lp J Jx W hW hAJ hAJx _ _ hY h0
  show CallsIn Fence.wide n Try.prog 60 #[.func (.yield lp) #[] #[], .pointer (some ⟨Bp, 0, none⟩)] W (PartPost J Jx (allA (er AA)))
  have h1 : 1 ≤ n := by omega
  obtain ⟨w0, hw0⟩ : ∃ w0, w0 = W.alloc (.cells #[.func (.yield lp) #[] #[]] 131) := ⟨_, rfl⟩
  have hb0 : Below W.heap.size W w0 := by rw [hw0]; exact (Below.refl _ _).alloc (Nat.le_refl _) _
  have hbw : Below w.heap.size w w0 := hW.trans (hb0.mono hW.size)
  have d0 : w0.cell? ⟨Bp, 0, none⟩ = some (.pointer (some ⟨p, 0, none⟩)) := Boxed.cell ((hbw.block Bp hb.lt).trans hb)
  have d1 : w0.cell? ⟨p, 0, none⟩ = some (.pointer (some ⟨pa, 0, none⟩)) := by rw [World.cell?_of_block (hbw.block p (World.block_lt_of_cell? w _ hp))]; exact hp
  obtain ⟨w1, hw1⟩ : ∃ w1, w1 = w0.alloc (.cells #[.pointer (some ⟨pa, 0, none⟩)] 81) := ⟨_, rfl⟩
  have hb1 : Below w0.heap.size w0 w1 := by rw [hw1]; exact (Below.refl _ _).alloc (Nat.le_refl _) _
  have hbn : Boxed w1 w0.heap.size 81 (.pointer (some ⟨pa, 0, none⟩)) := by rw [hw1]; exact Boxed.new _ _ _
  have hst := arena_tells (n - 1) w0.heap.size pa Sa AA w1 hbn (hI.fr (fp := fun _ => False) (Fr.of_below (hbw.trans (hb1.mono hbw.size))) (fun _ _ e => e))
  have hsz0 : w0.heap.size = W.heap.size + 1 := by rw [hw0]; simp
  have hy0 : w0.heap[W.heap.size]? = some (.cells #[.func (.yield lp) #[] #[]] 131 (0, 0)) := by rw [hw0]; exact heap_alloc_new _ _
  have hbW1 : Below W.heap.size W w1 := hb0.trans (hb1.mono hb0.size)
  have hz1 : w1.heap.size = W.heap.size + 2 := by rw [hw1]; simp; omega
  have hI0 : ∀ W2, Below w1.heap.size w1 W2 → AlI lp W.heap.size (J ()) [] W2 := fun W2 h2 => ⟨h0 () W2 (hbW1.trans (h2.mono hbW1.size)), (h2.block _ (by omega)).trans ((hb1.block _ (by omega)).trans hy0)⟩
  have HST := hid hst
  have HI0 := hid hI0
  have HY := hid hY
  have HAJ := hid (hAJ ())
  have HAJX := hid hAJx
  have HW0 := hid hw0
  have HW1 := hid hw1
  have HZ1 := hid hz1
  have HZ0 := hid hsz0
  clear hst hI0 hY hAJ hAJx hw0 hw1 hb0 hb1 hbn hy0 hbw hW hb hp hI hz1 hsz0 h0 hbW1
  refine callsIn_of_wp_marks Try.func60 rfl trivial ?_ rfl
  simp only [Try.ntmps60, List.size_toArray, List.length_cons, List.length_nil, Nat.reduceAdd, Nat.reduceSub, Array.replicate_succ, Array.replicate_zero, List.push_toArray, List.append_toArray, List.nil_append, List.cons_append]
  gi_upto_region 1 with (fail)
  rw [← HW0.out]
  gi_wp2_with fail
  first
    | refine (callsIn_wide.2 (arenaAll_any _ _)).mono ?_
    | refine ⟨trivial, (callsIn_wide.2 (arenaAll_any _ _)).mono ?_⟩
    | refine ⟨trivial, (fun h => by cases h), (callsIn_wide.2 (arenaAll_any _ _)).mono ?_⟩
  rintro e w' ⟨rfl, hw'⟩
  obtain rfl : w' = w1 := hw'.trans HW1.out.symm
  clear hw'
  gi_wp2
  refine rangeFunc_x rfl h1 (gf := 71) (lb := #[.pointer (some ⟨w0.heap.size, 0, none⟩)]) rfl trivial (enters_of Try.func71 (by kernel_rfl) rfl)
    HST.out (fun _ _ _ h => h) (fun _ {A B C} h k => h.t k) (fun _ W l o o' _ h2 h3 _ => KCE.b W l o o' h2 h3) (fun _ => rfl)
    (fun (_ : Unit) (pre : List (Int × Int)) Wc => AlI lp W.heap.size (J ()) pre Wc) (fun c (pre : List (Int × Int)) Wc => c = .ret ∧ Jx (pre.map (·.1)) Wc)
    (fun _ pre X Y row h hg hr => ⟨HAJ.out _ _ _ _ h.j hg (fun r e => ⟨by have := (hr r e).1; have := HZ1.out; omega, (hr r e).2⟩), heap_kept h.y hg (not_cells h.y (fun r e => (hr r e).2))⟩)
    (fun _ (pre : List (Int × Int)) X Y row ⟨hc, h⟩ hg hr => ⟨hc, HAJX.out (pre.map (·.1)) X Y row h hg (fun r e => ⟨by have := (hr r e).1; have := HZ1.out; omega, (hr r e).2⟩)⟩)
    (fun _ _ _ _ => trivial) (fun _ _ => trivial) (fun _ W1' W2 hb _ h => HI0.out W2 (hb.trans (h.mono hb.size)))
    (fun (_ : Unit) pre x a' Wc => AlI lp W.heap.size (J ()) pre Wc ∧ a' = { tmps := #[.func (.yield lp) #[] #[], .pointer (some ⟨Bp, 0, none⟩), .pointer (some ⟨W.heap.size, 0, none⟩), .int .u64 x.1, .pointer (some ⟨p, 0, none⟩), .bool false, .pointer (some ⟨p, 0, none⟩), .pointer (some ⟨p, 0, none⟩), .pointer (some ⟨p, 0, none⟩), .pointer (some ⟨pa, 0, none⟩), .func (.func 71) #[] #[.pointer (some ⟨w0.heap.size, 0, none⟩)], .int .u64 x.1, encE x.2, undef, undef, undef, undef], defers := [] })
    (fun _ pre x a' _ X Y row h hg hr => ⟨⟨HAJ.out _ _ _ _ h.1.j hg (fun r e => ⟨by have := (hr r e).1; have := HZ1.out; omega, (hr r e).2⟩), heap_kept h.1.y hg (not_cells h.1.y (fun r e => (hr r e).2))⟩, h.2⟩)
    ?assign ?body ?done ?stop
  case assign =>
    rintro lo _ pre x Wc K hci _ hK
    simp only [encPr]
    have HCI := hid hci
    have HKK := hid hK
    clear hci hK
    gi_wp2
    exact HKK.out _ _ (KeepsFrom.refl _ _) (fun _ _ h => h) ⟨HCI.out, rfl⟩
  case body =>
    rintro lo _ pre x a' Wc hl ⟨r, hr⟩ hpx ⟨H, rfl⟩
    have y0 : Wc.cell? ⟨W.heap.size, 0, none⟩ = some (.func (.yield lp) #[] #[]) := by rw [cell_of_row Wc W.heap.size 0 _ _ _ H.y]; rfl
    obtain ⟨fn, tmps, assign, body, hy, hRd⟩ := HY.out () (pre.map (·.1)) x.1 Wc H.j (pre_all hpx)
    simp only [encU] at hy
    have HRD := hid (roundIn_wide2 (m := n - 1 - 1 - 1) hRd)
    have HYB := hid H.y
    have hmap : (pre ++ [x]).map (·.1) = pre.map (·.1) ++ [x.1] := by simp
    have HMAP := hid hmap
    clear H hl hr hpx hRd hmap
    gi_wp2
    refine ⟨(fun h => by cases h), (round_inR lo HRD.out).mono ?_⟩
    rintro e W6 (⟨rfl, hJ6, hk6, hf6⟩ | ⟨rfl, hJx6, hf6⟩)
    · have HJ6 := hid hJ6
      have HK6 := hid hk6
      have HF6 := hid hf6
      clear hJ6 hk6 hf6
      gi_wp2
      refine ⟨kf_up HF6.out (by have := HZ1.out; omega), (fun k cs h => HK6.out k cs _ _ (.inr (.inl rfl)) h), ⟨?_, HK6.out _ _ _ _ (.inr (.inr rfl)) HYB.out⟩⟩
      rw [HMAP.out]; exact HJ6.out
    · have HJ6 := hid hJx6
      have HF6 := hid hf6
      clear hJx6 hf6
      gi_wp2
      refine ⟨kf_up HF6.out (by have := HZ1.out; omega), rfl, ?_⟩
      rw [HMAP.out]; exact HJ6.out
  case done =>
    rintro D _ Wc hD H hK
    have HH := hid H
    clear H
    gi_wp2
    refine ⟨by simp, .inl ⟨_, _, rfl, run_takeDeferred hK, ?_⟩⟩
    refine ⟨_, results_none rfl _ _ _, ⟨_, rfl⟩, .inl ⟨(), ?_⟩⟩
    have h := HAJ.out.putObj (.deferred none) HH.out.j (by have := HZ1.out; omega) hK rfl
    rw [pairF_allA] at h
    exact h
  case stop =>
    rintro D c pre Wc hD hp ⟨rfl, h2⟩ hK
    have HH := hid h2
    have HP := hid hp
    clear h2 hp
    gi_wp2
    refine ⟨by simp, .inl ⟨_, _, rfl, run_takeDeferred hK, ?_⟩⟩
    refine ⟨_, results_none rfl _ _ _, ⟨_, rfl⟩, .inr ⟨_, ?_, HAJX.out.putObj _ HH.out (by have := HZ1.out; omega) hK rfl⟩⟩
    rw [← pairF_allA]
    exact HP.out.map _
end Go.Proofs.Ytmkajdfajcodjaa

namespace Go.Proofs.Ytmkajdfajcodjaa
open Go Go.ChangeShapes Go.WideShapes Go.ChangeAt Go.RowKit

set_option maxRecDepth 100000 in
set_option maxHeartbeats 8000000 in
theorem SameGraph_told (w : World) (va ea vb eb : Value) (cs : List Int) (es : List (List Nat)) (hA : GrT w.heap.size w va ea cs es) (hB : GrT w.heap.size w vb eb cs es) (hl : cs.length = es.length) :
    Calls Try.prog 19 #[.agg #[va, ea], .agg #[vb, eb]] w fun e w' => e = .returned (.bool true) ∧ Below w.heap.size w w' := by
  obtain ⟨a1, k1, rfl, _, ha2, hAc⟩ := hA.c.ex
  obtain ⟨a2, k2, rfl, _, ha4, hAe⟩ := hA.e
  obtain ⟨b1, l1, rfl, _, hb2, hBc⟩ := hB.c.ex
  obtain ⟨b2, l2, rfl, _, hb4, hBe⟩ := hB.e
  obtain ⟨n, hn⟩ : ∃ n, n = es.length := ⟨_, rfl⟩
  rw [hl] at hAc hBc ⊢
  rw [← hn] at hAc hAe hBc hBe ⊢
  have hnb : n ≤ 9223372036854775807 := by omega
  have HL := hid hl
  have HN := hid hn
  have HAC := hid hAc
  have HAE := hid hAe
  have HBC := hid hBc
  have HBE := hid hBe
  obtain ⟨w1, hw1⟩ : ∃ w1, w1 = w.alloc (.cells #[.slice a1 n k1, .slice a2 n k2] TGr) := ⟨_, rfl⟩
  obtain ⟨w2, hw2⟩ : ∃ w2, w2 = w1.alloc (.cells #[.slice b1 n l1, .slice b2 n l2] TGr) := ⟨_, rfl⟩
  have s1 : w1.heap.size = w.heap.size + 1 := by rw [hw1]; simp
  have hb1 : Below w.heap.size w w1 := by rw [hw1]; exact (Below.refl _ _).alloc (Nat.le_refl _) _
  have hb2' : Below w.heap.size w w2 := by rw [hw2]; exact hb1.alloc hb1.size _
  obtain ⟨p, hp⟩ : ∃ p, p = w.heap.size := ⟨_, rfl⟩
  obtain ⟨q, hq⟩ : ∃ q, q = w1.heap.size := ⟨_, rfl⟩
  have hx2 : w2.heap[q]? = some (.cells #[.slice b1 n l1, .slice b2 n l2] TGr (0, 0)) := by rw [hw2, hq]; exact heap_alloc_new _ _
  have hx1 : w2.heap[p]? = some (.cells #[.slice a1 n k1, .slice a2 n k2] TGr (0, 0)) := by
    rw [hw2]
    have h : w1.heap[p]? = some (.cells #[.slice a1 n k1, .slice a2 n k2] TGr (0, 0)) := by rw [hw1, hp]; exact heap_alloc_new _ _
    first | exact (heap_alloc_old _ _ (by omega)).trans h | exact (heap_alloc_old _ _ _ (by omega)).trans h
  have p0 : w2.cell? ⟨p, 0, none⟩ = some (.slice a1 n k1) := by rw [cell_of_row _ _ 0 _ _ _ hx1]; rfl
  have p1 : w2.cell? ⟨p, 1, none⟩ = some (.slice a2 n k2) := by rw [cell_of_row _ _ 1 _ _ _ hx1]; rfl
  have q0 : w2.cell? ⟨q, 0, none⟩ = some (.slice b1 n l1) := by rw [cell_of_row _ _ 0 _ _ _ hx2]; rfl
  have q1 : w2.cell? ⟨q, 1, none⟩ = some (.slice b2 n l2) := by rw [cell_of_row _ _ 1 _ _ _ hx2]; rfl
  have HW1 := hid hw1
  have HW2 := hid hw2
  have HP := hid hp
  have HQ := hid hq
  have HB2 := hid hb2'
  have HPQ := hid (And.intro p0 (And.intro p1 (And.intro q0 q1)))
  have HQ1 := hid (show q = w.heap.size + 1 by rw [hq, s1])
  clear hA hB hAc hAe hBc hBe hl hn hw1 hw2 hb1 hb2' hp hq hx1 hx2 s1
  go_enter Try.func19, Try.ntmps19
  go_upto_region 1 with fail
  rw [← HW1.out, ← HW2.out, ← HQ1.out, ← HP.out]
  go_wp2_with fail
  clear p0 p1 q0 q1
  go_loopw [5] (fun i wr => ∃ k : Nat, k ≤ n ∧ i = .int .i64 k ∧ RowKit.Hid (Fr (fun _ => False) w2 wr)) (fun i _ => n - (intOf i).toNat)
  case atStart => exact ⟨0, by omega, rfl, hid (Fr.refl _ _)⟩
  case round =>
    obtain ⟨k, hk, rfl, HF⟩ := hrel
    obtain ⟨wx, hwx⟩ : ∃ x, x = wr := ⟨_, rfl⟩
    subst hwx
    have hbx : Below w.heap.size w wx := HB2.out.trans (HF.out.below HB2.out.size (fun _ e => e.elim))
    have hsz := HB2.out.size
    obtain ⟨g0, g1, g2, g3⟩ := HPQ.out
    have kp : ∀ (b k : Nat) v, w2.cell? ⟨b, k, none⟩ = some v → wx.cell? ⟨b, k, none⟩ = some v := fun b k v h => (World.cell?_of_block (w := w2) (w' := wx) (a := ⟨b, k, none⟩) (HF.out.block b (World.block_lt_of_cell? w2 _ h) (fun e => e))).trans h
    have p0 := kp _ _ _ g0
    have p1 := kp _ _ _ g1
    have q0 := kp _ _ _ g2
    have q1 := kp _ _ _ g3
    clear g0 g1 g2 g3 kp
    have HBX := hid hbx
    by_cases hkn : k < n
    · have hlt : k < es.length := by rw [← HN.out]; exact hkn
      have hltc : k < cs.length := by rw [HL.out]; exact hlt
      have hx : cs[k]? = some cs[k] := List.getElem?_eq_getElem hltc
      generalize cs[k] = x at hx
      have hxl : es[k]? = some es[k] := List.getElem?_eq_getElem hlt
      generalize es[k] = l at hxl
      obtain ⟨ba, oa, rfl, hba, hca⟩ := HAC.out (by omega)
      obtain ⟨bb, ob, rfl, hbb, hcb⟩ := HBC.out (by omega)
      obtain ⟨bc, oc, rfl, hbc, hcc⟩ := HAE.out (by omega)
      obtain ⟨bd, od, rfl, hbd, hcd⟩ := HBE.out (by omega)
      obtain ⟨v1, e1, t1⟩ := hcc k l hxl
      obtain ⟨v2, e2, t2⟩ := hcd k l hxl
      have ca : wx.cell? ⟨ba, oa + k, none⟩ = some (.int .u32 x) := (World.cell?_of_block (w := w) (w' := wx) (a := ⟨ba, oa + k, none⟩) (hbx.block ba hba)).trans (hca k x hx)
      have cb : wx.cell? ⟨bb, ob + k, none⟩ = some (.int .u32 x) := (World.cell?_of_block (w := w) (w' := wx) (a := ⟨bb, ob + k, none⟩) (hbx.block bb hbb)).trans (hcb k x hx)
      have cc : wx.cell? ⟨bc, oc + k, none⟩ = some v1 := (World.cell?_of_block (w := w) (w' := wx) (a := ⟨bc, oc + k, none⟩) (hbx.block bc hbc)).trans e1
      have cd : wx.cell? ⟨bd, od + k, none⟩ = some v2 := (World.cell?_of_block (w := w) (w' := wx) (a := ⟨bd, od + k, none⟩) (hbx.block bd hbd)).trans e2
      obtain ⟨la, m1, rfl, _, hm1, hla⟩ := t1.ex
      obtain ⟨lb, m2, rfl, _, hm2, hlb⟩ := t2.ex
      obtain ⟨m, hm⟩ : ∃ m, m = l.length := ⟨_, rfl⟩
      rw [← hm] at cc cd hla hlb
      have hmb : m ≤ 9223372036854775807 := by omega
      have HM := hid hm
      have HLA := hid hla
      have HLB := hid hlb
      clear hx hxl hba hca hbb hcb hbc hcc hbd hcd e1 e2 t1 t2 hm hla hlb hlt hltc hbx
      go_wp2_with fail
      go_quiet (fail)
      go_wp2_with fail
      have HPQ2 := hid (And.intro p1 (And.intro q1 (And.intro cc cd)))
      clear p0 p1 q0 q1 ca cb cc cd
      have HF0 := hid (show Fr (fun _ => False) wx (wx.drewN nq) from (Fr.refl _ _).drewN nq)
      go_loopw [6] (fun i wr => ∃ t : Nat, t ≤ m ∧ i = .int .i64 t ∧ RowKit.Hid (Fr (fun _ => False) wx wr)) (fun i _ => m - (intOf i).toNat)
      case atStart => exact ⟨0, by omega, rfl, HF0⟩
      case round =>
        obtain ⟨t, ht, rfl, HG⟩ := hrel
        obtain ⟨wy, hwy⟩ : ∃ x, x = wr := ⟨_, rfl⟩
        subst hwy
        obtain ⟨g0, g1, g2, g3⟩ := HPQ2.out
        have kp : ∀ (b k : Nat) v, wx.cell? ⟨b, k, none⟩ = some v → wy.cell? ⟨b, k, none⟩ = some v := fun b k v h => (World.cell?_of_block (w := wx) (w' := wy) (a := ⟨b, k, none⟩) (HG.out.block b (World.block_lt_of_cell? wx _ h) (fun e => e))).trans h
        have p1 := kp _ _ _ g0
        have q1 := kp _ _ _ g1
        have cc := kp _ _ _ g2
        have cd := kp _ _ _ g3
        clear g0 g1 g2 g3
        by_cases htm : t < m
        · have hlt : t < l.length := by rw [← HM.out]; exact htm
          have hx : l[t]? = some l[t] := List.getElem?_eq_getElem hlt
          generalize l[t] = z at hx
          obtain ⟨b3, o3, rfl, hb3, hc3⟩ := HLA.out (by omega)
          obtain ⟨b4, o4, rfl, hb4, hc4⟩ := HLB.out (by omega)
          have kb : ∀ (b k : Nat) v, b < w.heap.size → w.cell? ⟨b, k, none⟩ = some v → wy.cell? ⟨b, k, none⟩ = some v := fun b k v hb h => kp b k v ((World.cell?_of_block (w := w) (w' := wx) (a := ⟨b, k, none⟩) (HBX.out.block b hb)).trans h)
          have cz := kb _ _ _ hb3 (hc3 t z hx)
          have cy := kb _ _ _ hb4 (hc4 t z hx)
          clear hx hb3 hc3 hb4 hc4 kb kp hlt
          go_wp2_with fail
          go_quiet (fail)
          go_wp2_with fail
          have HG2 := hid (show Fr (fun _ => False) wx (wy.drewN nq) from HG.out.trans ((Fr.refl _ _).drewN nq) (fun _ e _ => e))
          go_roundw
          case rel => exact ⟨t + 1, by omega, by go_num, HG2⟩
          case measure => simp [intOf]; omega
        · clear kp
          go_wp2_with fail
          have HF2 := hid (HF.out.trans HG.out (fun _ e _ => e))
          go_roundw
          case rel => exact ⟨k + 1, by omega, by go_num, HF2⟩
          case measure => simp [intOf]; omega
    · clear hbx
      go_wp2_with fail
      go_ret
      exact ⟨rfl, HBX.out⟩
end Go.Proofs.Ytmkajdfajcodjaa

namespace Go.Proofs.Ytmkajdfajcodjaa
open Go Go.ChangeShapes Go.WideShapes Go.ChangeAt Go.RowKit Go.Maps

/-- What Graph tells. -/
def GraphPost (w : World) (s : Hs) (e : Ending) (w' : World) : Prop :=
  ∃ cv ev wv, e = .returned (.tuple #[.agg #[cv, ev], wv]) ∧ Tl u64v w'.heap.size w' wv (wls s.A s.L) ∧ GrT w'.heap.size w' cv ev ((wls s.A s.L).map (cntH s.L)) ((wls s.A s.L).map (lstH s.L (wls s.A s.L))) ∧ Below w.heap.size w w'
/-- The contract of the program's Graph. -/
def GraphC : Prop := ∀ (S : Nat → Prop) (w : World) (v : Value) (s : Hs), RpH S w v s → s.A.most ≤ 256 → Calls Try.prog 17 #[v] w (GraphPost w s)
theorem Tl.longs {W : World} {v : Value} {xs : List Int} (h : Tl u64v W.heap.size W v xs) : Told TU u64v W v xs := by
  obtain ⟨a, c, h1, h2, h3, h4⟩ := h.ex
  refine ⟨a, c, h1, h2, h3, fun hl => ?_⟩
  obtain ⟨b, o, h5, h6, h7⟩ := h4 hl
  refine ⟨b, o, h5, h6, fun j u hu => ?_⟩
  rw [List.getElem?_map, Option.map_eq_some_iff] at hu
  obtain ⟨x, hx, rfl⟩ := hu
  exact h7 j x hx
theorem GrT.one {B : Nat} {W : World} {cv ev : Value} {cs : List Int} {es : List (List Nat)} (h : GrT B W cv ev cs es) : (#[cv, ev] : Array Value).all (·.oneCell') = true := by
  obtain ⟨a, c, rfl, _⟩ := h.c.ex
  obtain ⟨a2, c2, rfl, _⟩ := h.e
  simp [Value.oneCell']
/-- The first ones of a told row. -/
theorem Told.cut {W : World} {a : Option Addr} {n c m : Nat} {xs : List Int} (h : Told TU u64v W (.slice a n c) xs) (hm : m ≤ xs.length) : Told TU u64v W (.slice a m c) (xs.take m) := by
  obtain ⟨a2, c2, h1, h2, h3, h4⟩ := h.ex
  simp only [Value.slice.injEq] at h1
  obtain ⟨rfl, rfl, rfl⟩ := h1
  have hl : (xs.take m).length = m := by rw [List.length_take]; omega
  refine ⟨a, c, by rw [hl], by rw [hl]; omega, h3, fun hp => ?_⟩
  rw [hl] at hp
  obtain ⟨b, o, h5, h6, h7⟩ := h4 (by omega)
  refine ⟨b, o, h5, h6, fun j u hu => h7 j u ?_⟩
  rw [List.getElem?_map] at hu ⊢
  rw [List.getElem?_take] at hu
  split at hu
  · exact hu
  · cases hu
/-- Told rows' first ones, cut. -/
theorem exec_upN {o : Oper} {f : Operand → Value} {W : World} {p h : Operand} {a : Option Addr} {n cap hi : Nat} (ho : o.op = .slice 43 p none (some h) none) (hp : f p = .slice a n cap) (hh : f h = .int .i64 hi) (h2 : hi ≤ n) (h3 : n ≤ cap) (ha : 0 < n → ∃ b oo, a = some ⟨b, oo, none⟩) :
    (execOp f o).run Try.prog W = .ok (.value (.slice a hi cap)) W := by
  cases a with
  | some ad =>
    obtain ⟨b, oo, ix⟩ := ad
    unfold execOp
    simp only [ho, hp]
    simp only [Option.map, hh]
    have h4 : hi ≤ cap := by omega
    go_simp
  | none =>
    have h0 : n = 0 := by
      by_cases h : 0 < n
      · obtain ⟨b, oo, e⟩ := ha h; cases e
      · omega
    have h4 : hi = 0 := by omega
    subst h0 h4
    unfold execOp
    simp only [ho, hp]
    simp only [Option.map, hh]
    go_simp
/-- What both tell of how they hold one another. -/
theorem HsPI.graphs (HG : GraphC) {w0 w : World} {pp i k : Nat} {vT vX : Value} (h : HsPI w0 pp vT vX i k w) (hk : k ≤ 256) :
    ∃ s : Hs, w.cell? ⟨pp, 0, none⟩ = some vT ∧ w.cell? ⟨pp, 1, none⟩ = some vX ∧ pp < w.heap.size ∧ s.A.most = k ∧
      (∀ W, Below w.heap.size w W → Calls Try.prog 17 #[vT] W (GraphPost W s)) ∧ (∀ W, Below w.heap.size w W → Calls Try.prog 18 #[vX] W (GraphPost W s)) := by
  obtain ⟨S1, S2, s, G, gv, h1, h2, h3⟩ := h
  refine ⟨s, h1.c0, h1.c1, h1.lt, h3, fun W hb => HG S1 W vT s ((h1.no (Fr.of_below hb)).t) (by omega), fun W hb => ?_⟩
  obtain ⟨px, hpx⟩ := h1.x.ptr
  have hx := (h1.no (Fr.of_below hb)).x
  rw [hpx] at hx ⊢
  exact RfGraph_any S2 W px s hx (by omega)
/-- All of both, at the end. -/
theorem HsPI.ends {w0 w : World} {pp i k : Nat} {vT vX : Value} (h : HsPI w0 pp vT vX i k w) (hk : k ≤ 256) :
    ∃ (s : Hs) (px pa : Nat), vX = .pointer (some ⟨px, 0, none⟩) ∧ w.cell? ⟨pp, 0, none⟩ = some vT ∧ w.cell? ⟨pp, 1, none⟩ = some vX ∧ w.cell? ⟨px, 1, none⟩ = some (.pointer (some ⟨pa, 0, none⟩)) ∧ pp < w.heap.size ∧ px < w.heap.size ∧ (allA s.A).length ≤ 256 ∧ (∃ pt, vT = .pointer (some ⟨pt, 0, none⟩)) ∧
      (∀ W, Below w.heap.size w W → Calls Try.prog 21 #[.pointer (some ⟨pa, 0, none⟩)] W fun e w' => Below W.heap.size W w' ∧ ∃ v, e = .returned v ∧ Told TU u64v w' v (allA s.A)) ∧
      (∀ W (m : Nat), Below w.heap.size w W → m ≤ 256 → Calls Try.prog 22 #[vT, .int .i64 m] W fun e w' => Below W.heap.size W w' ∧ ∃ v, e = .returned v ∧ Told TU u64v w' v ((allA s.A).take m)) := by
  obtain ⟨S1, S2, s, G, gv, h1, h2, h3⟩ := h
  obtain ⟨px, hpx⟩ := h1.x.ptr
  have hx := h1.x
  rw [hpx] at hx
  obtain ⟨pa, hpxl, hpa, hall⟩ := hx.all
  exact ⟨s, px, pa, hpx, h1.c0, h1.c1, hpa, h1.lt, hpxl, allA_len h1.t.hsi.ok.aok (by omega), h1.t.ptr, fun W hb => hall W (Fr.of_below hb), fun W m hb hm => (heapC w).all S1 W vT s m hb ((h1.no (Fr.of_below hb)).t) (by omega)⟩
set_option maxRecDepth 100000 in
set_option maxHeartbeats 8000000 in
theorem HeapTells_any (HG : GraphC) (w : World) (most stop : Int) (ad : Option Addr) (c : Nat) (l : List HAct) (hm : Nm most) (hs : Nm stop) (hl : RwH w w.heap.size ad l) (hll : l.length ≤ 9223372036854775807) :
    Calls Try.prog 4 #[.int .i64 most, .slice ad l.length c, .int .i64 stop] w fun e w' => e = .returned (.bool true) ∧ Below w.heap.size w w' := by
  have HAW := hid (heapC w).awk
  have HPK := hid (Pick_any most 30 w (by unfold Nm at hm; omega) (by decide) (by decide))
  have HPS := hid (fun (n : Int) (W : World) h1 h2 => Pick_any stop n W (by unfold Nm at hs; omega) h1 h2)
  obtain ⟨mo, hmo⟩ : ∃ mo, mo = 1 + most % 30 := ⟨_, rfl⟩
  have hmb : 1 ≤ mo ∧ mo ≤ 30 := by have := Int.emod_nonneg most (show (30 : Int) ≠ 0 by decide); have := Int.emod_lt_of_pos most (show (0 : Int) < 30 by decide); omega
  have HBG := hid (fun W => begun_any mo 5 W (by unfold Nm; omega) (by unfold U32; omega) ⟨hmb.1, by omega, by decide⟩)
  have HMO := hid hmo.symm
  have HL := hid hl
  have HGC := hid HG
  obtain ⟨K, hK⟩ : ∃ K, K = (new mo.toNat 1).most := ⟨_, rfl⟩
  have hKb : K ≤ 256 := by
    have : (new mo.toNat 1).most = mo.toNat := rfl
    omega
  rw [← hK] at HBG
  have HKB := hid hKb
  have HLL := hid hll
  clear hm hs hl hmo hmb HG hK hKb
  go_enter Try.func4, Try.ntmps4
  go_wp2_with fail
  refine HPK.out.mono ?_
  rintro e w' ⟨rfl, rfl⟩
  clear HPK
  go_wp2_with fail
  rw [HMO.out]
  refine (HBG.out w).mono ?_
  rintro e w3 ⟨pp, vT, vX, rfl, hI⟩
  have HI := hid hI
  clear hI HBG HMO
  go_wp2
  go_loopw [8] (fun i wr => ∃ k : Nat, k ≤ l.length ∧ k ≤ 60 ∧ i = .int .i64 k ∧ RowKit.Hid (HsPI w pp vT vX k K wr)) (fun i _ => 60 - (intOf i).toNat)
  case atStart => exact ⟨0, Nat.zero_le _, by omega, rfl, HI⟩
  case round =>
    obtain ⟨k, hkl, hk60, rfl, HIk⟩ := hrel
    clear HI
    by_cases hgo : k < l.length ∧ k < 60
    · obtain ⟨hg1, hg2⟩ := hgo
      have hx : l[k]? = some (l[k]'hg1) := List.getElem?_eq_getElem hg1
      generalize l[k]'hg1 = x at hx
      obtain ⟨ab, ao, rfl, hab⟩ := HL.out.at_ (by omega)
      have hbw : Below w.heap.size w wr := HIk.out.below
      have HAT := hid ((HL.out.below hbw).rows ab ao rfl k x hx)
      have HOK := HL.out.ok x (List.mem_of_getElem? hx)
      have HDO := hid (HIk.out.do (by omega) HOK)
      clear hx HOK HIk hbw
      go_wp2_with (first
        | ((with_reducible refine at_op ⟨some 33, _, _, _, _, _⟩ ?_); refine wpList_run rfl _ (load_act rfl rfl HAT.out) ?_)
        | fail)
      refine HDO.out.mono ?_
      rintro e w5 ⟨rfl, h5⟩
      have HAL := hid (h5.alike (by omega) HKB.out)
      have H5 := hid h5
      clear h5 HDO HAT
      go_wp2_with fail
      refine HAL.out.mono ?_
      rintro e w6 ⟨rfl, hb6⟩
      obtain ⟨s, c0, c1, hpl, hsk, hg, hgr⟩ := (H5.out.no (Fr.of_below hb6)).graphs HGC.out HKB.out
      have H6 := hid (H5.out.no (Fr.of_below hb6))
      have HG1 := hid (hg w6 (Below.refl _ _))
      have HGR := hid hgr
      have C1 := hid c1
      have HPL := hid hpl
      clear hb6 H5 HAL hg hgr hpl c1
      go_wp2_with fail
      refine HG1.out.mono ?_
      rintro e w7 ⟨cv, ev, wv, rfl, t1, gt1, hb7⟩
      have HONE := hid gt1.one
      have hx7 := setRow_heap (w7.alloc (.cells #[.slice none 0 0, .slice none 0 0] TGr)) w7.heap.size _ #[cv, ev] TGr (0, 0) (heap_alloc_new w7 (.cells #[.slice none 0 0, .slice none 0 0] TGr))
      obtain ⟨w8, hw8⟩ : ∃ w8, w8 = (w7.alloc (.cells #[.slice none 0 0, .slice none 0 0] TGr)).setRow w7.heap.size #[cv, ev] := ⟨_, rfl⟩
      have hb8 : Below w7.heap.size w7 w8 := by rw [hw8]; exact below_setRow ((Below.refl _ _).alloc (Nat.le_refl _) _) _ _ (Nat.le_refl _)
      rw [← hw8] at hx7
      have hb68 : Below w6.heap.size w6 w8 := hb7.trans (hb8.mono hb7.size)
      have c1 : w8.cell? ⟨pp, 1, none⟩ = some vX := (World.cell?_of_block (w := w6) (w' := w8) (a := ⟨pp, 1, none⟩) (hb68.block pp HPL.out)).trans C1.out
      have HGR2 := hid (HGR.out w8 hb68)
      have HT1 := hid ((t1.below hb8).up hb8.size)
      have HGT1 := hid ((gt1.below hb8).up hb8.size)
      have HX7 := hid hx7
      have HB68 := hid hb68
      have HW8 := hid hw8
      obtain ⟨g7, hg7⟩ : ∃ g7, g7 = w7.heap.size := ⟨_, rfl⟩
      have HG7 := hid hg7
      rw [← hg7] at HX7
      clear t1 gt1 hb7 hx7 hw8 hb8 hb68 HG1 HGR C1 c0 hg7
      go_upto_region 9 with (first
        | ((with_reducible refine at_op ⟨none, .store 42 (.tmp 9) (.tmp 44), _, _, _, _⟩ ?_); go_loud (refine wpList_store_row rfl 42 (.tmp 9) (.tmp 44) rfl w7.heap.size #[cv, ev] rfl rfl TGr #[.slice none 0 0, .slice none 0 0] (heap_alloc_new w7 _) (by kernel_rfl) rfl HONE.out ?_))
        | fail)
      rw [← HW8.out, ← HG7.out]
      clear HW8
      go_wp2_with fail
      refine HGR2.out.mono ?_
      rintro e w9 ⟨cv2, ev2, wv2, rfl, t2, gt2, hb9⟩
      have HONE2 := hid gt2.one
      have hx9 := setRow_heap (w9.alloc (.cells #[.slice none 0 0, .slice none 0 0] TGr)) w9.heap.size _ #[cv2, ev2] TGr (0, 0) (heap_alloc_new w9 (.cells #[.slice none 0 0, .slice none 0 0] TGr))
      obtain ⟨w10, hw10⟩ : ∃ w10, w10 = (w9.alloc (.cells #[.slice none 0 0, .slice none 0 0] TGr)).setRow w9.heap.size #[cv2, ev2] := ⟨_, rfl⟩
      have hb10 : Below w9.heap.size w9 w10 := by rw [hw10]; exact below_setRow ((Below.refl _ _).alloc (Nat.le_refl _) _) _ _ (Nat.le_refl _)
      rw [← hw10] at hx9
      have hb810 : Below w8.heap.size w8 w10 := hb9.trans (hb10.mono hb9.size)
      have hx7b := (hb810.block g7 (Array.getElem?_eq_some_iff.1 HX7.out).1).trans HX7.out
      have HT2 := hid ((t2.below hb10).up hb10.size)
      have HT1b := hid ((HT1.out.below hb810).up hb810.size)
      have HSG := hid (SameGraph_told w10 cv ev cv2 ev2 _ _ ((HGT1.out.below hb810).up hb810.size) ((gt2.below hb10).up hb10.size) (by rw [List.length_map, List.length_map]))
      have HX7b := hid hx7b
      obtain ⟨g9, hg9⟩ : ∃ g9, g9 = w9.heap.size := ⟨_, rfl⟩
      have HG9 := hid hg9
      rw [← hg9] at hx9
      have HX9 := hid hx9
      have HB610 := hid (HB68.out.trans (hb810.mono HB68.out.size))
      have HW10 := hid hw10
      clear t2 gt2 hb9 hx9 hw10 hb10 hb810 hx7b hg9 HT1 HGT1 HX7 HGR2 c1 HB68
      go_upto_region 10 with (first
        | ((with_reducible refine at_op ⟨none, .store 42 (.tmp 11) (.tmp 52), _, _, _, _⟩ ?_); go_loud (refine wpList_store_row rfl 42 (.tmp 11) (.tmp 52) rfl w9.heap.size #[cv2, ev2] rfl rfl TGr #[.slice none 0 0, .slice none 0 0] (heap_alloc_new w9 _) (by kernel_rfl) rfl HONE2.out ?_))
        | fail)
      rw [← HW10.out, ← HG9.out]
      clear HW10
      go_wp2_with (first
        | ((with_reducible refine at_op ⟨some 54, _, _, _, _, _⟩ ?_); go_loud (refine wpList_load_row rfl 42 _ rfl g7 rfl 42 #[cv, ev] (0, 0) _ HX7b.out Try.underlying42 rfl (by kernel_rfl) ?_))
        | ((with_reducible refine at_op ⟨some 55, _, _, _, _, _⟩ ?_); go_loud (refine wpList_load_row rfl 42 _ rfl g9 rfl 42 #[cv2, ev2] (0, 0) _ HX9.out Try.underlying42 rfl (by kernel_rfl) ?_))
        | fail)
      refine HSG.out.mono ?_
      rintro e w11 ⟨rfl, hb11⟩
      have HSL := hid (SameLongs_told w11 wv wv2 _ ((HT1b.out.below hb11).up hb11.size).longs ((HT2.out.below hb11).up hb11.size).longs)
      have HB11 := hid (HB610.out.trans (hb11.mono HB610.out.size))
      clear hb11 HSG HT1b HT2 HB610
      go_wp2_with (first
        | (go_at_call 20; (with_reducible refine HSL.out.mono ?_); rintro e w12 ⟨rfl, hb12⟩; have HB12 := hid (HB11.out.trans (hb12.mono HB11.out.size)); clear hb12)
        | fail)
      have H12 := hid (H6.out.no (Fr.of_below HB12.out))
      go_roundw
      case rel => exact ⟨k + 1, by omega, by omega, by go_num, H12⟩
      case measure => simp [intOf]; omega
    · have hlt2 : k = l.length ∨ (k = 60 ∧ 60 < l.length) := by omega
      obtain ⟨s, px, pa, hvX, c0, c1, c2, hpl, hpxl, hAl, ⟨pt, hvT⟩, hall, hsome⟩ := HIk.out.ends HKB.out
      obtain ⟨n, hn⟩ : ∃ n, n = (allA s.A).length := ⟨_, rfl⟩
      rw [← hn] at hAl
      rw [hvX] at c1
      rw [hvT] at c0
      have HVT := hid hvT
      have HN := hid hn
      have HALL := hid (hall wr (Below.refl _ _))
      have HSOME := hid hsome
      have HBW := hid HIk.out.below
      have C0 := hid c0
      have HPL := hid hpl
      have HPSn := hid (fun W => HPS.out ((n : Int) + 1) W (by omega) (by omega))
      clear hvX hvT hn hall hsome hpl hgo HIk c0 HPS
      rcases hlt2 with rfl | ⟨rfl, h60⟩
      all_goals
        go_wp2_with fail
        refine HALL.out.mono ?_
        rintro e w2 ⟨hb2, v2, rfl, t2⟩
        obtain ⟨a2, k2, rfl, hk2, hk3, hf2⟩ := t2.ex
        rw [← HN.out] at hk2 ⊢
        have HB2 := hid hb2
        have HT2 := hid t2
        have HA2 := hid (show 0 < n → ∃ b oo, a2 = some ⟨b, oo, none⟩ from fun h => by
          obtain ⟨b, oo, e, _⟩ := hf2 (by rw [← HN.out]; exact h)
          exact ⟨b, oo, e⟩)
        clear hb2 t2 hf2 c1 c2
        go_wp2_with fail
        refine (HPSn.out w2).mono ?_
        rintro e w' ⟨rfl, rfl⟩
        obtain ⟨m, hm⟩ : ∃ m : Nat, stop % ((n : Int) + 1) = m := ⟨(stop % ((n : Int) + 1)).toNat, (Int.toNat_of_nonneg (Int.emod_nonneg _ (by omega))).symm⟩
        have hmn : m ≤ n := by have := Int.emod_lt_of_pos stop (show (0 : Int) < (n : Int) + 1 by omega); omega
        have HM := hid hm
        clear hm
        have hb2w := HB2.out
        have c0 : w2.cell? ⟨pp, 0, none⟩ = some (.pointer (some ⟨pt, 0, none⟩)) := (World.cell?_of_block (w := wr) (w' := w2) (a := ⟨pp, 0, none⟩) (hb2w.block pp HPL.out)).trans C0.out
        have HSO := hid (HSOME.out w2.drew m hb2w.drew (by omega))
        have HTC := hid (HT2.out.cut (m := m) (by rw [← HN.out]; exact hmn))
        clear hb2w
        go_wp2_with fail
        rw [HM.out]
        refine D.wp_region_mix [0, 0, 0, 1, 0, 2, 0, 0, 0, 2, 0, 2, 0, 0] (fun W => W.cell? ⟨pp, 0, none⟩ = some (.pointer (some ⟨pt, 0, none⟩))) (by kernel_rfl) (by kernel_rfl) c0 ?_
        repeat (first
          | (refine' C.wpMix_value _ rfl rfl _ _; rotate_left; (solve | (intro W; go_simp) | (intro W; go_simp; with_reducible rfl)); simp only [Act.put, List.setIfInBounds_toArray, List.set_cons_zero, List.set_cons_succ])
          | (refine' C.wpMix_read _ rfl rfl _ _; rotate_left; (solve | (rintro W hS; go_simp) | (rintro W hS; go_simp; with_reducible rfl)); simp only [Act.put, List.setIfInBounds_toArray, List.set_cons_zero, List.set_cons_succ]))
        rw [HVT.out] at HSO
        refine C.wpMix_call 22 #[.pointer (some ⟨pt, 0, none⟩), .int .i64 m] (by decide) rfl (by go_simp) ?_
        refine HSO.out.mono ?_
        rintro e w4 ⟨hb4, v4, rfl, t4⟩
        have hb24 : Below w2.heap.size w2 w4 := ((Below.refl w2.heap.size w2).drew).trans hb4
        have hp2 : pp < w2.heap.size := Nat.lt_of_lt_of_le HPL.out HB2.out.size
        have c04 : w4.cell? ⟨pp, 0, none⟩ = some (.pointer (some ⟨pt, 0, none⟩)) := (hb24.cell (p := ⟨pp, 0, none⟩) hp2).trans c0
        refine ⟨_, rfl, fun _ => c04, ?_⟩
        simp only [Act.put, List.setIfInBounds_toArray, List.set_cons_zero, List.set_cons_succ]
        have HSL := hid (SameLongs_told w4 v4 (.slice a2 m k2) _ t4 (HTC.out.below hb24))
        have HB4 := hid (HBW.out.trans ((HB2.out.trans (hb24.mono HB2.out.size)).mono HBW.out.size))
        clear hb4 t4 hb24 HSO HTC HT2
        repeat (first
          | (refine' C.wpMix_value _ rfl rfl _ _; rotate_left; (solve | (intro W; go_simp) | (intro W; go_simp; with_reducible rfl)); simp only [Act.put, List.setIfInBounds_toArray, List.set_cons_zero, List.set_cons_succ])
          | (refine' C.wpMix_read _ rfl rfl _ _; rotate_left; (solve | (rintro W hS; go_simp) | (rintro W hS; go_simp; with_reducible rfl)); simp only [Act.put, List.setIfInBounds_toArray, List.set_cons_zero, List.set_cons_succ]))
        refine C.wpMix_value (.slice a2 m k2) rfl rfl (fun W => exec_upN rfl rfl rfl hmn hk2 HA2.out) ?_
        simp only [Act.put, List.setIfInBounds_toArray, List.set_cons_zero, List.set_cons_succ]
        refine C.wpMix_call 20 #[v4, .slice a2 m k2] (by decide) rfl (by go_simp) ?_
        refine HSL.out.mono ?_
        rintro e w5 ⟨rfl, hb5⟩
        have c05 : w5.cell? ⟨pp, 0, none⟩ = some (.pointer (some ⟨pt, 0, none⟩)) := (hb5.cell (p := ⟨pp, 0, none⟩) (World.block_lt_of_cell? w4 _ c04)).trans c04
        refine ⟨_, rfl, fun _ => c05, ?_⟩
        simp only [Act.put, List.setIfInBounds_toArray, List.set_cons_zero, List.set_cons_succ]
        have HB5 := hid (HB4.out.trans (hb5.mono HB4.out.size))
        have HAW5 := hid (HAW.out w5 HB5.out)
        clear hb5 HSL c04
        repeat (first
          | (refine' C.wpMix_value _ rfl rfl _ _; rotate_left; (solve | (intro W; go_simp) | (intro W; go_simp; with_reducible rfl)); simp only [Act.put, List.setIfInBounds_toArray, List.set_cons_zero, List.set_cons_succ])
          | (refine' C.wpMix_read _ rfl rfl _ _; rotate_left; (solve | (rintro W hS; go_simp) | (rintro W hS; go_simp; with_reducible rfl)); simp only [Act.put, List.setIfInBounds_toArray, List.set_cons_zero, List.set_cons_succ]))
        refine C.wpMix_call 12 #[] (by decide) rfl (by go_simp) ?_
        refine HAW5.out.mono ?_
        rintro e w6 ⟨hb6, rfl⟩
        have c06 : w6.cell? ⟨pp, 0, none⟩ = some (.pointer (some ⟨pt, 0, none⟩)) := (hb6.cell (p := ⟨pp, 0, none⟩) (World.block_lt_of_cell? w5 _ c05)).trans c05
        refine ⟨_, rfl, fun _ => c06, ?_⟩
        simp only [Act.put, List.setIfInBounds_toArray, List.set_cons_zero, List.set_cons_succ]
        have HB6 := hid (HB5.out.trans (hb6.mono HB5.out.size))
        clear hb6 HAW5 c05
        repeat (first
          | (refine' C.wpMix_value _ rfl rfl _ _; rotate_left; (solve | (intro W; go_simp) | (intro W; go_simp; with_reducible rfl)); simp only [Act.put, List.setIfInBounds_toArray, List.set_cons_zero, List.set_cons_succ])
          | (refine' C.wpMix_read _ rfl rfl _ _; rotate_left; (solve | (rintro W hS; go_simp) | (rintro W hS; go_simp; with_reducible rfl)); simp only [Act.put, List.setIfInBounds_toArray, List.set_cons_zero, List.set_cons_succ]))
        refine C.wpMix_end ?_
        go_wp2_with fail
        go_ret
        exact ⟨rfl, HB6.out⟩
end Go.Proofs.Ytmkajdfajcodjaa

namespace Go.Proofs.Ytmkajdfajcodjaa
open Go Go.ChangeShapes Go.WideShapes Go.ChangeAt Go.RowKit Go.Shelf Go.Maps

abbrev TSU : TypeId := 43
/-- A wholes' place. -/
def plc (X : List Int) (t : Int) : Option Int := if t ∈ X then some ((X.idxOf t : Nat) : Int) else none
theorem plc_next {X : List Int} {h : Int} (hn : h ∉ X) (s : Int) : (if s = h then some ((X.length : Nat) : Int) else plc X s) = plc (X ++ [h]) s := by
  unfold plc
  by_cases e : s = h
  · subst e
    rw [if_pos rfl, if_pos (by simp)]
    rw [List.idxOf_append, if_neg hn]
    simp
  · rw [if_neg e]
    by_cases hm : s ∈ X
    · rw [if_pos hm, if_pos (List.mem_append_left _ hm), List.idxOf_append, if_pos hm]
    · rw [if_neg hm, if_neg (by simp [hm, e])]
/-- While the wholes are collected. -/
structure Gr1 (w : World) (p : Nat) (L : HL) (pre : List Int) (wv : Value) (W : World) : Prop where
  bel : Below w.heap.size w W
  b0 : Boxed W w.heap.size 24 (.pointer (some ⟨p, 0, none⟩))
  g1 : W.heap[w.heap.size + 1]? = some (.cells #[.slice none 0 0, .slice none 0 0] TGr (0, 0))
  g2 : W.heap[w.heap.size + 2]? = some (.cells #[.slice none 0 0, .slice none 0 0] TGr (0, 0))
  b3 : Boxed W (w.heap.size + 3) TSU wv
  b5 : Boxed W (w.heap.size + 5) TMI (.map (some (w.heap.size + 4)))
  mp : ∃ D c, W.ownsMap Try.prog TU (plainElem (H := Unit) Try.prog TI) (w.heap.size + 4) c D ∧ MapOf .u64 .i64 D (plc (pre.filter (isW L))) c ∧ c ≤ pre.length
  row : W.ownsRow (w.heap.size + 7) TU 1 wv (pre.filter (isW L)).length ((pre.filter (isW L)).map u64v)
  sz : w.heap.size + 7 ≤ W.heap.size
section
variable {w W W' : World} {p : Nat} {L : HL} {pre : List Int} {wv : Value}
theorem Gr1.kept {row : Option Nat} (h : Gr1 w p L pre wv W) (hg : W.grownBy W' row) (hr : ∀ r, row = some r → w.heap.size + 7 ≤ r ∧ ∃ o : Obj, W.heap[r]? = some o ∧ o.isCells = false) : Gr1 w p L pre wv W' := by
  have hr' := fun r e => (hr r e).2
  have hf : Fr (fun k => row = some k) W W' := (Fr.refl _ _).grown hg (fun k hk _ => hk)
  obtain ⟨D, c, h1, h2, h3⟩ := h.mp
  exact ⟨h.bel.grown hg h.bel.size (fun k e => by have := (hr k e).1; omega), h.b0.kept hg (not_cells h.b0 hr'), heap_kept h.g1 hg (not_cells h.g1 hr'), heap_kept h.g2 hg (not_cells h.g2 hr'), h.b3.kept hg (not_cells h.b3 hr'), h.b5.kept hg (not_cells h.b5 hr'),
    ⟨D, c, hf.ownsMap h1 (fun e => by have := (hr _ e).1; omega), h2, h3⟩, owns_not_cells h.row hg hr', Nat.le_trans h.sz hg.size⟩
/-- One that is no whole. -/
theorem Gr1.skip {x : Int} (h : Gr1 w p L pre wv W) (hx : isW L x = false) : Gr1 w p L (pre ++ [x]) wv W := by
  have e : (pre ++ [x]).filter (isW L) = pre.filter (isW L) := by rw [List.filter_append]; simp [hx]
  obtain ⟨D, c, h1, h2, h3⟩ := h.mp
  exact ⟨h.bel, h.b0, h.g1, h.g2, h.b3, h.b5, ⟨D, c, h1, by rw [e]; exact h2, by rw [List.length_append]; omega⟩, by rw [e]; exact h.row, h.sz⟩
theorem filt_next {x : Int} (hx : isW L x = true) : (pre ++ [x]).filter (isW L) = pre.filter (isW L) ++ [x] := by rw [List.filter_append]; simp [hx]
/-- The map is turned: a whole's place. -/
theorem Gr1.place {x : Int} (h : Gr1 w p L pre wv W) (hn : x ∉ pre) (hxb : Hn x) (hl : pre.length ≤ 1000000) :
    ∃ W1, (Instr.mapUpdate TMI (.map (some (w.heap.size + 4))) (.int .u64 x) (.int .i64 (((pre.filter (isW L)).length : Nat) : Int))).run Try.prog W = .ok () W1 ∧ Fr (fun k => k = w.heap.size + 4) W W1 ∧ KeepsFrom (w.heap.size + 7) W W1 ∧ KT (fun _ => False) KTy W W1 ∧
      (∃ D c, W1.ownsMap Try.prog TU (plainElem (H := Unit) Try.prog TI) (w.heap.size + 4) c D ∧ MapOf .u64 .i64 D (plc (pre.filter (isW L) ++ [x])) c ∧ c ≤ pre.length + 1) ∧ ∃ o : Obj, W.heap[w.heap.size + 4]? = some o ∧ o.isCells = false := by
  obtain ⟨D, c, h1, h2, h3⟩ := h.mp
  have hfl := List.length_filter_le (isW L) pre
  have hk := keyOf_int_mk (P := Try.prog) Try.underlying34 (a := x) (WalkArith.wf_u64 ⟨hxb.1, hxb.2⟩)
  have he := plainElem_int (H := Unit) (P := Try.prog) Try.underlying3 (a := (((pre.filter (isW L)).length : Nat) : Int)) (WalkArith.wf_i64 ⟨by omega, by omega⟩)
  obtain ⟨W1, hrun, r1, r2⟩ := h1.store (t := TMI) lawU Try.underlying102 (by unfold maxLen; omega) hk he
  have hnx : x ∉ pre.filter (isW L) := fun e => hn (List.mem_filter.1 e).1
  have hf := fr_mapTurned r2
  obtain ⟨es, clock, hbb, _⟩ := h1
  refine ⟨W1, hrun, hf, KeepsFrom.of_grownBy r2.grown (fun j e => by cases e; omega), fun k cs t fr hS hk => ?_, ⟨_, c + 1, r1, ?_, by omega⟩, _, hbb, rfl⟩
  · rw [hf.block k (Array.getElem?_eq_some_iff.1 hk).1 (fun e => by rw [e, hbb] at hk; cases hk)]
    exact hk
  · have h4 := h2.put x (((pre.filter (isW L)).length : Nat) : Int)
    refine h4.congr (fun s => plc_next hnx s) ?_
    have : plc (pre.filter (isW L)) x = none := if_neg hnx
    rw [this]
    rfl
end
/-- Blocks that stay while the graph is laid: they are labelled 7. -/
structure Gr2 (WA : World) (T : Nat → Prop) (F : Nat → Nat) (W : World) : Prop where
  fr : Fr (fun k => ¬ T k) WA W
  ft : ∀ k, T k → F k = 7
  tl : ∀ k, T k → k < WA.heap.size
section
variable {WA W W' : World} {T : Nat → Prop} {F F' : Nat → Nat} {fp : Nat → Prop}
theorem Gr2.step (h : Gr2 WA T F W) (hf : Fr fp W W') (hfp : ∀ k, fp k → k < W.heap.size → F k ≠ 7) (hF : ∀ k, k < W.heap.size → F' k = F k) : Gr2 WA T F' W' :=
  ⟨h.fr.trans hf (fun j hj hl hT => hfp j hj (Nat.lt_of_lt_of_le hl h.fr.size) (h.ft j hT)), fun k hk => by rw [hF k (Nat.lt_of_lt_of_le (h.tl k hk) h.fr.size)]; exact h.ft k hk, h.tl⟩
theorem Gr2.at_ (h : Gr2 WA T F W) {k : Nat} (hk : T k) : W.heap[k]? = WA.heap[k]? := h.fr.block k (h.tl k hk) (fun e => e hk)
theorem Gr2.box (h : Gr2 WA T F W) {b : Nat} {t : TypeId} {v : Value} (hk : T b) (hb : Boxed WA b t v) : Boxed W b t v := (h.at_ hk).trans hb
theorem Gr2.below (h : Gr2 WA T F W) {w : World} (hw : Below w.heap.size w WA) (hT : ∀ k, k < w.heap.size → T k) : Below w.heap.size w W := hw.trans (h.fr.below hw.size (fun k hk => by
  by_cases e : k < w.heap.size
  · exact absurd (hT k e) hk
  · omega))
theorem Gr2.map (h : Gr2 WA T F W) {b n : Nat} {D : DataW Unit} (hk : T b) (hm : WA.ownsMap Try.prog TU (plainElem (H := Unit) Try.prog TI) b n D) : W.ownsMap Try.prog TU (plainElem (H := Unit) Try.prog TI) b n D := h.fr.ownsMap hm (fun e => e hk)
end
/-- A block apart turns. -/
theorem GI.apart {B : Nat} {W W' : World} {y : Nat} {F : Nat → Nat} {cv ev : Value} {cs : List Int} {vs : List Value} {ls : List (List Nat)} (h : GI B W y F cv ev cs vs ls) {g : Nat} (hf : Fr (fun b => b = g) W W') (hg : F g = 7) : GI B W' y F cv ev cs vs ls :=
  ⟨(hf.block y h.lt (fun e => by have := h.ly; rw [e, hg] at this; cases this)).trans h.hy, hf.owns h.c (fun k hk e => by have := h.lc k hk; rw [e, hg] at this; cases this), hf.owns h.e (fun k hk e => by have := h.le k hk; rw [e, hg] at this; cases this), h.l, fun i v xs h1 h2 => (h.r i v xs h1 h2).fr hf (fun _ _ => rfl) (fun k e _ => by rw [e, hg]; decide), h.ly, h.lc, h.le, h.b0, h.b6⟩
theorem exec_load_row {o : Oper} {f : Operand → Value} {W : World} {T : TypeId} {p : Operand} (ho : o.op = .load T p) (g : Nat) (cells : Array Value) (hp : f p = .pointer (some ⟨g, 0, none⟩)) (hl : (loadVar T ⟨g, 0, none⟩).run Try.prog W = .ok (.agg cells) W) :
    (execOp f o).run Try.prog W = .ok (.value (.agg cells)) W := by
  unfold execOp
  simp only [ho, hp, Instr.loadAt, Instr.sureAddr, Sem.run_bind, Sem.run_pure, Result.andThen_ok, hl]
end Go.Proofs.Ytmkajdfajcodjaa
