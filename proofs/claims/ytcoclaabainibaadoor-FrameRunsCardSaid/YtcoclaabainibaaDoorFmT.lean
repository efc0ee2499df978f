/-
  The plain twin's Next. (Written by tools/genfmt.py.)
-/
import Derived.Test.YtcoclaabainibaaDoorFmR
import Derived.Test.YtcoclaabainibaaDoorFmF
import Derived.Deep.LoopGhost
namespace Go.Proofs.YtcoclaabainibaaDoor
open Go Go.ChangeShapes Go.WideShapes Go.ChangeAt Go.RowKit

theorem u64_mod (n : Int) : IntKind.u64.wrap n = n % 18446744073709551616 := by simp [IntKind.wrap, IntKind.bits, IntKind.signed]
theorem wrap_sum (a b : Int) : IntKind.i64.wrap (IntKind.u64.wrap (IntKind.u64.wrap a + IntKind.u64.wrap b)) = w64 (a + b) := by
  unfold w64
  rw [u64_mod, u64_mod, u64_mod, IntKind.wrap_i64, IntKind.wrap_i64]
  omega
theorem wrap_neg (a : Int) : IntKind.i64.wrap (IntKind.u64.wrap (0 - IntKind.u64.wrap a)) = w64 (-a) := by
  unfold w64
  rw [u64_mod, u64_mod, IntKind.wrap_i64, IntKind.wrap_i64]
  omega
/-- Between two rounds. -/
def LpT (w1 : World) (S : Nat → Prop) (p : Nat) (g : Fs) (h : List Int) (m0 : Mo) (qv : Value) (m : Mo) (wr : World) : Prop :=
  ∃ sv2, TwI w1 S p (g.wM m) qv sv2 wr ∧ AtH g.code h m.p m.st.length ∧ rest g.code g.arg m0 = rest g.code g.arg m
/-- What Next leaves. -/
def TnP (w : World) (S : Nat → Prop) (p : Nat) (f : Fs) (r v : Int) (e : Ending) (w' : World) : Prop :=
  e = .returned (.tuple #[.agg (evA (nxE f r v)), iv (nxV f r v)]) ∧ (∃ qv2 sv2, TwW w' (exS S w w') p (nxF f r v) qv2 sv2) ∧ Fr S w w'
theorem TwI.fin {w w1 W : World} {S : Nat → Prop} {p rc : Nat} {f : Fs} {qv sv : Value} (h : TwI w1 S p f qv sv W) (hf1 : Fr (fun _ => False) w w1) (hrc : rc = w.heap.size) (hrl : rc < w1.heap.size) (hrS : ¬ S rc) (cs : Array Value) :
    TwW (W.setRow rc cs) (exS S w (W.setRow rc cs)) p f qv sv ∧ Fr S w (W.setRow rc cs) := by
  have h2 : Fr (fun b => b = rc) W (W.setRow rc cs) := (Fr.refl _ _).setRow _ _ (fun _ => rfl)
  have h3 := h.tw.fr h2 (fun k hk e => by
    subst e
    rcases hk with e | e
    · exact hrS e
    · exact absurd e.1 (by omega))
  refine ⟨h3.up (fun k hk => ?_) (fun k hk => ?_), ((hf1.mono (fp2 := S) (fun _ e _ => e.elim)).trans h.fr (fun k hk _ => hk)).setRow _ _ (fun hk => absurd hk (by omega))⟩
  · have hk2 := h3.sl k hk
    have := hf1.size
    rcases hk with e | e
    · exact .inl e
    · exact .inr ⟨by omega, hk2⟩
  · rcases hk with e | e
    · exact h3.sl k (.inl e)
    · exact e.2
set_option maxRecDepth 100000 in
set_option maxHeartbeats 4000000 in
theorem TNext_over {w : World} {S : Nat → Prop} {p : Nat} {f : Fs} {qv sv : Value} (h : TwW w S p f qv sv) (ho : f.over = true) (r v : Int) : Calls Tryd.prog 12 #[.pointer (some ⟨p, 0, none⟩), iv r, iv v] w (TnP w S p f r v) := by
  obtain ⟨w1, hw1⟩ : ∃ w1, w1 = w.alloc (.cells (evA evZ) TEv) := ⟨_, rfl⟩
  have hb1 : Below w.heap.size w w1 := by rw [hw1]; exact (Below.refl _ _).alloc (Nat.le_refl _) _
  have hr1 : w1.heap[w.heap.size]? = some (.cells (evA evZ) TEv (0, 0)) := by rw [hw1]; exact heap_alloc_new _ _
  have h1 := h.no (Fr.of_below hb1)
  have c5 := h1.c5
  rw [ho] at c5
  have HH := hid h
  have HO := hid ho
  have HB := hid hb1
  have HR := hid hr1
  have HW := hid hw1
  clear hb1 hr1 hw1 h h1 ho
  go_enter Tryd.func12, Tryd.ntmps12
  go_upto_region 1 with fail
  change Code.wp _ _ _ _ (w.alloc (.cells (evA evZ) TEv))
  rw [← HW.out]
  go_wp2_with (first
    | ((with_reducible refine at_op ⟨none, .store TEv (.tmp 6) (.tmp 15), _, _, _, _⟩ ?_); refine wpList_store_row rfl TEv _ _ rfl w.heap.size (evA ⟨5, 0, 0, 0, 12⟩) rfl rfl TEv (evA evZ) HR.out szEv rfl (evA_one _) ?_)
    | fail)
  refine bodyPost_ret (results_cell_tmp (P := Tryd.prog) (fn := Tryd.f12) (p := 6) (q := 7) rfl _ _ w.heap.size TEv _ (0, 0) _ rfl (setRow_heap _ _ _ _ _ _ HR.out) Tryd.underlying36 rfl szEv) rfl ⟨?_, ⟨qv, sv, ?_⟩, Fr.of_below (below_setRow HB.out _ _ (Nat.le_refl _))⟩
  · unfold nxE nxV; rw [if_pos HO.out, if_pos HO.out]; rfl
  · unfold nxF; rw [if_pos HO.out]
    have hb := below_setRow HB.out w.heap.size (evA ⟨5, 0, 0, 0, 12⟩) (Nat.le_refl _)
    have h2 := HH.out.no (Fr.of_below hb)
    exact h2.up (fun k hk => .inl hk) (fun k hk => by
      rcases hk with e | e
      · exact h2.sl k e
      · exact e.2)
end Go.Proofs.YtcoclaabainibaaDoor
