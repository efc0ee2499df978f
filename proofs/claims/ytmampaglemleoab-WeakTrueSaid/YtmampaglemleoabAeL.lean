/-
  An arena's All: its contract; what it tells.
-/
import Derived.Test.YtmampaglemleoabAeI
import Derived.Test.YtmampaglemleoabArP
import Derived.Test.YtmampaglemleoabKT
import Derived.Test.YtmampaglemleoabMemX
namespace Go.Proofs.Ytmampaglemleoab
open Go Go.ChangeShapes Go.WideShapes Go.ChangeAt Go.RowKit Go.Shelf
attribute [local go_sem] Oper.semAt_some

theorem pairF_all : ∀ (L : List Spot) (k : Nat), (pairF k L).map (·.1) = (((L.map e0).zipIdx k).filter (·.1.t)).map fun p => hand p.2 p.1.g
  | [], _ => rfl
  | s :: L, k => by
    have ih := pairF_all L (k + 1)
    rw [List.map_cons, List.zipIdx_cons, List.filter_cons]
    unfold pairF
    have e1 : (e0 s, k).1.t = s.t := rfl
    rw [e1]
    cases s.t with
    | true => simp only [if_true, List.map_cons]; rw [ih]; rfl
    | false => simp only [Bool.false_eq_true, if_false]; exact ih
theorem arenaAll_any (w : World) (pa : Nat) : Calls Try.prog 36 #[.pointer (some ⟨pa, 0, none⟩)] w fun e w' => e = .returned (.func (.func 40) #[] #[.pointer (some ⟨w.heap.size, 0, none⟩)]) ∧ w' = w.alloc (.cells #[.pointer (some ⟨pa, 0, none⟩)] 62) := by
  go_enter Try.func36, Try.ntmps36
  go_wp2
  go_ret
  exact ⟨rfl, rfl⟩
def encPr (x : Int × Int) : Array Value := #[.int .u64 x.1, encE x.2]
theorem arena_stops (n Bn p : Nat) (S : Nat → Prop) (A : Ar) (w : World) (hBn : Boxed w Bn 62 (.pointer (some ⟨p, 0, none⟩))) (hI : InS S w p A) :
    SeqStopsK Fence.wide n Try.prog 40 #[.pointer (some ⟨Bn, 0, none⟩)] encPr KCE (fun ys => ys = pairF 0 A.L) (fun pre => pre <+: pairF 0 A.L) (pairF 0 A.L).length w := fun l J Jx W hW hJ _ hY h0 =>
  iter_any n l Bn p S A J Jx (fun pre x W hj hp => hY pre x W hj (by have := hp.length_le; simp at this; omega)) W (Boxed.cell ((hW.block Bn hBn.lt).trans hBn)) (hI.fr (fp := fun _ => False) (Fr.of_below hW) (fun _ _ e => e)) (fun s W W' h hb => hJ s W W' none h (grown_of_below hb) (fun r e => by cases e)) h0
/-- .. told in order. -/
theorem arena_tells (n Bn p : Nat) (S : Nat → Prop) (A : Ar) (w : World) (hBn : Boxed w Bn 62 (.pointer (some ⟨p, 0, none⟩))) (hI : InS S w p A) :
    TellsX Fence.wide n Try.prog 40 #[.pointer (some ⟨Bn, 0, none⟩)] encPr (fun (_ : Unit) W W' => Below W.heap.size W W') (fun _ => KCE) (fun _ _ => True) (pairF 0 A.L) w := fun l J Jx W hW hJ _ _ _ hY h0 => by
  refine (iter_any n l Bn p S A (J ()) Jx (fun pre x W' hj hp => (hY () pre x W' hj hp).mono ?_) W (Boxed.cell ((hW.block Bn hBn.lt).trans hBn)) (hI.fr (fp := fun _ => False) (Fr.of_below hW) (fun _ _ e => e)) (fun s W W' h hb => hJ () s W W' none h (grown_of_below hb) (fun r e => by cases e)) (h0 () W (Below.refl _ _))).mono ?_
  · rintro e W' (⟨h1, h2, h3, _⟩ | ⟨h1, h2, _⟩)
    · exact .inl ⟨h1, h2, h3⟩
    · exact .inr ⟨h1, h2⟩
  · rintro e W' ⟨h1, ⟨ys, rfl, h2⟩ | ⟨pre, h2, h3⟩⟩
    · exact ⟨h1, .inl ⟨(), h2⟩⟩
    · exact ⟨h1, .inr ⟨pre, h2, h3⟩⟩
theorem roundIn_wide2 {n m : Nat} {P : Program} {l : Nat} {f : FuncId} {tmps : Array Value} {assign body : Code} {w : World} {R : Ending → World → Prop} (h : RoundIn Fence.wide n P l f tmps assign body w R) : RoundIn Fence.wide m P l f tmps assign body w R :=
  ⟨h.1, fun c cs _ => h.2 c cs (room_wide _)⟩
theorem round_inR {n : Nat} {P : Program} {l : Nat} {f : FuncId} {tmps : Array Value} {assign body : Code} {w : World} {R : Ending → World → Prop} (lo : Nat) (h : RoundIn Fence.wide n P l f tmps assign body w R) : RoundIn (Fence.wide.inRound lo) n P l f tmps assign body w R := h
end Go.Proofs.Ytmampaglemleoab
