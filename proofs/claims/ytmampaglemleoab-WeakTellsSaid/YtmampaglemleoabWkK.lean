/-
  What is told of a table, and of one that is none; WeakNil's walk.
-/
import Derived.Test.YtmampaglemleoabWkI
import Derived.Test.YtmampaglemleoabWkG
import Derived.Test.YtmampaglemleoabMixD
namespace Go.Proofs.Ytmampaglemleoab
open Go Go.ChangeShapes Go.WideShapes Go.ChangeAt Go.RowKit Go.Shelf
attribute [local go_sem] Oper.semAt_some

theorem RpW.tells {S : Nat → Prop} {w : World} {v : Value} {s : Ws} (h : RpW S w v s) : ∃ a, v = .pointer a ∧ BlkT w a (bls s.A s.L) := by
  obtain ⟨p, pa, pm, Sa, AA, D, B, rfl, h2, h3, h4, _, _⟩ := h
  refine ⟨_, rfl, fun w1 Bp hb _ hbx n hn => ?_⟩
  rw [h3, bls_er]
  exact blocks_tells n Bp hn _ hbx (h2.no (Fr.of_below hb)) h4.nd
theorem nil_tells (w : World) : BlkT w none [] := fun w1 Bp hb _ hbx n hn lp J Jx W hW hAJ hAJx hY h0 => by
  obtain ⟨w0, hw0⟩ : ∃ w0, w0 = W.alloc (.cells #[.func (.yield lp) #[] #[]] 61) := ⟨_, rfl⟩
  have hb0 : Below W.heap.size W w0 := by rw [hw0]; exact (Below.refl _ _).alloc (Nat.le_refl _) _
  have hbw : Below w1.heap.size w1 w0 := hW.trans (hb0.mono hW.size)
  have d0 : w0.cell? ⟨Bp, 0, none⟩ = some (.pointer none) := Boxed.cell ((hbw.block Bp hbx.lt).trans hbx)
  have hj : J [] w0 := hAJ _ _ _ _ h0 (grown_of_below hb0) (fun r e => by cases e)
  have HJ := hid hj
  have HW0 := hid hw0
  clear hj hw0 hb0 hbw hW hAJ hAJx hY h0 hbx hb
  refine callsIn_of_wp Try.func35 rfl trivial ?_ rfl
  simp only [Try.ntmps35, List.size_toArray, List.length_cons, List.length_nil, Nat.reduceAdd, Nat.reduceSub, Array.replicate_succ, Array.replicate_zero, List.push_toArray, List.append_toArray, List.nil_append, List.cons_append]
  gi_upto_region 1 with (fail)
  rw [← HW0.out]
  gi_wp2
  refine bodyPost_ret (results_none rfl _ _ _) rfl ?_
  exact ⟨⟨_, rfl⟩, .inl ⟨_, rfl, HJ.out⟩⟩
/-- WeakNil. -/
theorem WeakNil_any (w : World) (x t : Int) : Calls Try.prog 7 #[.int .u64 x, .int .u64 t] w fun e w' => e = .returned (.bool true) ∧ Below w.heap.size w w' := by
  have HT := hid (told_any w none [] 9 (nil_tells w) (by omega))
  go_enter Try.func7, Try.ntmps7
  go_wp2_with (first
    | (go_at_call 17; refine (wof_nil _ _).mono ?_; rintro e w1 ⟨rfl, rfl⟩)
    | (go_at_call 21; refine (wup_nil _ _).mono ?_; rintro e w1 ⟨rfl, rfl⟩)
    | (go_at_call 19; refine (wdown_nil _ _).mono ?_; rintro e w1 ⟨rfl, rfl⟩)
    | (go_at_call 20; refine (wlock_nil _ _).mono ?_; rintro e w1 ⟨rfl, rfl⟩)
    | (go_at_call 13; refine HT.out.mono ?_; rintro e w2 ⟨hb2, v1, v2, rfl, t1, t2⟩; have H2 := hid hb2; have t3 : Told TU u64v w2 v1 [] := t1; obtain ⟨ta, tc, rfl, _⟩ := t3.ex; simp only [List.length_nil]; clear hb2 t1 t2 t3)
    | (go_at_call 10; refine (wawake _).mono ?_; rintro e w3 ⟨rfl, hb3⟩; have H3 := hid hb3; clear hb3)
    | (go_at_call 18; refine (wdie_nil _ _).mono ?_; rintro e w1 ⟨rfl, rfl⟩))
  go_ret
  exact ⟨rfl, H2.out.trans (H3.out.mono H2.out.size)⟩
end Go.Proofs.Ytmampaglemleoab
