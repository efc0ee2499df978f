/-
  LeaseHeard plainly: who is heard of stays; and a lease of the program's own over time.
-/
import Derived.Test.YtbdhjkdojgdhbaaLsP
namespace Go.Proofs.Ytbdhjkdojgdhbaa
open Go Go.ChangeShapes Go.WideShapes Go.ChangeAt Go.RowKit

theorem rise_mem1 {k t u : Int} : ∀ {l : List On}, Rise l → (k, t) ∈ l → (k, u) ∈ l → t = u
  | [], _, h, _ => by simp at h
  | x :: r, hr, h1, h2 => by
    unfold Rise at hr
    rw [List.pairwise_cons] at hr
    rcases List.mem_cons.1 h1 with e1 | h1
    · rcases List.mem_cons.1 h2 with e2 | h2
      · rw [← e1] at e2
        simp only [Prod.mk.injEq] at e2
        exact e2.2.symm
      · have := hr.1 _ h2
        rw [← e1] at this
        simp at this
    · rcases List.mem_cons.1 h2 with e2 | h2
      · have := hr.1 _ h1
        rw [← e2] at this
        simp at this
      · exact rise_mem1 hr.2 h1 h2
theorem has_mem {k t : Int} {l : List On} (h : (k, t) ∈ l) : hasK k l = true := List.any_eq_true.2 ⟨_, h, by simp⟩
theorem at_mem {k t : Int} {l : List On} (hr : Rise l) (h : (k, t) ∈ l) : atK k l = t := by
  obtain ⟨i, hi, _, u, hu⟩ := idx_has (has_mem h)
  rw [at_get hi hu]
  exact (rise_mem1 hr h (List.mem_of_getElem? hu)).symm
theorem mem_join {k t : Int} {z : Lz} (hk : k ≠ 7) (h : ((7 : Int), t) ∈ z.l) : ((7 : Int), t) ∈ (z.join k).l := by
  have h1 : ((7 : Int), t) ∈ outK k z.l := by
    unfold outK
    rw [List.mem_filter]
    exact ⟨h, by simpa using fun e => hk e.symm⟩
  rw [← List.take_append_drop (lowK k (outK k z.l)) (outK k z.l), List.mem_append] at h1
  show _ ∈ inK k z.now z.l
  unfold inK
  simp only [List.mem_append]
  rcases h1 with e | e
  · exact .inl (.inl e)
  · exact .inr e
theorem mem_joinS {z : Lz} : ((7 : Int), z.now) ∈ (z.join 7).l := by
  show _ ∈ inK 7 z.now z.l
  unfold inK
  simp
theorem mem_ping {t : Int} {z : Lz} (h : ((7 : Int), t) ∈ z.l) : ((7 : Int), z.now) ∈ (z.ping 7).l := by
  show _ ∈ (if hasK 7 z.l then setK 7 z.now z.l else z.l)
  rw [if_pos (has_mem h)]
  exact List.mem_map.2 ⟨_, h, by simp⟩
theorem mem_tick {t : Int} {z : Lz} (h : ((7 : Int), t) ∈ z.l) (hd : z.now + 1 - t < z.time) : ((7 : Int), t) ∈ z.tick.l := by
  show _ ∈ restK z
  unfold restK
  rw [List.mem_filter]
  refine ⟨h, ?_⟩
  have : dueB z (7, t) = false := decide_eq_false (by show ¬ z.time ≤ z.now + 1 - t; omega)
  rw [this]
  rfl
theorem tick_over {t : Int} {z : Lz} (h : ((7 : Int), t) ∈ z.l) (hd : z.time ≤ z.now + 1 - t) : (7 : Int) ∈ overK z := by
  unfold overK
  rw [List.mem_map]
  exact ⟨_, List.mem_filter.2 ⟨h, decide_eq_true hd⟩, rfl⟩
theorem tick_gone {t : Int} {z : Lz} (hr : Rise z.l) (h : ((7 : Int), t) ∈ z.l) (hd : z.time ≤ z.now + 1 - t) : hasK 7 z.tick.l = false := by
  show (restK z).any _ = false
  rw [List.any_eq_false]
  intro x hx
  unfold restK at hx
  rw [List.mem_filter] at hx
  obtain ⟨x1, x2⟩ := x
  simp only [beq_iff_eq]
  intro e
  subst e
  have := rise_mem1 hr h hx.1
  subst this
  have h2 : dueB z (7, t) = true := decide_eq_true hd
  rw [h2] at hx
  simp at hx
section
variable {Rp : World → (Nat → Prop) → Value → Lz → Prop}
/-- The program's own lease over time: 7 was heard of at t. -/
structure HeI (Rp : World → (Nat → Prop) → Value → Lz → Prop) (w : World) (v : Value) (P : Int) (z : Lz) (t : Int) (N : Nat) (W : World) : Prop where
  ex : ∃ S, Rp W S v z ∧ ∀ k, S k → w.heap.size ≤ k
  below : Below w.heap.size w W
  ok : ZOk N z
  time : z.time = P
  mem : ((7 : Int), t) ∈ z.l
variable {w W W' : World} {v : Value} {P t : Int} {z z2 : Lz} {N M : Nat}
theorem HeI.step {t2 : Int} {S : Nat → Prop} (h : HeI Rp w v P z t N W) (hS : ∀ k, S k → w.heap.size ≤ k) (hR : Rp W' (exS S W W') v z2) (hf : Fr S W W') (ok : ZOk M z2) (ht : z2.time = z.time) (hm : ((7 : Int), t2) ∈ z2.l) : HeI Rp w v P z2 t2 M W' := by
  refine ⟨⟨_, hR, fun k hk => ?_⟩, h.below.trans (hf.below (B := w.heap.size) h.below.size hS), ok, ht.trans h.time, hm⟩
  rcases hk with e | e
  · exact hS k e
  · exact Nat.le_trans h.below.size e.1
theorem HeI.join (HC : LsC Rp) (h : HeI Rp w v P z t N W) (hN : N ≤ 99999) {k : Int} (hk : Hn k) (h7 : k ≠ 7) :
    Calls Try.prog 17 #[v, .int .u64 k] W fun e w' => (∃ b, e = .returned (.bool b)) ∧ HeI Rp w v P (z.join k) t (N + 1) w' := by
  obtain ⟨S, hR, hS⟩ := h.ex
  refine (HC.join hR h.ok (by omega) k hk).mono ?_
  rintro e w' ⟨h1, h2, h3⟩
  exact ⟨⟨_, h1⟩, h.step hS h2 h3 (h.ok.join k) rfl (mem_join h7 h.mem)⟩
theorem HeI.ping (HC : LsC Rp) (h : HeI Rp w v P z t N W) (hN : N ≤ 99999) :
    Calls Try.prog 19 #[v, .int .u64 7] W fun e w' => e = .returned (.int .i64 0) ∧ HeI Rp w v P (z.ping 7) z.now N w' := by
  obtain ⟨S, hR, hS⟩ := h.ex
  refine (HC.ping hR h.ok (by omega) 7 (by unfold Hn; decide)).mono ?_
  rintro e w' ⟨h1, h2, h3⟩
  rw [has_mem h.mem] at h1
  exact ⟨h1, h.step hS h2 h3 (h.ok.ping 7) rfl (mem_ping h.mem)⟩
theorem HeI.tick (HC : LsC Rp) (h : HeI Rp w v P z t N W) (hN : N ≤ 99999) (hd : z.now + 1 - t < P) :
    Calls Try.prog 18 #[v] W fun e w' => (∃ u, e = .returned u) ∧ HeI Rp w v P z.tick t (N + 1) w' := by
  obtain ⟨S, hR, hS⟩ := h.ex
  refine (HC.tick hR h.ok (by omega)).mono ?_
  rintro e w' ⟨⟨u, h1, _⟩, h2, h3⟩
  exact ⟨⟨u, h1⟩, h.step hS h2 h3 h.ok.tick rfl (mem_tick h.mem (by rw [h.time]; exact hd))⟩
theorem HeI.left (HC : LsC Rp) (h : HeI Rp w v P z t N W) (hN : N ≤ 99999) :
    Calls Try.prog 12 #[v, .int .u64 7] W fun e w' => e = .returned (.tuple #[iv (P - z.now + t), .int .i64 0]) ∧ HeI Rp w v P z t N w' := by
  obtain ⟨S, hR, hS⟩ := h.ex
  refine (HC.left hR h.ok (by omega) 7 (by unfold Hn; decide)).mono ?_
  rintro e w' ⟨h1, h2⟩
  rw [has_mem h.mem, at_mem h.ok.rise h.mem, h.time] at h1
  exact ⟨h1, ⟨S, HC.fr hR (Fr.of_below (fp := fun _ => False) h2) (fun _ _ e => e), hS⟩, h.below.trans (h2.mono h.below.size), h.ok, h.time, h.mem⟩
end
end Go.Proofs.Ytbdhjkdojgdhbaa
