/-
  A region that draws its order, as Mix's G has it, in a round of a loop over a function (the body that an iterator calls).
-/
import Derived.Test.YtcoclaabainibaaDoorMixG
import Derived.RangeFuncCalls
import Derived.TacticsIn
namespace Go.Proofs.YtcoclaabainibaaDoor.R
open Go Go.Proofs.YtcoclaabainibaaDoor Go.Proofs.YtcoclaabainibaaDoor.D

/-- No defer statement. -/
def noDefB (o : Oper) : Bool := match o.op with | .defer _ => false | _ => true
section
variable {P : Program} {ops : Array Oper} {md : Region.Mode} {S : World → Prop} {ks : List Nat} {n : Nat}

theorem wpAny_of_mix {Q : Act → World → Prop} {Q' : Exit → Act → World → Prop} {L : Nat} (hnd : ∀ (i : Nat) (o : Oper), ops[i]? = some o → ∀ c, o.op ≠ .defer c) (hk : kindsT md ops ks = true) (hl : lateB ops ks = true) (hQ : ∀ a w, Q a w → Q' .normal a w) : ∀ (fuel : Nat) (listed : Array Bool) (a : Act) (w : World),
    Closed md ops listed → (Loads ops ks listed → S w) → E.wpAnyM n P md ops S ks Q fuel listed a w → wpAnyIn (Fence.wide.inRound L) n P md ops Q' fuel listed a w
  | 0, _, _, _, _, _, h => ⟨h.1, hQ _ _ h.2⟩
  | fuel + 1, listed, a, w, hcl, hS, h => ⟨fun h0 => hQ _ _ (h.1 h0), fun i hi => by
      have h2 := h.2 i hi
      obtain ⟨hun, o, ho, hall⟩ := mem_ready.1 hi
      have hil : i < ops.size := (Array.getElem?_eq_some_iff.1 ho).1
      unfold E.mixOp at h2
      unfold wpOpIn
      simp only [ho] at h2 ⊢
      by_cases hr : ks.getD i 0 < 2
      · rw [if_pos hr] at h2
        obtain ⟨v, ⟨hw, hy⟩ | ⟨hw, rfl⟩, hK⟩ := h2
        · rw [if_pos hw]
          refine ⟨fun _ _ => trivial, ?_⟩
          show o.uponIn (Fence.wide.inRound L) n P a _ _ ((o.semAt (some L) a.eval).run P w)
          rw [Oper.semAt_some L _ o (hnd i o ho)]
          rcases hy w (fun e => hS ⟨i, hil, e, hun⟩) with hv | ⟨hv, rfl⟩
          · rw [hv]; exact wpAny_of_mix hnd hk hl hQ fuel _ _ _ (hcl.set hi) (fun hm => hS hm.less) hK
          · rw [hv]; exact wpAny_of_mix hnd hk hl hQ fuel _ _ _ (hcl.set hi) (fun hm => hS hm.less) hK
        · rw [if_neg (by rw [hw]; decide)]
          exact ⟨fun _ _ => trivial, wpAny_of_mix hnd hk hl hQ fuel _ _ _ (hcl.set hi) (fun hm => hS hm.less) hK⟩
      · rw [if_neg hr] at h2
        obtain ⟨hw, h2⟩ := h2
        have hS' : ∀ w', (ks.getD i 0 = 2 → S w') → Loads ops ks (listed.setIfInBounds i true) → S w' := fun w' hSw hm => by
          by_cases e2 : ks.getD i 0 = 2
          · exact hSw e2
          · obtain ⟨j, h1, h2, h3⟩ := hm
            have hji : i ≠ j := fun e => by subst e; omega
            have hun2 : listed.getD j true = false := by rw [getD_set_ne true hji] at h3; exact h3
            rcases Nat.lt_or_ge i j with hlt | hge
            · exact absurd h2 (late_no hl hil h1 hlt (by omega))
            · exact (listed_not (waitsN_listed hcl 8 i o ho hall (kindsT_waits (i := j) (j := i) hk hil (by omega) (.inr ⟨h2, by omega⟩))) hun2).elim
        rw [if_pos hw]
        refine ⟨fun _ _ => trivial, ?_⟩
        show o.uponIn (Fence.wide.inRound L) n P a _ _ ((o.semAt (some L) a.eval).run P w)
        rw [Oper.semAt_some L _ o (hnd i o ho)]
        rcases h2 with ⟨v, w', hv, hSw, hK⟩ | ⟨w', hv, hSw, hK⟩ | ⟨f, args, w1, hv, hc⟩ | ⟨l, f, tmps, assign, body, w1, hv, hc⟩
        · rw [hv]; exact wpAny_of_mix hnd hk hl hQ fuel _ _ _ (hcl.set hi) (hS' _ hSw) hK
        · rw [hv]; exact wpAny_of_mix hnd hk hl hQ fuel _ _ _ (hcl.set hi) (hS' _ hSw) hK
        · rw [hv]
          exact ⟨(fun h => by cases h), CallsIn.inRound L (callsIn_wide.2 (hc.mono fun e w'' ⟨v, he, hSw, hK⟩ => by subst he; exact wpAny_of_mix hnd hk hl hQ fuel _ _ _ (hcl.set hi) (hS' _ hSw) hK))⟩
        · rw [hv]
          exact ⟨(fun h => by cases h), hc.mono fun e w'' ⟨v, he, hSw, hK⟩ => by subst he; exact wpAny_of_mix hnd hk hl hQ fuel _ _ _ (hcl.set hi) (hS' _ hSw) hK⟩⟩

/-- THE LAW. -/
theorem wp_region_mix {id : Nat} {Q : Exit → Act → World → Prop} {a : Act} {w : World} {l : List Oper} (ks : List Nat) (S : World → Prop) (hm : P.follows .mixedOrders = true)
    {L : Nat} (hB : (l.all noDefB && Region.lexB .any l.toArray && kindsT .any l.toArray ks && lateB l.toArray ks) = true) (hS : S w.drew)
    (h : E.wpMix n P l.toArray S ks (Q .normal) 0 l a w.drew) : (Code.region id l.toArray true).wpIn (Fence.wide.inRound L) n P Q a w := by
  simp only [Region.lexB, Bool.and_eq_true] at hB
  have hnd : ∀ (i : Nat) (o : Oper), l.toArray[i]? = some o → ∀ c, o.op ≠ .defer c := fun i o ho c e => by
    have h1 := List.all_eq_true.1 hB.1.1.1 o (List.mem_of_getElem? (by simpa using ho))
    simp [noDefB, e] at h1
  have hc0 : Closed .any l.toArray (Array.replicate l.toArray.size false) := fun m om _ hl => by
    exfalso
    rcases Nat.lt_or_ge m l.length with h' | h' <;> simp [h'] at hl
  refine wpIn_region_any hm (wpAny_of_mix (Q := Q .normal) (S := S) (ks := ks) hnd hB.1.2 hB.2 (fun a' w' h1 => h1) _ _ _ _ hc0 (fun _ => hS) ?_)
  have := G.wpAnyM_lex (P := P) (S := S) (ks := ks) (md := .any) hB.1.1.2.1 hB.1.2 hB.2 l 0 (Array.replicate l.toArray.size false) a w.drew (by simp) (by omega) hc0 (by simpa using hB.1.1.2.2) h
  simpa using this

variable {Q : Act → World → Prop} {o : Oper} {rest : List Oper} {a : Act} {w : World} {i : Nat}
/-- append, as the text has it. -/
theorem wpMix_append (hk : 2 ≤ ks.getD i 0) (hw : Region.wanted o (yielded ops a.tmps) = true) (s x : Operand) (t : TypeId)
    (ho : o.op = .call { callee := .builtin .append, args := #[s, x], argTypes := #[t, t] })
    (base : Nat) (e : TypeId) (i0 : TypeInfo) (z : Value) (size bytes : Nat) (ht : P.underlying t = some (.slice e)) (hi : P.info? e = some i0) (hz : i0.zero = some z)
    (hsize : i0.size = size) (hby : i0.bytes = bytes) (hzs : z.cells.size = size) (hsz : 0 < size)
    (v : Value) (nn : Nat) (xs : List Value) (hs : a.eval s = v) (hown : w.ownsRow base e size v nn xs)
    (ad : Addr) (m c : Nat) (news : List Value) (hx : a.eval x = .slice (some ad) m c) (hl : news.length = m * size) (hnews : ∀ j u, news[j]? = some u → w.cell? (ad.add j) = some u) (h1 : ∀ u ∈ news, u.oneCell' = true)
    (hm : 0 < m) (h63 : nn + m ≤ maxLen) (hbytes : (nn + m) * bytes ≤ 140737488355328) (hbase : base ≤ w.heap.size) (H : Nat) (hH : w.heap.size = H)
    (h : ∀ g cap w', w'.ownsRow base e size (.slice (some ⟨g, 0, none⟩) (nn + m) cap) (nn + m) (xs ++ news) → w.grownBy w' v.ownBlock → (v.ownBlock = some g ∨ g = H) → g < w'.heap.size →
      (ks.getD i 0 = 2 → S w') ∧ E.wpMix n P ops S ks Q (i + 1) rest (a.put o.dst (.slice (some ⟨g, 0, none⟩) (nn + m) cap)) w') : E.wpMix n P ops S ks Q i (o :: rest) a w := by
  obtain ⟨g, cap, w', hr, h2, h3, h4, h5⟩ := run_append_lies (P := P) w t o.type base e i0 z size bytes ht hi hz hsize hby hzs hsz v nn xs hown ad m c news hl hnews h1 hm h63 hbytes hbase H hH
  obtain ⟨k1, k2⟩ := h g cap w' h2 h3 h4 h5
  refine E.wpMix_write _ w' hk hw ?_ k1 k2
  unfold execOp
  simp only [ho, resolve, invoke, builtin, Sem.run_bind, Sem.run_pure, Result.andThen_ok, List.map_toArray, List.map_cons, List.map_nil, hs, hx, hr]
end
end Go.Proofs.YtcoclaabainibaaDoor.R
