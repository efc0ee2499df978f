/-
  The laws of layer 11: HeapCounts' acts, plainly.
-/
import Derived.Test.YtceokibalphgpaaHpE
namespace Go.Proofs.Ytceokibalphgpaa
open Go Go.ChangeShapes Go.WideShapes Go.ChangeAt Go.RowKit

/-- Each count is how many hold the object. -/
structure CnP (s : Hs) (out : Int → Int) (i : Nat) : Prop where
  g : s.G.length ≤ i
  c : CInv out s.L []
  w : WInv s.L []
  b : Bd 1000 2 s.L
  o : ∀ h, out h ≤ 1 + i
  t : s.top = 1048576
section
variable {s s' : Hs} {out : Int → Int} {i : Nat} {x y n er : Int} {g f : List Int}
theorem CnP.idle (h : CnP s out i) : CnP s out (i + 1) := ⟨by have := h.g; omega, h.c, h.w, h.b, fun z => by have := h.o z; omega, h.t⟩
theorem CnP.alive (h : CnP s out i) (ho : 0 < out x) : ∃ o ∈ s.L, o.h = x := by
  cases hf : fnd s.L x with
  | none => have := (h.c.dead x (fnd_none.1 hf)).1; omega
  | some o => exact ⟨o, (fnd_some hf).1, (fnd_some hf).2⟩
theorem CnP.whl (h : CnP s out i) {o : Ob} (ho : o ∈ s.L) : whl s.L o.h = some o := whl_self h.c.nd ho (h.c.own o ho).1
theorem CnP.cnt (h : CnP s out i) (hk : HOk s) (hi : i ≤ 80) {o : Ob} (ho : o ∈ s.L) : 1 ≤ o.count ∧ o.count ≤ 400 := by
  have h1 := h.c.cnt o ho
  have h2 := h.w.pos o ho
  rw [occ_nil] at h1
  have h3 := sum_given h.c.nd o.h hk.gnd hk.sub
  have h4 := sumT_le h.b s.G o.h s.G.length (Nat.le_refl _)
  unfold sumT at h4
  rw [List.take_length, h3] at h4
  have h5 := h.o o.h
  have h6 := h.g
  have h7 := h.c.pos o.h
  omega
theorem CnP.make (h : CnP s out i) {A' : Ar} (hk : HOk ⟨s.top, A', addIn s.L 0 y ++ [newOb y 0 2], s.G ++ [y]⟩) (hs : HOk s) :
    CnP ⟨s.top, A', addIn s.L 0 y ++ [newOb y 0 2], s.G ++ [y]⟩ (fun z => if z = y then 1 else out z) (i + 1) ∧ (s.G ++ [y]).map (fun z => if z = y then 1 else out z) = s.G.map out ++ [1] := by
  have hL : addIn s.L 0 y = s.L := if_pos rfl
  rw [hL] at hk ⊢
  have hg : (s.G ++ [y]).Nodup := hk.gnd
  have hyG : y ∉ s.G := fun hm => (List.nodup_append.1 hg).2.2 y hm y (by simp) rfl
  have hx : ∀ o ∈ s.L, o.h ≠ y := fun o ho e => hyG (e ▸ hs.sub o ho)
  refine ⟨⟨?_, h.c.make hx 2 0, winv_nil fun o ho => ?_, fun o ho => ?_, fun z => ?_, h.t⟩, ?_⟩
  · have := h.g; simp; omega
  · rcases List.mem_append.1 ho with h1 | h1
    · exact h.w.pos o h1
    · rw [List.mem_singleton.1 h1]; simp [newOb]
  · rcases List.mem_append.1 ho with h1 | h1
    · exact h.b o h1
    · rw [List.mem_singleton.1 h1]; simp [newOb]
  · have := h.o z
    (try simp only)
    split <;> omega
  · rw [List.map_append]
    congr 1
    · refine List.map_congr_left fun z hz => ?_
      have : z ≠ y := fun e => hyG (e ▸ hz)
      simp [this]
    · simp
theorem CnP.up (h : CnP s out i) (hk : HOk s) (hi : i ≤ 80) (ho : 0 < out x) (hu : UpR s x s' n er) : er = 0 ∧ CnP s' (fun z => if z = x then out z + 1 else out z) (i + 1) ∧ s'.G = s.G := by
  obtain ⟨o, hm, rfl⟩ := h.alive ho
  have hw0 := h.whl hm
  have hc := h.cnt hk hi hm
  cases hu with
  | stale hw => rw [hw0] at hw; cases hw
  | top w hw hc2 => rw [hw0] at hw; cases hw; have := h.t; omega
  | ok w hw hc2 =>
    rw [hw0] at hw; cases hw
    refine ⟨rfl, ⟨by have := h.g; simp only; omega, h.c.up hm, winv_nil fun p hp => ?_, h.b.setc _ _ (by omega), fun z => ?_, h.t⟩, rfl⟩
    · obtain ⟨q, hq, e⟩ := mem_setc.1 hp
      have := h.w.pos q hq
      rw [e]
      split <;> (try simp only) <;> omega
    · have := h.o z
      (try simp only)
      split <;> omega
theorem CnP.goes (h : CnP s out i) {out' : Int → Int} {L0 : HL} {P : List Lk} (hc : CInv out' L0 P) (hw : WInv L0 []) (hb : Bd 1000 2 L0) (ho : ∀ z, out' z ≤ 1 + ((i + 1 : Nat) : Int)) {L' : HL} {A' : Ar} {f2 : List Int}
    (hg : Goes (letg L0 P).1 (letg L0 P).2.1 L' g f2) : CnP { s with L := L', A := A' } out' (i + 1) := by
  obtain ⟨h1, h2, h3⟩ := hc.letg hw
  rw [List.nil_append] at h2
  obtain ⟨h4, h5, h6⟩ := CInv.goes hg h1 h2
  exact ⟨by have := h.g; simp only; omega, h4, h5, Bd.goes hg hb.letg, ho, h.t⟩
theorem CnP.down (h : CnP s out i) (ho : 0 < out x) (hd : DnR s x s' g f er) : er = 0 ∧ CnP s' (fun z => if z = x then out z - 1 else out z) (i + 1) ∧ s'.G = s.G := by
  obtain ⟨o, hm, rfl⟩ := h.alive ho
  cases hd with
  | stale hf => exact absurd rfl (fnd_none.1 hf o hm)
  | ok o1 hf hdn hdr =>
    obtain ⟨f2, hg, _⟩ := hdn
    exact ⟨rfl, h.goes (h.c.down hm ho) h.w h.b (fun z => by have := h.o z; split <;> omega) hg, rfl⟩
theorem CnP.put (h : CnP s out i) (hk : HOk s) (hi : i ≤ 80) {slot : Int} (hs : 0 ≤ slot ∧ slot < 2) (hx : ∃ o ∈ s.L, o.h = x) (hy : ∃ o ∈ s.L, o.h = y) (hp : PuR s x slot ⟨1, y⟩ s' g f er) : er = 0 ∧ CnP s' out (i + 1) ∧ s'.G = s.G := by
  obtain ⟨o, hm, rfl⟩ := hx
  obtain ⟨j, hj, rfl⟩ := hy
  have hfo : fnd s.L o.h = some o := fnd_mem h.c.nd hm
  have hl := (h.b o hm).2
  have hw0 := h.whl hj
  have hc := h.cnt hk hi hj
  have HU : ∀ {s1 n e}, UpR s j.h s1 n e → e = 0 ∧ s1.L = setc s.L j.h (j.count + 1) ∧ s1.A = s.A := fun h1 => by
    cases h1 with
    | stale hw => rw [hw0] at hw; cases hw
    | top w hw hc2 => rw [hw0] at hw; cases hw; have := h.t; omega
    | ok w hw hc2 => rw [hw0] at hw; cases hw; exact ⟨rfl, rfl, rfl⟩
  cases hp with
  | stale hf => rw [hfo] at hf; cases hf
  | arg o1 hf hb => rw [hfo] at hf; cases hf; simp at hb; omega
  | no o1 hf hs hk hu he => exact absurd (HU hu).1 he
  | oth o1 hf hs hk => simp at hk
  | obj o1 hf hs2 hk2 hu ho1 hp1 ha =>
    rw [hfo] at hf; cases hf
    obtain ⟨_, e1, e2⟩ := HU hu
    obtain ⟨f2, hg, _⟩ := hp1
    rw [e1] at hg
    refine ⟨rfl, h.goes (h.c.put hm hj ho1) ⟨fun p hp => ⟨fun hz => ?_, fun hz => by cases hz⟩, by simp, fun z hz => by cases hz⟩ (fun p hp => ?_) (fun z => by have := h.o z; omega) hg, rfl⟩
    · exfalso
      obtain ⟨q, hq, e⟩ := mem_setl.1 hp
      obtain ⟨r, hr, e2⟩ := mem_setc.1 hq
      have h1 := h.cnt hk hi hr
      have : p.count = q.count := by rw [e]; split <;> rfl
      have : q.count = r.count ∨ q.count = j.count + 1 := by rw [e2]; split <;> simp
      omega
    · obtain ⟨q, hq, e⟩ := mem_setl.1 hp
      obtain ⟨r, hr, e2⟩ := mem_setc.1 hq
      have h1 := h.cnt hk hi hr
      have h2 := (h.b r hr).2
      have h3 : p.count = q.count := by rw [e]; split <;> rfl
      have h4 : q.count = r.count ∨ q.count = j.count + 1 := by rw [e2]; split <;> simp
      have h5 : p.links.length = q.links.length := by rw [e]; split <;> simp
      have h6 : q.links.length = r.links.length := by rw [e2]; split <;> rfl
      exact ⟨by omega, by omega⟩
end
theorem map_set {G : List Int} (hn : G.Nodup) {out : Int → Int} {k : Nat} {x v : Int} (hx : G[k]? = some x) : (G.map out).set k v = G.map fun z => if z = x then v else out z := by
  refine List.ext_getElem? fun j => ?_
  rw [List.getElem?_set, List.getElem?_map, List.getElem?_map, List.length_map]
  have hkl := (List.getElem?_eq_some_iff.1 hx).1
  by_cases hj : k = j
  · subst hj
    rw [if_pos rfl, if_pos hkl, hx]
    simp
  · rw [if_neg hj]
    cases hz : G[j]? with
    | none => rfl
    | some z =>
      have : z ≠ x := fun e => hj (by
        subst e
        have hjl := (List.getElem?_eq_some_iff.1 hz).1
        exact (List.getElem?_inj hkl hn).1 (hx.trans hz.symm))
      simp [this]
theorem map_up {G : List Int} (hn : G.Nodup) {out : Int → Int} {k : Nat} {x d : Int} (hx : G[k]? = some x) : (G.map out).set k (out x + d) = G.map fun z => if z = x then out z + d else out z := by
  rw [map_set hn hx]
  refine List.map_congr_left fun z _ => ?_
  split
  · rename_i e; rw [e]
  · rfl
end Go.Proofs.Ytceokibalphgpaa
