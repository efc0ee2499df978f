/-
  Classes, faces, instructions made of their fields; a slice made of one; an append in a drawn region with calls.
-/
import Derived.Test.YtgfimkeopohjaaaDoorClY
import Derived.Test.YtgfimkeopohjaaaDoorClT
import Derived.Test.YtgfimkeopohjaaaDoorMixC
import Derived.Great.BuildSlice
namespace Go.Proofs.YtgfimkeopohjaaaDoor
open Go Go.ChangeShapes Go.WideShapes Go.ChangeAt Go.RowKit

abbrev nilV : Value := .slice none 0 0
set_option maxRecDepth 100000 in
theorem infoFace : (Tryd.prog.info? 74).map (fun i => (i.zero, i.size, i.bytes)) = some (some (.agg (fcl ⟨List.replicate 16 0, 0⟩).toArray), 17, 24) := by kernel_rfl
set_option maxRecDepth 100000 in
theorem infoInss : (Tryd.prog.info? 56).map (fun i => (i.zero, i.size, i.bytes)) = some (some nilV, 1, 24) := by kernel_rfl
set_option maxRecDepth 100000 in
theorem infoInstrD : (Tryd.prog.info? 61).map (fun i => (i.zero, i.size, i.bytes)) = some (some (.agg #[.int .i64 0, .int .i64 0, .int .i64 0]), 3, 24) := by kernel_rfl
set_option maxRecDepth 100000 in
theorem infoCls : (Tryd.prog.info? 38).map (fun i => (i.zero, i.size, i.bytes)) = some (some (.agg (clc ⟨List.replicate 16 0, [], 0, []⟩ nilV nilV).toArray), 19, 72) := by kernel_rfl
theorem list16c (xs : List Int) (h : xs.length = 16) : ∃ a0 a1 a2 a3 a4 a5 a6 a7 a8 a9 a10 a11 a12 a13 a14 a15, xs = [a0, a1, a2, a3, a4, a5, a6, a7, a8, a9, a10, a11, a12, a13, a14, a15] := by
  match xs, h with
  | [a0, a1, a2, a3, a4, a5, a6, a7, a8, a9, a10, a11, a12, a13, a14, a15], _ => exact ⟨a0, a1, a2, a3, a4, a5, a6, a7, a8, a9, a10, a11, a12, a13, a14, a15, rfl⟩
set_option maxRecDepth 100000 in
/-- A class built of its Id. -/
theorem exec_buildC {o : Oper} {f : Operand → Value} {W : World} {p : Operand} {g : List Int} (ho : o.op = .build 38 #[(0, p)]) (h0 : f p = .agg (u8s g)) (hg : g.length = 16) :
    (execOp f o).run Tryd.prog W = .ok (.value (.agg (clc ⟨g, [], 0, []⟩ nilV nilV).toArray)) W := by
  obtain ⟨a0, a1, a2, a3, a4, a5, a6, a7, a8, a9, a10, a11, a12, a13, a14, a15, rfl⟩ := list16c g hg
  unfold execOp
  simp only [ho]
  simp only [List.map_toArray, List.map_cons, List.map_nil, h0, u8s]
  go_simp
  rfl
set_option maxRecDepth 100000 in
/-- A face built of its fields. -/
theorem exec_buildF {o : Oper} {f : Operand → Value} {W : World} {p q : Operand} {g : List Int} {x : Int} (ho : o.op = .build 74 #[(0, p), (1, q)]) (h0 : f p = .agg (u8s g)) (h1 : f q = .int .i64 x) (hg : g.length = 16) :
    (execOp f o).run Tryd.prog W = .ok (.value (.agg (fcl ⟨g, x⟩).toArray)) W := by
  obtain ⟨a0, a1, a2, a3, a4, a5, a6, a7, a8, a9, a10, a11, a12, a13, a14, a15, rfl⟩ := list16c g hg
  unfold execOp
  simp only [ho]
  simp only [List.map_toArray, List.map_cons, List.map_nil, h0, h1, u8s]
  go_simp
  rfl
/-- A slice made of one element of k cells. -/
theorem exec_oneK {o : Oper} {f : Operand → Value} {W : World} {p : Operand} {st e : TypeId} {k : Nat} {cs : Array Value} (hu : Tryd.prog.underlying st = some (.slice e)) (hk : 0 < k) (hs : (Tryd.prog.info? e).map (·.size) = some k) (hz : ((Tryd.prog.info? e).bind (·.zero)).isSome = true) (hc : cs.size = k) (hk1 : k ≤ 1000)
    (ho : o.op = .buildSlice st 1 #[(0, p)]) (hp : f p = .agg cs) :
    (execOp f o).run Tryd.prog W = .ok (.value (.slice (some ⟨W.heap.size, 0, none⟩) 1 1)) (W.alloc (.cells cs e)) := by
  cases hie : Tryd.prog.info? e with
  | none => simp [hie] at hs
  | some ie =>
    simp only [hie, Option.map_some, Option.some.injEq, Option.bind_some] at hs hz
    obtain ⟨z, hzz⟩ := Option.isSome_iff_exists.1 hz
    have hf : Instr.fill (fun i => some (i * k, k)) ((Array.range (1 * k)).map (z.cells[· % z.cells.size]!)) [(0, Value.agg cs)] = some cs := by
      have h := Great.fill_whole (s := k) hk [Value.agg cs] ((Array.range (1 * k)).map (z.cells[· % z.cells.size]!)) (fun v hv => by
        rw [List.mem_singleton] at hv
        subst hv
        exact hc) (by simp)
      simp only [List.zipIdx_cons, List.zipIdx_nil, List.map_cons, List.map_nil, List.flatMap_cons, List.flatMap_nil, List.append_nil] at h
      exact h
    have h := run_buildSlice (P := Tryd.prog) W st e 1 #[(0, Value.agg cs)] cs ie z hu hie hzz (by rw [hs]; omega) (by rw [hs]; omega) (by rw [hs]; exact hf)
    unfold execOp
    simp only [ho, List.map_toArray, List.map_cons, List.map_nil, hp, Sem.run_bind, h, Result.andThen_ok, Sem.run_pure]
set_option maxRecDepth 100000 in
theorem exec_oneF {o : Oper} {f : Operand → Value} {W : World} {p : Operand} {x : Face} (hx : x.id.length = 16) (ho : o.op = .buildSlice 35 1 #[(0, p)]) (hp : f p = .agg (fcl x).toArray) :
    (execOp f o).run Tryd.prog W = .ok (.value (.slice (some ⟨W.heap.size, 0, none⟩) 1 1)) (W.alloc (.cells (fcl x).toArray 74)) :=
  exec_oneK (k := 17) Tryd.underlying35 (by omega) (by kernel_rfl) (by kernel_rfl) (by rw [List.size_toArray, fcl_len hx]) (by omega) ho hp
set_option maxRecDepth 100000 in
theorem exec_oneC {o : Oper} {f : Operand → Value} {W : World} {p : Operand} {c : Cls} {vf vm : Value} (hx : c.id.length = 16) (ho : o.op = .buildSlice 22 1 #[(0, p)]) (hp : f p = .agg (clc c vf vm).toArray) :
    (execOp f o).run Tryd.prog W = .ok (.value (.slice (some ⟨W.heap.size, 0, none⟩) 1 1)) (W.alloc (.cells (clc c vf vm).toArray 38)) :=
  exec_oneK (k := 19) Tryd.underlying22 (by omega) (by kernel_rfl) (by kernel_rfl) (by rw [List.size_toArray, clc_len hx]) (by omega) ho hp
theorem fcl_oneD (x : Face) : ∀ u ∈ fcl x, u.oneCell' = true := fun u hu => by
  rcases List.mem_append.1 hu with h | h
  · exact u8l_one _ u h
  · rw [List.mem_singleton.1 h]; rfl
theorem InC.setc {W : World} {g : Nat} {c c' : Cls} {vf vf' vm vm' : Value} (h : InC W g c vf vm) (j : Nat) (v : Value) (hs : (clc c vf vm).set j v = clc c' vf' vm') : InC (W.setCell ⟨g, j, none⟩ v) g c' vf' vm' := by
  unfold InC at h ⊢
  rw [heap_setCell_same W g j _ _ _ h, List.setIfInBounds_toArray, hs]
theorem InC.frozen {W : World} {g : Nat} {c : Cls} {vf vm : Value} (h : InC W g c vf vm) (j : Nat) : W.frozen? ⟨g, j, none⟩ = false := by
  unfold InC at h
  simp [World.frozen?, h]
theorem clc_set {c c' : Cls} {vf vf' vm vm' v : Value} (h16 : c.id.length = 16) (j : Nat) (h0 : c'.id = c.id) (hs : [vf, Value.int .i64 c.slots, vm].set j v = [vf', Value.int .i64 c'.slots, vm']) : (clc c vf vm).set (16 + j) v = clc c' vf' vm' := by
  unfold clc
  rw [List.set_append_right _ _ (by rw [u8l_len, h16]; omega), u8l_len, h16, show 16 + j - 16 = j by omega, hs, h0]
/-- A field of the class stored. -/
theorem InC.put {wx wr : World} {g j : Nat} {c c' : Cls} {vf vf' vm vm' v : Value} (hB : Below wx.heap.size wx wr) (hg : g = wx.heap.size) (hI : InC wr g c vf vm) (hs : (clc c vf vm).set j v = clc c' vf' vm') :
    InC (wr.setCell ⟨g, j, none⟩ v) g c' vf' vm' ∧ Below wx.heap.size wx (wr.setCell ⟨g, j, none⟩ v) ∧ (∀ b, g + 1 ≤ b → (wr.setCell ⟨g, j, none⟩ v).heap[b]? = wr.heap[b]?) ∧ wr.heap.size ≤ (wr.setCell ⟨g, j, none⟩ v).heap.size :=
  ⟨hI.setc j v hs, hB.setCell (by show wx.heap.size ≤ g; omega) v, fun b hb => Below.heap_setCell _ _ _ _ (by show b ≠ g; omega), by rw [World.setCell]; simp⟩
/-- A row of the class's own grows, and is stored into it. -/
theorem row_push {wx wr wa w5 : World} {g n m j size : Nat} {e : TypeId} {c c' : Cls} {vf vf' vm vm' v v5 : Value} {xs ys : List Value} (hB : Below wx.heap.size wx wr) (hg : g = wx.heap.size) (hI : InC wr g c vf vm) (hO : wr.ownsRow (g + 1) e size v n xs)
    (ha : Below wr.heap.size wr wa) (hgr : wa.grownBy w5 v.ownBlock) (hown : w5.ownsRow (g + 1) e size v5 m ys) (hs : (clc c vf vm).set j v5 = clc c' vf' vm') :
    InC (w5.setCell ⟨g, j, none⟩ v5) g c' vf' vm' ∧ (w5.setCell ⟨g, j, none⟩ v5).ownsRow (g + 1) e size v5 m ys ∧ Below wx.heap.size wx (w5.setCell ⟨g, j, none⟩ v5) := by
  have hgl : g < wr.heap.size := (Array.getElem?_eq_some_iff.1 hI).1
  have hob : ∀ k, v.ownBlock = some k → g + 1 ≤ k := fun k hk => (own_sb hO k hk).1
  have h5 : InC w5 g c vf vm := ((hgr.block g (Nat.lt_of_lt_of_le hgl ha.size) (fun h => by have := hob g h.symm; omega)).trans (ha.block g hgl)).trans hI
  have hb5 : Below wx.heap.size wx w5 := (hB.trans (ha.mono hB.size)).grown hgr (Nat.le_trans hB.size ha.size) (fun k hk => by have := hob k hk; omega)
  exact ⟨h5.setc j v5 hs, ownsRow_setCell_below hown (by show g < g + 1; omega) v5, hb5.setCell (by show wx.heap.size ≤ g; omega) v5⟩
/-- A method more. -/
theorem meth_push {wx wr wa w6 : World} {g : Nat} {c c' : Cls} {vf vm v5 u : Value} {ms : List (List Ins)} {l : List Ins} {fs : List Face} {vs : List Value} (hB : Below wx.heap.size wx wr) (hg : g = wx.heap.size) (hI : InC wr g c vf vm)
    (hO : wr.ownsRow (g + 1) 56 1 vm ms.length vs) (hx : ∀ (i : Nat) l, ms[i]? = some l → ∃ u, vs[i]? = some u ∧ ZI (fun b => g + 1 ≤ b ∧ Ex wr vm b) wr u l) (hu : ZI (fun b => g + 1 ≤ b ∧ Ex wr vm b) wr u l) (hF : ZF (fun b => g + 1 ≤ b ∧ Ex wr vm b) wr vf fs)
    (ha : Below wr.heap.size wr wa) (hgr : wa.grownBy w6 vm.ownBlock) (hat : v5.ownBlock = vm.ownBlock ∨ v5.ownBlock = some wa.heap.size) (hown : w6.ownsRow (g + 1) 56 1 v5 (ms.length + 1) (vs ++ [u])) (hs : (clc c vf vm).set 18 v5 = clc c' vf v5) :
    InC (w6.setCell ⟨g, 18, none⟩ v5) g c' vf v5 ∧ OwM (g + 1) (w6.setCell ⟨g, 18, none⟩ v5) v5 (ms ++ [l]) ∧ ZF (fun b => g + 1 ≤ b ∧ Ex (w6.setCell ⟨g, 18, none⟩ v5) v5 b) (w6.setCell ⟨g, 18, none⟩ v5) vf fs ∧ Below wx.heap.size wx (w6.setCell ⟨g, 18, none⟩ v5) := by
  have hfr : Fr (fun _ => False) wr wa := Fr.of_below ha
  obtain ⟨h1, _, h3⟩ := row_push hB hg hI hO ha hgr hown hs
  have hz : w6.heap.size ≤ (w6.setCell ⟨g, 18, none⟩ v5).heap.size := by rw [World.setCell]; simp
  have hk : ∀ b, g + 1 ≤ b → (w6.setCell ⟨g, 18, none⟩ v5).heap[b]? = w6.heap[b]? := fun b hb => Below.heap_setCell _ _ _ _ (by show b ≠ g; omega)
  refine ⟨h1, ?_, ?_, h3⟩
  · refine (OwM.push hx ?_ hu hfr hgr hat hown).kept (fun b hb _ => hk b hb) hz
    have := hO.1; omega
  · have h5 := (hF.kept (fun b hb => ex_kept hfr hgr b hb.2) (Nat.le_trans hfr.size hgr.size)).mono (S' := fun b => g + 1 ≤ b ∧ Ex w6 v5 b) fun b hb => ⟨hb.1, ex_mono hfr hgr hat b hb.2⟩
    exact (h5.kept (fun b hb => hk b hb.1) hz).mono fun b hb => ⟨hb.1, Nat.lt_of_lt_of_le hb.2.1 hz, hb.2.2⟩
theorem slice_one {W : World} {base n k : Nat} {e : TypeId} {v : Value} {xs : List Value} (h : W.ownsRow base e k v n xs) : v.oneCell' = true := by
  obtain ⟨a, c, rfl⟩ := own_form h
  rfl
namespace C
variable {P : Program} {ops : Array Oper} {S : World → Prop} {ks : List Nat} {Q : Act → World → Prop} {o : Oper} {rest : List Oper} {a : Act} {w : World} {i : Nat}
theorem wpMix_append (hk : 2 ≤ ks.getD i 0) (hw : Region.wanted o (yielded ops a.tmps) = true) (s x : Operand) (t : TypeId)
    (ho : o.op = .call { callee := .builtin .append, args := #[s, x], argTypes := #[t, t] })
    (base : Nat) (e : TypeId) (i0 : TypeInfo) (z : Value) (size bytes : Nat) (ht : P.underlying t = some (.slice e)) (hi : P.info? e = some i0) (hz : i0.zero = some z)
    (hsize : i0.size = size) (hby : i0.bytes = bytes) (hzs : z.cells.size = size) (hsz : 0 < size)
    (v : Value) (n : Nat) (xs : List Value) (hs : a.eval s = v) (hown : w.ownsRow base e size v n xs)
    (ad : Addr) (m c : Nat) (news : List Value) (hx : a.eval x = .slice (some ad) m c) (hl : news.length = m * size) (hnews : ∀ j u, news[j]? = some u → w.cell? (ad.add j) = some u) (h1 : ∀ u ∈ news, u.oneCell' = true)
    (hm : 0 < m) (h63 : n + m ≤ maxLen) (hbytes : (n + m) * bytes ≤ 140737488355328) (hbase : base ≤ w.heap.size) (H : Nat) (hH : w.heap.size = H)
    (h : ∀ g cap w', w'.ownsRow base e size (.slice (some ⟨g, 0, none⟩) (n + m) cap) (n + m) (xs ++ news) → w.grownBy w' v.ownBlock → (v.ownBlock = some g ∨ g = H) → g < w'.heap.size →
      (ks.getD i 0 = 2 → S w') ∧ wpMix P ops S ks Q (i + 1) rest (a.put o.dst (.slice (some ⟨g, 0, none⟩) (n + m) cap)) w') : wpMix P ops S ks Q i (o :: rest) a w := by
  obtain ⟨g, cap, w', hr, h2, h3, h4, h5⟩ := run_append_lies (P := P) w t o.type base e i0 z size bytes ht hi hz hsize hby hzs hsz v n xs hown ad m c news hl hnews h1 hm h63 hbytes hbase H hH
  obtain ⟨k1, k2⟩ := h g cap w' h2 h3 h4 h5
  refine wpMix_write _ w' hk hw ?_ k1 k2
  unfold execOp
  simp only [ho, resolve, invoke, builtin, Sem.run_bind, Sem.run_pure, Result.andThen_ok, List.map_toArray, List.map_cons, List.map_nil, hs, hx, hr]
end C
end Go.Proofs.YtgfimkeopohjaaaDoor
