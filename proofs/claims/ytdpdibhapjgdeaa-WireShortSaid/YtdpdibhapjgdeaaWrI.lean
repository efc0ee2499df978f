/-
  A writer of the call's own; the law's example (awake), great, Lent, Kept.
-/
import Derived.Test.YtdpdibhapjgdeaaWrH
import Derived.Lib.SlBytesConst
namespace Go.Proofs.Ytdpdibhapjgdeaa
open Go Go.ChangeShapes Go.WideShapes Go.ChangeAt Go.RowKit

/-- A writer that a call made for itself. -/
structure WrOwn (w0 w : World) (p : Nat) (v : Value) (xs : List Int) : Prop where
  wr : WrW w p v xs
  below : Below w0.heap.size w0 w
  lo : w0.heap.size ≤ p
  own : ∀ j, v.ownBlock = some j → w0.heap.size ≤ j
theorem WrOwn.new (w : World) : WrOwn w (w.alloc (.cells #[.slice none 0 0] 59)) w.heap.size (.slice none 0 0) [] :=
  ⟨⟨heap_alloc_new _ _, World.ownsRow_nil _ _ _ _, by simp [Value.ownBlock]⟩, (Below.refl _ _).alloc (Nat.le_refl _) _, Nat.le_refl _, fun j h => by simp [Value.ownBlock] at h⟩
theorem WrOwn.fp {w0 w : World} {p : Nat} {v : Value} {xs : List Int} (h : WrOwn w0 w p v xs) : ∀ k, (k = p ∨ v.ownBlock = some k) → w0.heap.size ≤ k := fun k hk => by
  rcases hk with rfl | hk
  · exact h.lo
  · exact h.own k hk
theorem WrOwn.to {w0 w w' : World} {p : Nat} {v v' : Value} {xs ys : List Int} (h : WrOwn w0 w p v xs) (k : WrTo w p v w' v' ys) : WrOwn w0 w' p v' ys :=
  ⟨k.wr, h.below.trans (k.fr.below h.below.size h.fp), h.lo, fun j hj => by
    rcases k.own j hj with h1 | h1
    · exact h.own j h1
    · exact Nat.le_trans h.below.size h1⟩
theorem WrOwn.on {w0 w w' : World} {p : Nat} {v : Value} {xs : List Int} (h : WrOwn w0 w p v xs) (hB : Below w.heap.size w w') : WrOwn w0 w' p v xs :=
  ⟨h.wr.fr (Fr.of_below (fp := fun _ => False) hB) (fun h => h) (fun _ _ h => h), h.below.trans (hB.mono h.below.size), h.lo, h.own⟩

theorem Num_good (w : World) (p : Nat) (v : Value) (xs : List Int) (n s : Int) (h : WrW w p v xs) (h0 : 0 ≤ n) (hl : xs.length ≤ 100000000) (hg : numOk n s = true) :
    Calls Try.prog 16 #[.pointer (some ⟨p, 0, none⟩), .int .u64 n, .int .i64 s] w fun e w' => e = .returned (.int .i64 0) ∧ ∃ v', WrTo w p v w' v' (lay xs n s.toNat) := by
  refine (Num_any w p v xs n s h h0 hl).mono ?_
  rintro e w' ⟨h1, h2⟩
  rw [hg] at h1 h2
  exact ⟨h1, h2⟩
theorem Text_good (w : World) (p : Nat) (v : Value) (xs ys : List Int) (ad : Option Addr) (n cap : Nat) (h : WrW w p v xs) (hb : Bs w w.heap.size ad ys) (hn : n = ys.length) (h0 : ad = none → cap = 0 ∧ n = 0)
    (hd : ∀ b o, ad = some ⟨b, o, none⟩ → b ≠ p ∧ v.ownBlock ≠ some b) (hl : xs.length ≤ 90000000) (hn2 : n ≤ 65535) :
    Calls Try.prog 13 #[.pointer (some ⟨p, 0, none⟩), .slice ad n cap] w fun e w' => e = .returned (.int .i64 0) ∧ ∃ v', WrTo w p v w' v' (layT xs ys) := by
  refine (Text_any w p v xs ys ad n cap h hb hn h0 hd hl (by omega)).mono ?_
  rintro e w' ⟨h1, h2⟩
  rw [show textOk ys = true by unfold textOk; simp; omega] at h1 h2
  exact ⟨h1, h2⟩
def ex14 : List Int := [1, 0, 0, 0, 2, 0, 0, 0, 2, 0, 0, 0, 97, 98]
theorem ex14_eq : layT (lay (lay [] 1 (1 : Int).toNat) 2 (4 : Int).toNat) [97, 98] = ex14 := by decide +kernel
theorem ex_lens : (lay [] 1 (1 : Int).toNat).length ≤ 100 ∧ (lay (lay [] 1 (1 : Int).toNat) 2 (4 : Int).toNat).length ≤ 100 ∧ numOk 1 1 = true ∧ numOk 2 4 = true := by decide +kernel
set_option maxHeartbeats 1000000 in
theorem awake_any (w : World) : Calls Try.prog 10 #[] w fun e w' => e = .returned (.bool true) ∧ Below w.heap.size w w' := by
  obtain ⟨l1, l2, g1, g2⟩ := ex_lens
  have HE := hid ex14_eq
  have G1 := hid g1
  have G2 := hid g2
  obtain ⟨x1, hx1⟩ : ∃ x1, x1 = lay [] 1 (1 : Int).toNat := ⟨_, rfl⟩
  rw [← hx1] at l1 l2 HE
  obtain ⟨x2, hx2⟩ : ∃ x2, x2 = lay x1 2 (4 : Int).toNat := ⟨_, rfl⟩
  rw [← hx2] at l2 HE
  have X1 := hid hx1
  have X2 := hid hx2
  clear g1 g2 hx1 hx2
  go_enter Try.func10, Try.ntmps10
  go_wp2_with fail
  refine (NewWriter_any _).mono ?_
  rintro e w1 ⟨rfl, rfl⟩
  have h1 := WrOwn.new w
  obtain ⟨p, hp⟩ : ∃ p, p = w.heap.size := ⟨_, rfl⟩
  obtain ⟨w1, hw1⟩ : ∃ w1, w1 = w.alloc (.cells #[.slice none 0 0] 59) := ⟨_, rfl⟩
  rw [← hw1, ← hp] at h1 ⊢
  have H1 := hid h1
  clear hw1 h1 hp
  go_wp2_with fail
  refine (Num_good w1 p _ _ 1 1 H1.out.wr (by decide) (by decide) G1.out).mono ?_
  rintro e w2 ⟨rfl, v2, h2⟩
  rw [← X1.out] at h2
  have H2 := hid (H1.out.to h2)
  clear h2
  go_wp2_with fail
  refine (Num_good w2 p _ _ 2 4 H2.out.wr (by decide) (by omega) G2.out).mono ?_
  rintro e w3 ⟨rfl, v3, h3⟩
  rw [← X2.out] at h3
  have H3 := hid (H2.out.to h3)
  clear h3
  have hcv := fun (W : World) (C : Array Value) (n c : Nat) => Lib.run_convert_bytes_const (P := Try.prog) W 27 5 C n c Try.underlying27 Try.underlying5
  go_wp2_with fail
  clear hcv
  have h4 : WrOwn w (w3.alloc (.cells #[.int .u8 97, .int .u8 98] 5 (2, 3))) p v3 x2 := H3.out.on ((Below.refl _ _).alloc (Nat.le_refl _) _)
  have hb4 : Bs (w3.alloc (.cells #[.int .u8 97, .int .u8 98] 5 (2, 3))) (w3.alloc (.cells #[.int .u8 97, .int .u8 98] 5 (2, 3))).heap.size (some ⟨w3.heap.size, 0, none⟩) [97, 98] :=
    ⟨fun _ => ⟨_, _, rfl, by simp⟩, fun b o he => by
      cases he
      exact AtL.row (fz := (2, 3)) (t := 5) (heap_alloc_new _ _)⟩
  have hd4 : ∀ b o, (some ⟨w3.heap.size, 0, none⟩ : Option Addr) = some ⟨b, o, none⟩ → b ≠ p ∧ v3.ownBlock ≠ some b := fun b o he => by
    cases he
    have h5 := H3.out.wr.lt
    refine ⟨by omega, fun e => ?_⟩
    have := (H3.out.wr.row.lt _ e).2
    omega
  obtain ⟨w4, hw4⟩ : ∃ w4, w4 = w3.alloc (.cells #[.int .u8 97, .int .u8 98] 5 (2, 3)) := ⟨_, rfl⟩
  obtain ⟨b4, hbq⟩ : ∃ b4, b4 = w3.heap.size := ⟨_, rfl⟩
  rw [← hw4] at h4 hb4 ⊢
  rw [← hbq] at hb4 hd4 ⊢
  have H4 := hid h4
  have HB4 := hid hb4
  have HD4 := hid hd4
  clear h4 hb4 hd4 hw4 hbq
  refine (Text_good w4 p v3 x2 [97, 98] _ 2 2 H4.out.wr HB4.out rfl (fun h => by cases h) HD4.out (by omega) (by omega)).mono ?_
  rintro e w5 ⟨rfl, v5, h5⟩
  rw [HE.out] at h5
  have H5 := hid (H4.out.to h5)
  clear h5
  go_wp2_with fail
  refine (Bytes_any w5 p v5 _ H5.out.wr (by decide +kernel)).mono ?_
  rintro e w6 ⟨v6, rfl, hrow6, hb6⟩
  obtain ⟨a6, k6, rfl⟩ := own_form hrow6
  have HB6 := hid (H5.out.below.trans (hb6.mono H5.out.below.size))
  have HR6 := hid (own_bs hrow6)
  clear hrow6 hb6
  have hl14 : ex14.length = 14 := rfl
  rw [hl14]
  go_wp2_with fail
  obtain ⟨w7, hw7⟩ : ∃ w7, w7 = w6.alloc (.cells #[.int .u8 1, .int .u8 0, .int .u8 0, .int .u8 0, .int .u8 2, .int .u8 0, .int .u8 0, .int .u8 0, .int .u8 2, .int .u8 0, .int .u8 0, .int .u8 0, .int .u8 97, .int .u8 98] 5) := ⟨_, rfl⟩
  have hb7 : Below w6.heap.size w6 w7 := by rw [hw7]; exact (Below.refl _ _).alloc (Nat.le_refl _) _
  have hc7 : Bs w7 w7.heap.size (some ⟨w6.heap.size, 0, none⟩) ex14 :=
    ⟨fun _ => ⟨_, _, rfl, by rw [hw7]; simp⟩, fun b o he => by
      cases he
      rw [hw7]
      exact AtL.row (fz := (0, 0)) (t := 5) (heap_alloc_new _ _)⟩
  have ha7 : Bs w7 w7.heap.size a6 ex14 := (HR6.out.below hb7).mono hb7.size
  have HS := hid (SameBytes_any w7 a6 (some ⟨w6.heap.size, 0, none⟩) k6 14 14 14 ex14 ex14 rfl rfl ha7 hc7 (by omega) (by omega))
  have HB7 := hid (HB6.out.trans (hb7.mono HB6.out.size))
  rw [← hw7]
  obtain ⟨b7, hbq⟩ : ∃ b7, b7 = w6.heap.size := ⟨_, rfl⟩
  rw [← hbq] at HS ⊢
  clear hw7 hb7 hc7 ha7 hbq
  refine HS.out.mono ?_
  rintro e w8 ⟨rfl, h8⟩
  have H8 := hid (HB7.out.trans (h8.mono HB7.out.size))
  clear h8
  rw [show (ex14 == ex14) = true by simp]
  go_wp2
  go_ret
  exact ⟨rfl, H8.out⟩
end Go.Proofs.Ytdpdibhapjgdeaa
