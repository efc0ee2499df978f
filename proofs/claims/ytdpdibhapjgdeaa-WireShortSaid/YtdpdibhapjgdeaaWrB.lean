/-
  The contracts of Room, SameBytes, number, slices.Clone, NewWriter, Kept.
-/
import Derived.Test.YtdpdibhapjgdeaaWrA
namespace Go.Proofs.Ytdpdibhapjgdeaa
open Go Go.ChangeShapes Go.WideShapes Go.ChangeAt Go.RowKit

theorem div_pow_succ (n : Int) (k : Nat) : n / 256 ^ k / 256 = n / 256 ^ (k + 1) := by
  rw [Int.ediv_ediv_of_nonneg (Int.le_of_lt (Int.pow_pos (by omega))), Int.pow_succ]
theorem wrap_div256 {z : Int} (h0 : 0 ≤ z) (h1 : z ≤ 18446744073709551615) : IntKind.u64.wrap (z.tdiv 256) = z / 256 := by
  rw [Int.tdiv_eq_ediv_of_nonneg h0]
  exact IntWalk.u64_in _ ⟨by omega, by omega⟩
theorem getD_at {xs : List Int} {q : Nat} (h : q < xs.length) : xs[q]? = some (xs.getD q 0) := by simp [h]
theorem Room_any (n : Int) (k : Nat) (w : World) (hk : Siz k) (h0 : 0 ≤ n) (hn1 : n ≤ 18446744073709551615) : Calls Try.prog 18 #[.int .u64 n, .int .i64 k] w fun e w' => e = .returned (.bool (decide (n < 256 ^ k))) ∧ w = w' := by
  have E := hid (room_eq (k := k) h0)
  have hk8 : k ≤ 8 := by rcases hk with rfl | rfl | rfl | rfl <;> omega
  clear hk
  go_enter Try.func18, Try.ntmps18
  go_wp2
  go_loop [0, 5] (fun v i => ∃ q : Nat, q ≤ k ∧ i = .int .i64 q ∧ ∃ z : Int, v = .int .u64 z ∧ 0 ≤ z ∧ z ≤ 18446744073709551615 ∧ RowKit.Hid (z = n / 256 ^ q)) (fun _ i => k - (intOf i).toNat)
  case atStart => exact ⟨0, by omega, rfl, n, rfl, h0, hn1, hid (by simp)⟩
  case round =>
    obtain ⟨q, hq, rfl, z, rfl, hz, hz1, HZ⟩ := hrel
    by_cases hqk : q < k
    · have hw := wrap_div256 hz hz1
      have hz2 : z / 256 ≤ 18446744073709551615 := by omega
      have hz3 : 0 ≤ z / 256 := by omega
      go_wp2
      go_round
      case rel => exact ⟨q + 1, by omega, by go_num, z / 256, rfl, hz3, hz2, hid (by rw [HZ.out, div_pow_succ])⟩
      case measure => simp [intOf]; omega
    · obtain rfl : q = k := by omega
      go_wp2
      go_ret
      exact ⟨ret_bool (by rw [HZ.out, ← E.out]), rfl⟩
/-- SameBytes: two rows of bytes. -/
theorem SameBytes_any (w : World) (a b : Option Addr) (ka kb n m : Nat) (xs ys : List Int) (hn : n = xs.length) (hm : m = ys.length) (ha : Bs w w.heap.size a xs) (hb : Bs w w.heap.size b ys) (hn2 : n ≤ 1000000000) (hm2 : m ≤ 1000000000) :
    Calls Try.prog 21 #[.slice a n ka, .slice b m kb] w fun e w' => e = .returned (.bool (xs == ys)) ∧ Below w.heap.size w w' := by
  by_cases hnm : n = m
  · subst hnm
    have HA := hid ha
    have HB := hid hb
    have HN := hid hn
    have HM := hid hm
    clear ha hb hn hm
    go_enter Try.func21, Try.ntmps21
    go_wp2
    go_loopw [5] (fun i wr => ∃ q : Nat, q ≤ n ∧ i = .int .i64 q ∧ RowKit.Hid (xs.take q = ys.take q) ∧ RowKit.Hid (Below w.heap.size w wr)) (fun i _ => n - (intOf i).toNat)
    case atStart => exact ⟨0, by omega, rfl, hid rfl, hid (Below.refl _ _)⟩
    case round =>
      obtain ⟨q, hq1, rfl, HT, HW⟩ := hrel
      by_cases hql : q < n
      · obtain ⟨g, o, rfl, _⟩ := HA.out.some (by have := HN.out; omega)
        obtain ⟨g2, o2, rfl, _⟩ := HB.out.some (by have := HM.out; omega)
        have c1 := (HA.out.below HW.out).cell (j := q) (by have := HN.out; omega)
        have c2 := (HB.out.below HW.out).cell (j := q) (by have := HM.out; omega)
        have e1 : xs[q]? = some (xs.getD q 0) := getD_at (by have := HN.out; omega)
        have e2 : ys[q]? = some (ys.getD q 0) := getD_at (by have := HM.out; omega)
        generalize xs.getD q 0 = x at *
        generalize ys.getD q 0 = y at *
        have E1 := hid e1
        have E2 := hid e2
        clear e1 e2
        by_cases hxy : x = y
        · subst hxy
          go_wp2
          go_region
          all_goals
            go_wp2
            go_roundw
            case rel => exact ⟨q + 1, by omega, by go_num, hid (by rw [List.take_add_one, List.take_add_one, HT.out, E1.out, E2.out]), hid HW.out.drew⟩
            case measure => simp [intOf]; omega
        · have hd : (x != y) = true := by simpa using hxy
          have hne : (xs == ys) = false := by
            rw [beq_eq_false_iff_ne]
            intro e
            have h1 := E1.out
            rw [e, E2.out] at h1
            exact hxy (Option.some.inj h1).symm
          have HNE := hid hne
          clear hxy hne
          go_wp2
          go_region
          all_goals
            go_wp2
            go_ret
            exact ⟨ret_bool HNE.out.symm, HW.out.drew⟩
      · obtain rfl : q = n := by omega
        go_wp2
        go_ret
        have h1 := HT.out
        rw [List.take_of_length_le (by have := HN.out; omega), List.take_of_length_le (by have := HM.out; omega)] at h1
        exact ⟨ret_bool (by rw [h1]; simp), HW.out⟩
  · have hne : (xs == ys) = false := by
      rw [beq_eq_false_iff_ne]
      intro e
      rw [e] at hn; omega
    have HNE := hid hne
    have hd : (n : Int) ≠ m := by omega
    have hd2 : ((n : Int) != (m : Int)) = true := by simpa using hd
    have hd3 : (n != m) = true := by simpa using hnm
    clear hne hnm hd ha hb hn hm
    go_enter Try.func21, Try.ntmps21
    go_wp2
    go_ret
    exact ⟨ret_bool HNE.out.symm, Below.refl _ _⟩
theorem valL_take {xs : List Int} {q : Nat} {x : Int} (h : xs[q]? = some x) : valL (xs.take (q + 1)) = valL (xs.take q) + x * 256 ^ q := by
  have hq : q < xs.length := (List.getElem?_eq_some_iff.1 h).1
  rw [List.take_add_one, h, Option.toList_some, valL_app]
  congr 3
  simp; omega
theorem or_pow {v x : Int} {q : Nat} (hq : q < 8) (h0 : 0 ≤ v) (h1 : v < 256 ^ q) (hx0 : 0 ≤ x) (hx : x ≤ 255) : bits .or .u64 v (x * 256 ^ q) = v + x * 256 ^ q := by
  obtain ⟨a, rfl⟩ := Int.eq_ofNat_of_zero_le h0
  obtain ⟨b, rfl⟩ := Int.eq_ofNat_of_zero_le hx0
  have e1 : ((256 : Int) ^ q) = ((256 ^ q : Nat) : Int) := by rw [Int.natCast_pow]; rfl
  have hp : (256 : Nat) ^ q = 2 ^ (8 * q) := by rw [Nat.pow_mul]
  rw [e1] at h1 ⊢
  have h1' : a < 256 ^ q := by omega
  have hm : 256 ^ q ≤ 256 ^ 7 := Nat.pow_le_pow_right (by omega) (by omega)
  have h7 : (256 : Nat) ^ 7 = 72057594037927936 := by decide
  have hb : b * 256 ^ q ≤ 255 * 72057594037927936 := Nat.mul_le_mul (by omega) (by omega)
  have h2 := u64_or_nat a (b * 256 ^ q) (by omega) (by omega)
  have h3 : (a ||| b * 256 ^ q) = a + b * 256 ^ q := by
    rw [Nat.or_comm, hp, or_add b a (8 * q) (by rw [← hp]; exact h1'), Nat.add_comm]
  rw [h3] at h2
  simpa using h2
theorem shl_pow {x : Int} {q : Nat} (hq : q < 8) (hx0 : 0 ≤ x) (hx : x ≤ 255) : IntKind.u64.wrap (x * 256 ^ q) = x * 256 ^ q := by
  have hm : (256 : Nat) ^ q ≤ 256 ^ 7 := Nat.pow_le_pow_right (by omega) (by omega)
  have h7 : (256 : Nat) ^ 7 = 72057594037927936 := by decide
  have e1 : ((256 : Int) ^ q) = ((256 ^ q : Nat) : Int) := by rw [Int.natCast_pow]; rfl
  obtain ⟨b, rfl⟩ := Int.eq_ofNat_of_zero_le hx0
  have hb : b * 256 ^ q ≤ 255 * 72057594037927936 := Nat.mul_le_mul (by omega) (by omega)
  rw [e1]
  exact IntWalk.u64_in _ ⟨by omega, by have : ((b : Int) * ((256 ^ q : Nat) : Int)) = ((b * 256 ^ q : Nat) : Int) := by simp
                                       omega⟩
theorem getD_byt {xs : List Int} (h : Byt xs) (q : Nat) : 0 ≤ xs.getD q 0 ∧ xs.getD q 0 ≤ 255 := by
  by_cases hq : q < xs.length
  · exact h _ (List.mem_of_getElem? (getD_at hq))
  · simp [hq]
theorem pow8 (q : Nat) : (2 : Int) ^ (8 * q) = 256 ^ q := by
  rw [Int.pow_mul]; rfl
/-- number: a row of eight bytes at most. -/
theorem number_any (w : World) (a : Option Addr) (ka n : Nat) (xs : List Int) (hn : n = xs.length) (ha : Bs w w.heap.size a xs) (hb : Byt xs) (hn2 : n ≤ 8) :
    Calls Try.prog 36 #[.slice a n ka] w fun e w' => e = .returned (.int .u64 (valL xs)) ∧ Below w.heap.size w w' := by
  have HA := hid ha
  have HN := hid hn
  have HB := hid hb
  clear ha hn hb
  go_enter Try.func36, Try.ntmps36
  go_wp2
  go_loopw [3, 7] (fun v i wr => ∃ q : Nat, q ≤ n ∧ i = .int .i64 q ∧ ∃ z : Int, v = .int .u64 z ∧ RowKit.Hid (z = valL (xs.take q)) ∧ RowKit.Hid (Below w.heap.size w wr)) (fun _ i _ => n - (intOf i).toNat)
  case atStart => exact ⟨0, by omega, rfl, 0, rfl, hid rfl, hid (Below.refl _ _)⟩
  case round =>
    obtain ⟨q, hq1, rfl, z, rfl, HZ, HW⟩ := hrel
    by_cases hql : q < n
    · obtain ⟨g, o, rfl, _⟩ := HA.out.some (by have := HN.out; omega)
      have c1 := (HA.out.below HW.out).cell (j := q) (by have := HN.out; omega)
      have e1 : xs[q]? = some (xs.getD q 0) := getD_at (by have := HN.out; omega)
      obtain ⟨b0, b1⟩ := getD_byt HB.out q
      generalize xs.getD q 0 = x at *
      have hz := valL_pos (xs.take q) (HB.out.sub fun _ h => List.mem_of_mem_take h)
      have hl : (xs.take q).length = q := by have := HN.out; simp; omega
      rw [hl, ← HZ.out] at hz
      have hor := or_pow (q := q) (by omega) hz.1 hz.2 b0 b1
      have hsh := shl_pow (q := q) (by omega) b0 b1
      have hnx := valL_take e1
      rw [← HZ.out] at hnx
      have HOR := hid hor
      have HSH := hid hsh
      have HNX := hid hnx
      clear hor hsh hnx hz hl e1
      go_wp2
      go_roundw
      case rel => exact ⟨q + 1, by omega, by go_num, z + x * 256 ^ q, by rw [pow8, HSH.out, HOR.out], hid HNX.out.symm, HW⟩
      case measure => simp [intOf]; omega
    · obtain rfl : q = n := by omega
      have ht : xs.take q = xs := List.take_of_length_le (by have := HN.out; omega)
      have hz := HZ.out
      rw [ht] at hz
      have HZZ := hid hz
      clear hz ht HZ
      go_wp2
      go_ret
      exact ⟨ret_int HZZ.out, HW.out⟩

theorem info5 : (Try.prog.info? 5).map (fun i => (i.zero, i.size, i.bytes)) = some (some (.int .u8 0), 1, 1) := by kernel_rfl
theorem rows_nil (W : World) : (binOp .eql 27 (.slice none 0 0) (.slice none 0 0)).run Try.prog W = .ok (.bool true) W := by kernel_rfl
theorem rows_not (a : Addr) (n k : Nat) (W : World) : (binOp .eql 27 (.slice (some a) n k) (.slice none 0 0)).run Try.prog W = .ok (.bool false) W := by kernel_rfl
def RowPost (w : World) (xs : List Int) (e : Ending) (w' : World) : Prop := ∃ v, e = .returned v ∧ w'.ownsRow w.heap.size 5 1 v xs.length (u8l xs) ∧ Below w.heap.size w w'
theorem u8l_one (xs : List Int) : ∀ u ∈ u8l xs, u.oneCell' = true := fun u hu => by
  simp only [u8l, List.mem_map] at hu
  obtain ⟨x, _, rfl⟩ := hu
  rfl
/-- Bytes, as cells from an address on. -/
theorem Bs.news {w : World} {B b o : Nat} {xs : List Int} (h : Bs w B (Option.some ⟨b, o, none⟩) xs) : ∀ j u, (u8l xs)[j]? = Option.some u → w.cell? ((⟨b, o, none⟩ : Addr).add j) = Option.some u := fun j u hu => by
  have h1 := h.cells b o rfl j u hu
  cases j with
  | zero => simpa [Addr.add] using h1
  | succ j => simpa [Addr.add] using h1
theorem u8l_app (xs ys : List Int) : u8l (xs ++ ys) = u8l xs ++ u8l ys := by simp [u8l]
/-- slices.Clone: any bytes. -/
theorem Clone_any (w : World) (a : Option Addr) (ka n : Nat) (xs : List Int) (hn : n = xs.length) (ha : Bs w w.heap.size a xs) (h0 : a = none → ka = 0 ∧ n = 0) (hn2 : n ≤ 1000000000) :
    Calls Try.prog 33 #[.slice a n ka] w (RowPost w xs) := by
  cases a with
  | none =>
    obtain ⟨rfl, rfl⟩ := h0 rfl
    have hx : xs = [] := List.eq_nil_of_length_eq_zero hn.symm
    subst hx
    clear ha h0 hn
    have hq := rows_nil
    go_enter Try.func33, Try.ntmps33
    go_wp2
    go_ret
    exact ⟨_, rfl, World.ownsRow_nil _ _ _ _, Below.refl _ _⟩
  | some a =>
    obtain ⟨i0, hi, hz0, hz1, hz2⟩ := info_parts info5
    have hi' := hid hi
    have hz0' := hid hz0
    have hz1' := hid hz1
    have hz2' := hid hz2
    have hq := rows_not
    have hnews : ∀ o : Obj, ∀ (j : Nat) (u : Value), (u8l xs)[j]? = some u → (w.alloc o).cell? (a.add j) = some u := fun o j u hu => by
      have hj : j < xs.length := by
        have := (List.getElem?_eq_some_iff.1 hu).1
        simpa [u8l] using this
      obtain ⟨b, o', he, _⟩ := ha.some (by omega)
      cases he
      exact (ha.below ((Below.refl _ _).alloc (Nat.le_refl _) o)).news j u hu
    have HNW := hid hnews
    have HN := hid hn
    have HL := hid (show (u8l xs).length = n * 1 by rw [u8l_len, hn]; omega)
    clear hi hz0 hz1 hz2 ha h0 hnews hn
    go_enter Try.func33, Try.ntmps33
    go_wp2_with (at_builtin; refine wpList_append_own _ (o := ⟨some 7, _, _, _, _, _⟩) rfl (.tmp 5) (.tmp 6) 27 rfl w.heap.size 5 i0 (.int .u8 0) 1 1 Try.underlying27 hi'.out hz0'.out hz1'.out hz2'.out rfl (by decide) (.slice (some ⟨w.heap.size, 0, none⟩) 0 0) 0 [] rfl (World.ownsRow_made w #[] 0 (Nat.le_refl _) (Nat.zero_le _) rfl) a n ka (u8l xs) rfl HL.out (HNW.out _) (u8l_one xs) (by unfold maxLen; omega) (by omega) (by simp) ?_; intro v5 w5 hown5 hgrow5 hnil5)
    have HO := hid hown5
    have HG := hid hgrow5
    clear hown5 hgrow5 hnil5
    go_ret
    refine ⟨_, rfl, ?_, ((Below.refl _ _).alloc (Nat.le_refl _) _).grown HG.out (by simp) (fun k hk => by simp [Value.ownBlock] at hk; omega)⟩
    have := HO.out
    rw [Nat.zero_add, List.nil_append, HN.out] at this
    exact this
/-- NewWriter: a writer without bytes. -/
theorem NewWriter_any (w : World) : Calls Try.prog 11 #[] w fun e w' => e = .returned (.pointer (some ⟨w.heap.size, 0, none⟩)) ∧ w' = w.alloc (.cells #[.slice none 0 0] 59) := by
  go_enter Try.func11, Try.ntmps11
  go_wp2
  go_ret
  exact ⟨rfl, rfl⟩
end Go.Proofs.Ytdpdibhapjgdeaa
